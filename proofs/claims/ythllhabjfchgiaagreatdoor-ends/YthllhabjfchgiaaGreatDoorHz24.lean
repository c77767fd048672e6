import Derived.Test.YthllhabjfchgiaaGreatDoorHz23
set_option maxRecDepth 100000
set_option maxHeartbeats 8000000
namespace Go.Proofs.YthllhabjfchgiaaGreatDoor
open _root_.Go.Proofs.Tryz
section
open Go.RowKit Hx
attribute [local go_sem ↓] Go.wp_at_zero Go.wp_at_succ
attribute [local go_sem] bT
section
variable {s:ByteArray}{ex:Ps->Ex×Ps}{d:Nat}{p:Ps}{r:Ex×Ps}
theorem TD:∀(l:List UInt8)(acc:Nat),(∀b∈l,pR b.toNat=true)->∃n,Lib.decFrom acc l=some n
 |[],acc,_=>⟨acc,rfl⟩
 |b::r,acc,h=>by
  have hb:=h b (List.mem_cons_self ..);simp only[pR,Bool.and_eq_true,decide_eq_true_eq]at hb;have hv:Lib.digitVal b=some (b.toNat-48):=by unfold Lib.digitVal;rw[if_pos (by omega)]
  unfold Lib.decFrom;rw[hv];exact TD r _ fun c hc=>h c (List.mem_cons_of_mem _ hc)
theorem Z5(l:List UInt8)(hl:l≠[])(h:∀b∈l,pR b.toNat=true):∃n,Lib.atoi l=some n:=by
 cases l with
 |nil=>exact absurd rfl hl
 |cons b r=>
  have hb:=h b (List.mem_cons_self ..);simp only[pR,Bool.and_eq_true,decide_eq_true_eq]at hb;have n1:(b==45)=false:=by
   cases hc:b==45 with
   |false=>rfl
   |true=>rw[beq_iff_eq.1 hc]at hb;simp at hb
  have n2:(b==43)=false:=by
   cases hc:b==43 with
   |false=>rfl
   |true=>rw[beq_iff_eq.1 hc]at hb;simp at hb
  obtain⟨n,hn⟩:=TD (b::r) 0 h;refine⟨n,?_⟩;simp only[Lib.atoi,n1,n2,Bool.false_eq_true,if_false,Lib.decNat,List.isEmpty_cons,hn,Option.map_some]
theorem aeY(hs:s.size<=4000)(ok:p.Ok s)(hk:p.k.kind=3):eH 273 [] s p (xG p.k.at' ((Lib.atoi p.k.text.data.toList).getD 0),p.next s):=by
 obtain⟨h1,h2,h3⟩:=ok.kinds.number hk;obtain⟨n,hn⟩:=Z5 p.k.text.data.toList (fun e=>by
  have:p.k.text.data.toList.length=0:=by rw[e];rfl
  rw[Array.length_toList]at this;have h4:p.k.text.size=0:=this;omega) h3
 intro P w h;refine(aeX hs ok.tok n h2 hn rfl w h).mono ?_;rintro e w' ⟨v,rfl,⟨A,rfl,hA,hh⟩,hp,hg⟩;refine⟨_,rfl,?_,hp,hg⟩;rw[hn];exact⟨A,[],rfl,hA,dS hh,rfl,hh⟩
theorem Xp{P:Nat}{w:World}(h:aC w P s p)(ok:p.Ok s)(hs:s.size<=4000)(hk:p.k.kind=4):Calls prog 235 #[Pt P 0] w (dP P s w (Im ((p.k.text.data.toList.getD 1 0).toNat-48)) (p.next s)):=by
 obtain⟨x,h1,h2,h3⟩:=ok.kinds.register hk;have hsz:p.k.text.size=2:=by
  have:p.k.text.data.toList.length=2:=by rw[h1];rfl
  rw[Array.length_toList]at this;exact this
 have hx:p.k.text.data.toList.getD 1 0=x:=by rw[h1];rfl
 have hb:p.k.text[1]'(by omega)=x:=by rw[<-GL p.k.text 1 (by omega)];exact hx
 rw[hx];exact agR h hs ok.tok ((x.toNat:Int)-48) (by omega) (by rw[hb];omega) (by omega) (by omega)
theorem Lm(at':Int)(w:World):Calls prog 234 #[Im at',Nl] w fun e w'=>e=.returned (.agg #[Im at',Im 1])/\w.grownBy w' none:=by
 have h:=uO at' (Nl) [] (w:=w) ⟨fun _ h=>(List.not_mem_nil h).elim,by simp,Or.inl ⟨rfl,rfl⟩⟩;have hpc:bD []=1:=by decide
 rw[hpc]at h;exact h
theorem EM{T' T:TypeId}{at' aj kind:Int}{mk:List Value->List Value}{dn:Dn}{w:World}{lo:Nat}(hlo:lo<=w.heap.size)(a:Int){o:Obj}
 (ho:o=.cells (Im a::Im aj::Im kind::mk []).toArray T):(lW T' T at' aj kind yP mk dn).here a (w.alloc o) lo (w.alloc o).heap.size (.iface T' (Pt w.heap.size 0)):=
 EY Ac rfl hlo a ho
theorem aac(hs:s.size<=4000)(ok:p.Ok s)(hk:p.k.kind=3):eH 270 [] s p (xG p.k.at' ((Lib.atoi p.k.text.data.toList).getD 0),p.next s):=by
 intro P w h;have HQ:Hid (Calls prog 273 #[Pt P 0] w fun e w'=>∃v,e=.returned v/\(xG p.k.at' ((Lib.atoi p.k.text.data.toList).getD 0)).here p.k.at' w' w.heap.size w'.heap.size v/\aC w' P s (p.next s)/\w.grownBy w' (some P)):=aeY hs ok hk P w h;have c1:=bK.c1 h;have c2:=bK.c2 h;have c3:=bK.c3 h;rw[hk]at c1;show Calls prog 270 #[Pt P 0] w fun e w'=>∃v,e=.returned v/\(xG p.k.at' ((Lib.atoi p.k.text.data.toList).getD 0)).here p.k.at' w' w.heap.size w'.heap.size v/\aC w' P s (p.next s)/\w.grownBy w' (some P);generalize xG p.k.at' ((Lib.atoi p.k.text.data.toList).getD 0)=X at *;generalize p.next s=q at *;generalize p.k.text=kt at *;generalize p.k.at'=ka at *;clear h ok hk;go_enter func270,ntmps270;go_wp2_with fail;refine HQ.out.mono ?_;rintro e w2 ⟨v,rfl,h1⟩;have HH:Hid (X.here ka w2 w.heap.size w2.heap.size v/\aC w2 P s q/\w.grownBy w2 (some P)):=h1;clear h1 HQ;go_wp2_with fail;go_ret;exact⟨_,rfl,HH.out⟩
theorem aag(hs:s.size<=4000)(ok:p.Ok s)(hk:p.k.kind=4):eH 270 [] s p (Dz p.k.at' ((p.k.text.data.toList.getD 1 0).toNat-48),p.next s):=by
 intro P w h;have HR:Hid (∀x,w.grownBy x none->Calls prog 235 #[Pt P 0] x (dP P s x (Im ((p.k.text.data.toList.getD 1 0).toNat-48)) (p.next s))):=fun x hx=>Xp (h.grow hx) ok hs hk;have c1:=bK.c1 h;have c2:=bK.c2 h;have c3:=bK.c3 h;rw[hk]at c1;show Calls prog 270 #[Pt P 0] w fun e w'=>∃v,e=.returned v/\(Dz p.k.at' ((p.k.text.data.toList.getD 1 0).toNat-48)).here p.k.at' w' w.heap.size w'.heap.size v/\aC w' P s (p.next s)/\w.grownBy w' (some P);generalize ((p.k.text.data.toList.getD 1 0).toNat:Int)-48=i at *;generalize p.next s=q at *;generalize p.k.text=kt at *;generalize p.k.at'=ka at *;clear h ok hk;go_enter func270,ntmps270;go_wp2_with fail;refine(Lm ka _).mono ?_;rintro e w1 ⟨rfl,g1⟩;have kU:Hid (w.grownBy w1 none):=g1;clear g1;go_wp2_with fail;refine(HR.out _ kU.out).mono ?_;rintro e w2 ⟨rfl,p2,g2⟩;have HP2:Hid (aC w2 P s q/\w.grownBy w2 (some P)):=⟨p2,(kU.out.but _).trans g2⟩;clear p2 g2 HR kU;go_wp2_with fail;go_ret;exact⟨_,rfl,EM HP2.out.2.size ka rfl,HP2.out.1.grow (World.grownBy_alloc _ _ none),HP2.out.2.trans ((World.grownBy_alloc _ _ none).but _)⟩
theorem aai(hs:s.size<=4000)(ok:p.Ok s)(hk:p.k.kind=2):eH 270 [] s p (wK p.k.at' ⟨p.k.text,p.k.at'⟩,p.next s):=by
 intro P w h;have HR:Hid (∀x,w.grownBy x none->Calls prog 232 #[Pt P 0] x (dP P s x (.agg #[.string p.k.text,Im p.k.at']) (p.next s))):=fun x hx=>by
  have hn:=EP (h.grow hx) ok hs;have e1:p.name s=(⟨p.k.text,p.k.at'⟩,p.next s):=by unfold Hx.Ps.name;rw[if_pos hk]
  rw[e1]at hn;exact hn
 have c1:=bK.c1 h;have c2:=bK.c2 h;have c3:=bK.c3 h;rw[hk]at c1;show Calls prog 270 #[Pt P 0] w fun e w'=>∃v,e=.returned v/\(wK p.k.at' ⟨p.k.text,p.k.at'⟩).here p.k.at' w' w.heap.size w'.heap.size v/\aC w' P s (p.next s)/\w.grownBy w' (some P);generalize p.next s=q at *;generalize p.k.text=kt at *;generalize p.k.at'=ka at *;clear h ok hk;go_enter func270,ntmps270;go_wp2_with fail;refine(Lm ka _).mono ?_;rintro e w1 ⟨rfl,g1⟩;have kU:Hid (w.grownBy w1 none):=g1;clear g1;go_wp2_with fail;refine(HR.out _ kU.out).mono ?_;rintro e w2 ⟨rfl,p2,g2⟩;have HP2:Hid (aC w2 P s q/\w.grownBy w2 (some P)):=⟨p2,(kU.out.but _).trans g2⟩;clear p2 g2 HR kU;go_wp2_with fail;go_ret;exact⟨_,rfl,⟨0,EM (at':=ka) HP2.out.2.size ka rfl⟩,HP2.out.1.grow (World.grownBy_alloc _ _ none),HP2.out.2.trans ((World.grownBy_alloc _ _ none).but _)⟩
structure Plain(p:Ps):Prop where
 k3:¬p.k.kind=3
 k4:¬p.k.kind=4
 k2:¬p.k.kind=2
theorem Plain.Gt(h:Plain p):(p.k.kind==3)=false/\(p.k.kind==4)=false/\(p.k.kind==2)=false:=by
 obtain⟨h1,h2,h3⟩:=h;exact⟨by simp[h1],by simp[h2],by simp[h3]⟩
theorem dR{t:List UInt8}{b:Bool}(h:p.is t=b):(p.k.text.toList==t)=b:=by rw[ByteArray.toList_eq];exact h
theorem ajo{w:World}(b:Nat)(a a':Int)(h:w.cell? (Ad b 0)=some (Im a))(hf:∀j,w.frozen? (Ad b j)=false):Calls prog 357 #[Pt b 0,Im a'] w fun e w'=>e=.returned (.tuple #[])/\w'=w.setCell (Ad b 0) (Im a'):=by
 go_enter func357,ntmps357;go_wp2;go_end0;exact⟨rfl,rfl⟩
theorem aah(hs:s.size<=4000)(ok:p.Ok s)(hp:Plain p)(ht:p.is [116,114,117,101]=true\/(p.is [116,114,117,101]=false/\p.is [102,97,108,115,101]=true)):eH 270 [] s p (xP p.k.at' 1 2 (p.is [116,114,117,101]),p.next s):=by
 intro P w h;have HR:Hid (∀x,w.grownBy x none->Calls prog 236 #[Pt P 0] x (dP P s x (.agg #[Im p.k.kind,.string p.k.text,Im p.k.at']) (p.next s))):=fun x hx=>qQ (h.grow hx) ok hs;have c1:=bK.c1 h;have c2:=bK.c2 h;have c3:=bK.c3 h;obtain⟨k3,k4,k2⟩:=hp.Gt;have hft:=Gz p.k.kind p.k.at' p.k.text;have hb:p.is [116,114,117,101]=(p.k.text.toList==[116,114,117,101]):=by rw[ByteArray.toList_eq];rfl
 have ht':(p.k.text.toList==[116,114,117,101])=true\/((p.k.text.toList==[116,114,117,101])=false/\(p.k.text.toList==[102,97,108,115,101])=true):=by rw[ByteArray.toList_eq];exact ht
 show Calls prog 270 #[Pt P 0] w fun e w'=>∃v,e=.returned v/\(xP p.k.at' 1 2 (p.is [116,114,117,101])).here p.k.at' w' w.heap.size w'.heap.size v/\aC w' P s (p.next s)/\w.grownBy w' (some P);rw[hb];generalize p.next s=q at *;generalize p.k.kind=kk at *;generalize p.k.text=kt at *;generalize p.k.at'=ka at *;clear h ok ht hp hb;rcases ht' with t1|⟨t1,t2⟩;all_goals
  rw[t1];go_enter func270,ntmps270;go_wp2_with fail;refine(Lm ka _).mono ?_;rintro e w1 ⟨rfl,g1⟩;have kU:Hid (w.grownBy w1 none):=g1;clear g1;go_wp2_with fail;refine(HR.out _ kU.out).mono ?_;rintro e w2 ⟨rfl,p2,g2⟩;have HP2:Hid (aC w2 P s q/\w.grownBy w2 (some P)):=⟨p2,(kU.out.but _).trans g2⟩;clear p2 g2 HR kU;go_wp2_with fail;go_ret;exact⟨_,rfl,EM HP2.out.2.size ka rfl,HP2.out.1.grow (World.grownBy_alloc _ _ none),HP2.out.2.trans ((World.grownBy_alloc _ _ none).but _)⟩
theorem aad(hp:Plain p)(t1:p.is [116,114,117,101]=false)(t2:p.is [102,97,108,115,101]=false)(t3:p.is [40]=true)(hx:cZ r.1)(hq:eH 274 [] s p r):eH 270 [] s p (r.1.rF p.k.at',r.2):=by
 intro P w h;have hlt:=h.lt;have HQ:Hid (Calls prog 274 #[Pt P 0] w fun e w'=>∃v,e=.returned v/\r.1.here r.1.at' w' w.heap.size w'.heap.size v/\aC w' P s r.2/\w.grownBy w' (some P)):=hq P w h;have c1:=bK.c1 h;have c2:=bK.c2 h;have c3:=bK.c3 h;obtain⟨k3,k4,k2⟩:=hp.Gt;have t1:=dR t1;have t2:=dR t2;have t3:=dR t3;have HX:Hid (cZ r.1):=hx;show Calls prog 270 #[Pt P 0] w fun e w'=>∃v,e=.returned v/\r.1.here p.k.at' w' w.heap.size w'.heap.size v/\aC w' P s r.2/\w.grownBy w' (some P);generalize p.k.kind=kk at *;generalize p.k.text=kt at *;generalize p.k.at'=ka at *;clear h hq hp hx;go_enter func270,ntmps270;go_wp2_with fail;refine HQ.out.mono ?_;rintro e w1 ⟨v,rfl,e1,p1,g1⟩;obtain⟨T,b,rfl,hT,b1,b2,a0,a1,hf⟩:=HX.out.head _ _ _ _ _ e1;have hmw:=hT.rF b;have HW:Hid (Calls prog 357 #[Pt b 0,Im ka] w1 fun e w'=>e=.returned (.tuple #[])/\w'=w1.setCell (Ad b 0) (Im ka)):=ajo b _ ka a0 hf;have hne:P≠b:=by omega
 have HF:Hid (r.1.here ka (w1.setCell (Ad b 0) (Im ka)) w.heap.size (w1.setCell (Ad b 0) (Im ka)).heap.size (.iface T (Pt b 0))/\aC (w1.setCell (Ad b 0) (Im ka)) P s r.2/\w.grownBy (w1.setCell (Ad b 0) (Im ka)) (some P)):=by
  refine⟨?_,p1.yX hne _ _,kP g1 b1 _ _⟩;have hsz:(w1.setCell (Ad b 0) (Im ka)).heap.size=w1.heap.size:=Array.size_modify ..;rw[hsz];exact HX.out.rF _ _ _ _ _ _ _ e1
 clear e1 p1 g1 HQ hf a0 a1;go_wp2_with fail;refine HW.out.mono ?_;rintro e w2 ⟨rfl,hw2⟩;rw[hw2];go_wp2_with fail;go_ret;exact⟨_,rfl,HF.out⟩
theorem Z9(hs:s.size<=4000)(ok:p.Ok s)(hp:Plain p)(t1:p.is [116,114,117,101]=false)(t2:p.is [102,97,108,115,101]=false)(t3:p.is [40]=false)(t4:p.is [105,115,110,111,110,101]=true)(hx:cZ r.1)(hq:eH 274 [] s (p.next s) r):eH 270 [] s p (zW p.k.at' r.1,r.2):=by
 intro P w h;have hlt:=h.lt;have HN:Hid (Calls prog 236 #[Pt P 0] w (dP P s w (lY p.k) (p.next s))):=qQ h ok hs;have HQ:Hid (∀x,aC x P s (p.next s)->Calls prog 274 #[Pt P 0] x fun e w'=>∃v,e=.returned v/\r.1.here r.1.at' w' x.heap.size w'.heap.size v/\aC w' P s r.2/\x.grownBy w' (some P)):=fun x hx=>hq P x hx;have c1:=bK.c1 h;have c2:=bK.c2 h;have c3:=bK.c3 h;obtain⟨k3,k4,k2⟩:=hp.Gt;have t1:=dR t1;have t2:=dR t2;have t3:=dR t3;have t4:=dR t4;have HX:Hid (cZ r.1):=hx;have HK:Hid (yh (nU (r.1.here r.1.at'))):=uJ (hx.law _);show Calls prog 270 #[Pt P 0] w fun e w'=>∃v,e=.returned v/\(lW 395 397 p.k.at' (bD [r.1.aj]) 2 (nU (r.1.here r.1.at')) (fun us=>us)).here p.k.at' w' w.heap.size w'.heap.size v/\aC w' P s r.2/\w.grownBy w' (some P);generalize htk:lY p.k=tv at *;generalize p.next s=q at *;generalize p.k.kind=kk at *;generalize p.k.text=kt at *;generalize p.k.at'=ka at *;clear h hq hp hx ok htk;go_enter func270,ntmps270;go_wp2_with fail;refine HN.out.mono ?_;rintro e w1 ⟨rfl,p1,g1⟩;have bP:Hid (aC w1 P s q/\w.grownBy w1 (some P)):=⟨p1,g1⟩;clear p1 g1 HN;go_wp2_with fail;refine(HQ.out _ bP.out.1).mono ?_;rintro e w2 ⟨v,rfl,e2,p2,g2⟩;obtain⟨T,A,rfl,hmp,b1,b2,a1⟩:=HX.out.mQ e2;have HP2:Hid (r.1.here r.1.at' w2 w1.heap.size w2.heap.size (.iface T (Pt A 0))/\aC w2 P s r.2/\w1.grownBy w2 (some P)):=⟨e2,p2,g2⟩;have uq:Hid (Calls prog 244 #[Pt A 0] w2 fun e w'=>e=.returned (Im r.1.aj)/\w'=w2):=nZ A 0 _ a1;clear e2 p2 g2 HQ;go_wp2_with fail;refine uq.out.mono ?_;rintro e w3 ⟨rfl,rfl⟩
 go_wp2_with fail;refine(uO ka _ [r.1.aj] (PX w3 _ r.1.aj HX.out.aj.1 HX.out.aj.2)).mono ?_;rintro e w4 ⟨rfl,g4⟩;have sO:Hid (w3.grownBy w4 none):=(World.grownBy_alloc w3 _ none).trans g4;clear g4;have HU:Hid (nU (r.1.here r.1.at') w4 w.heap.size w4.heap.size [.iface T (Pt A 0)]/\w.heap.size<=w4.heap.size):=by
  have s1:=bP.out.2.size;have s2:=HP2.out.2.2.size;have s3:=sO.out.size;exact⟨⟨_,rfl,(HX.out.law _).wide _ _ _ _ _ _ ((HX.out.law _).loc _ _ _ _ _ HP2.out.1 (fun b _ hb=>sO.out.block b hb (by simp))) s1 s3⟩,by omega⟩
 have FY:Hid (∀o,aC (w4.alloc o) P s r.2/\w.grownBy (w4.alloc o) (some P)):=fun o=>
  ⟨HP2.out.2.1.grow (sO.out.trans (World.grownBy_alloc w4 o none)),(bP.out.2.trans HP2.out.2.2).trans ((sO.out.trans (World.grownBy_alloc w4 o none)).but _)⟩
 go_wp2_with fail;go_ret;exact⟨_,rfl,EY HK.out HU.out.1 HU.out.2 ka rfl,FY.out _⟩
theorem aae(hp:Plain p)(t1:p.is [116,114,117,101]=false)(t2:p.is [102,97,108,115,101]=false)(t3:p.is [40]=false)(t4:p.is [105,115,110,111,110,101]=false)(ht:p.is [82,79,65,68,83]=true\/(p.is [82,79,65,68,83]=false/\p.is [70,82,69,83,72]=true)\/(p.is [82,79,65,68,83]=false/\p.is [70,82,69,83,72]=false/\p.is [65,71,65,73,78]=true))(hq:eH 275 [] s p r):eH 270 [] s p r:=by
 intro P w h;have HQ:Hid (Calls prog 275 #[Pt P 0] w fun e w'=>∃v,e=.returned v/\r.1.here r.1.at' w' w.heap.size w'.heap.size v/\aC w' P s r.2/\w.grownBy w' (some P)):=hq P w h;have c1:=bK.c1 h;have c2:=bK.c2 h;have c3:=bK.c3 h;obtain⟨k3,k4,k2⟩:=hp.Gt;have t1:=dR t1;have t2:=dR t2;have t3:=dR t3;have t4:=dR t4;have ht':(p.k.text.toList==[82,79,65,68,83])=true\/((p.k.text.toList==[82,79,65,68,83])=false/\(p.k.text.toList==[70,82,69,83,72])=true)\/((p.k.text.toList==[82,79,65,68,83])=false/\(p.k.text.toList==[70,82,69,83,72])=false/\(p.k.text.toList==[65,71,65,73,78])=true):=by rw[ByteArray.toList_eq];exact ht
 show Calls prog 270 #[Pt P 0] w fun e w'=>∃v,e=.returned v/\r.1.here r.1.at' w' w.heap.size w'.heap.size v/\aC w' P s r.2/\w.grownBy w' (some P);generalize p.k.kind=kk at *;generalize p.k.text=kt at *;generalize p.k.at'=ka at *;clear h hq hp ht;rcases ht' with t5|⟨t5,t6⟩|⟨t5,t6,t7⟩;all_goals
  go_enter func270,ntmps270;go_wp2_with fail;refine HQ.out.mono ?_;rintro e w2 ⟨v,rfl,h1⟩;have HH:Hid (r.1.here r.1.at' w2 w.heap.size w2.heap.size v/\aC w2 P s r.2/\w.grownBy w2 (some P)):=h1;clear h1 HQ;go_wp2_with fail;go_ret;exact⟨_,rfl,HH.out⟩
theorem SK(hp:Plain p)(t1:p.is [116,114,117,101]=false)(t2:p.is [102,97,108,115,101]=false)(t3:p.is [40]=false)(t4:p.is [105,115,110,111,110,101]=false)(t5:p.is [82,79,65,68,83]=false)(t6:p.is [70,82,69,83,72]=false)(t7:p.is [65,71,65,73,78]=false):eH 270 [] s p (qC,p.fail):=by
 intro P w h;have HQ:Hid (Calls prog 142 #[Pt P 0] w (dP P s w (.tuple #[]) p.fail)):=zL h;have c1:=bK.c1 h;have c2:=bK.c2 h;have c3:=bK.c3 h;obtain⟨k3,k4,k2⟩:=hp.Gt;have t1:=dR t1;have t2:=dR t2;have t3:=dR t3;have t4:=dR t4;have t5:=dR t5;have t6:=dR t6;have t7:=dR t7;show Calls prog 270 #[Pt P 0] w fun e w'=>∃v,e=.returned v/\qC.here 0 w' w.heap.size w'.heap.size v/\aC w' P s p.fail/\w.grownBy w' (some P);generalize p.fail=q at *;generalize p.k.kind=kk at *;generalize p.k.text=kt at *;generalize p.k.at'=ka at *;clear h hp;go_enter func270,ntmps270;go_wp2_with fail;refine HQ.out.mono ?_;rintro e w2 ⟨rfl,p2,g2⟩;have HP2:Hid (aC w2 P s q/\w.grownBy w2 (some P)):=⟨p2,g2⟩;clear p2 g2 HQ;go_wp2_with fail;go_ret;exact⟨_,rfl,EM HP2.out.2.size 0 rfl,HP2.out.1.grow (World.grownBy_alloc _ _ none),HP2.out.2.trans ((World.grownBy_alloc _ _ none).but _)⟩
theorem XP:(setOf p.k.text.data.toList).isSome=true↔(p.is [82,79,65,68,83]=true\/(p.is [82,79,65,68,83]=false/\p.is [70,82,69,83,72]=true)\/(p.is [82,79,65,68,83]=false/\p.is [70,82,69,83,72]=false/\p.is [65,71,65,73,78]=true)):=by
 unfold setOf Hx.Ps.is;cases h1:(p.k.text.data.toList==[82,79,65,68,83])with
 |true=>simp
 |false=>
  cases h2:(p.k.text.data.toList==[70,82,69,83,72])with
  |true=>simp
  |false=>
   cases h3:(p.k.text.data.toList==[65,71,65,73,78])with
   |true=>simp
   |false=>simp
theorem aaf(hs:s.size<=4000)(h:Reader s ex d)(n:Nat)(hq:∀p,p.Ok s->Deep (d+1) p->(setOf p.k.text.data.toList).isSome=true->eH 275 [] s p (yS s ex n p))(ok:p.Ok s)(hd:Deep (d+1) p):
 eH 270 [] s p (oL s ex n p):=by
 unfold oL;split
 .rename_i h1;exact aac hs ok h1
 rename_i k3;split
 .rename_i h1;exact aag hs ok h1
 rename_i k4;split
 .rename_i h1;exact aai hs ok h1
 rename_i k2;have hp:Plain p:=⟨k3,k4,k2⟩;split
 .rename_i h1;refine aah hs ok hp ?_;cases ht:p.is [116,114,117,101]with
  |true=>exact Or.inl rfl
  |false=>rw[ht]at h1;exact Or.inr ⟨rfl,by simpa using h1⟩
 rename_i h1;have t1:p.is [116,114,117,101]=false:=by
  cases ht:p.is [116,114,117,101]with
  |true=>rw[ht]at h1;simp at h1
  |false=>rfl
 have t2:p.is [102,97,108,115,101]=false:=by
  cases ht:p.is [102,97,108,115,101]with
  |true=>rw[ht]at h1;simp at h1
  |false=>rfl
 split
 .rename_i h2;exact aad hp t1 t2 h2 (KL h.dB ok hd).2 (U6 hs h ok hd)
 rename_i h2;have t3:p.is [40]=false:=by simpa using h2
 split
 .rename_i h3;have g1:=gq ok (kJ (by simp) h3);exact Z9 hs ok hp t1 t2 t3 h3 (KL h.dB g1.ok (hd.dB g1)).2 (U6 hs h g1.ok (hd.dB g1))
 rename_i h3;have t4:p.is [105,115,110,111,110,101]=false:=by simpa using h3
 split
 .rename_i h4;exact aae hp t1 t2 t3 t4 (XP.1 h4) (hq p ok hd h4)
 .rename_i h4;have h5:¬(p.is [82,79,65,68,83]=true\/(p.is [82,79,65,68,83]=false/\p.is [70,82,69,83,72]=true)\/(p.is [82,79,65,68,83]=false/\p.is [70,82,69,83,72]=false/\p.is [65,71,65,73,78]=true)):=fun hh=>h4 (XP.2 hh);refine SK hp t1 t2 t3 t4 ?_ ?_ ?_
  .cases hx:p.is [82,79,65,68,83]<;>simp_all
  .cases hx:p.is [82,79,65,68,83]<;>cases hy:p.is [70,82,69,83,72]<;>simp_all
  .cases hx:p.is [82,79,65,68,83]<;>cases hy:p.is [70,82,69,83,72]<;>cases hz:p.is [65,71,65,73,78]<;>simp_all
def CB(b:Wd)(u:Value):Value:=.agg #[.string b.text,Im b.at',u]
theorem aaH(tmps:Array Value)(w:World)(g:Nat)(b:Wd)(u:Value)(h2:tmps[2]? =some (Pt g 0))(h:w.heap[g]? =some (.cells #[.string b.text,Im b.at',u] 361)):
 (results Tryz.f257 tmps).run prog w=.ok (CB b u) w:=by
 have q0:w.cell? (Ad g 0)=some (.string b.text):=aA h;have q1:w.cell? (Ad g 1)=some (Im b.at'):=aA h;have q2:w.cell? (Ad g 2)=some u:=aA h;simp[results,Tryz.results257,go_sem,h2,q0,q1,q2,CB]
def Zj(s:ByteArray)(p:Ps)(r:(Wd×Ex)×Ps):Prop:=
 ∀(P:Nat)(w:World),aC w P s p->Calls prog 257 #[Pt P 0] w fun e w'=>∃u,e=.returned (CB r.1.1 u)/\r.1.2.here r.1.2.at' w' w.heap.size w'.heap.size u/\aC w' P s r.2/\w.grownBy w' (some P)
theorem S9(hs:s.size<=4000)(h:Reader s ex d)(ok:p.Ok s)(hd:Deep (d+1) p):Zj s p (lG s ex p):=by
 intro P w hp;have hlt:=hp.lt;have o1:=ok.open' [40];have d1:=hd.open' ok (t:=[40]) (by simp);have gn:=zO o1;have ge:=rU gn.ok (t:=[58]) (by simp);have d2:=d1.dB (gn.trans ge);obtain⟨g1,x1⟩:=h.dB _ ge.ok d2;have ga:w.grownBy (w.alloc (.cells #[.string ⟨#[]⟩,Im 0,.nilIface] 361)) none:=World.grownBy_alloc w _ none;have hbox:(w.alloc (.cells #[.string ⟨#[]⟩,Im 0,.nilIface] 361)).heap[w.heap.size]? =some (.cells #[.string ⟨#[]⟩,Im 0,.nilIface] 361):=heap_alloc_new w _;have H0:Hid (Calls prog 237 #[Pt P 0,.string ⟨#[40]⟩] (w.alloc (.cells #[.string ⟨#[]⟩,Im 0,.nilIface] 361)) (dP P s (w.alloc (.cells #[.string ⟨#[]⟩,Im 0,.nilIface] 361)) (.tuple #[]) (p.open' s [40]))):=Iu (hp.grow ga) ok hs [40];have H1:Hid (∀x,aC x P s (p.open' s [40])->Calls prog 232 #[Pt P 0] x (dP P s x (BI ((p.open' s [40]).name s).1) ((p.open' s [40]).name s).2)):=fun x hx=>EP hx o1 hs;have H2:Hid (∀x,aC x P s ((p.open' s [40]).name s).2->Calls prog 239 #[Pt P 0,.string ⟨#[58]⟩] x (dP P s x (.tuple #[]) (((p.open' s [40]).name s).2.expect s [58]))):=fun x hx=>zK hx gn.ok hs [58];have H3:Hid (∀x,aC x P s (((p.open' s [40]).name s).2.expect s [58])->Calls prog 238 #[Pt P 0] x fun e w'=>∃v,e=.returned v/\(ex (((p.open' s [40]).name s).2.expect s [58])).1.here (ex (((p.open' s [40]).name s).2.expect s [58])).1.at' w' x.heap.size w'.heap.size v/\aC w' P s (ex (((p.open' s [40]).name s).2.expect s [58])).2/\x.grownBy w' (some P)):=fun x hx=>h.reads _ ge.ok d2 P x hx
 have H4:Hid (∀x,aC x P s (ex (((p.open' s [40]).name s).2.expect s [58])).2->Calls prog 240 #[Pt P 0,.string ⟨#[41]⟩] x (dP P s x (.tuple #[]) ((ex (((p.open' s [40]).name s).2.expect s [58])).2.close s [41]))):=fun x hx=>Gv hx g1.ok hs [41];have hne:P≠w.heap.size:=by omega
 have HB:Hid (∀w1,(w.alloc (.cells #[.string ⟨#[]⟩,Im 0,.nilIface] 361)).grownBy w1 (some P)->w1.heap[w.heap.size]? =some (.cells #[.string ⟨#[]⟩,Im 0,.nilIface] 361)/\w.grownBy w1 (some P)):=fun w1 hg=>
  ⟨(hg.block _ (dS hbox) (by simpa using Ne.symm hne)).trans hbox,(ga.but _).trans hg⟩
 show Calls prog 257 #[Pt P 0] w fun e w'=>∃u,e=.returned (CB ((p.open' s [40]).name s).1 u)/\(ex (((p.open' s [40]).name s).2.expect s [58])).1.here (ex (((p.open' s [40]).name s).2.expect s [58])).1.at' w' w.heap.size w'.heap.size u/\aC w' P s ((ex (((p.open' s [40]).name s).2.expect s [58])).2.close s [41])/\w.grownBy w' (some P);generalize ex (((p.open' s [40]).name s).2.expect s [58])=rr at *;generalize ((p.open' s [40]).name s).2.expect s [58]=q3 at *;generalize (p.open' s [40]).name s=dq at *;generalize p.open' s [40]=q1 at *;generalize rr.2.close s [41]=q4 at *;obtain⟨⟨dt,da⟩,q2⟩:=dq;have H1:Hid (∀x,aC x P s q1->Calls prog 232 #[Pt P 0] x (dP P s x (.agg #[.string dt,Im da]) q2)):=H1.out;have HX:Hid (cZ rr.1):=x1;simp only at H2⊢;clear hp o1 d1 gn ge d2 g1 x1 ok hd h ga hbox;go_enter func257,ntmps257;go_wp2_with fail;refine H0.out.mono ?_;rintro e w1 ⟨rfl,p1,k1⟩;have bP:Hid (aC w1 P s q1/\(w.alloc (.cells #[.string ⟨#[]⟩,Im 0,.nilIface] 361)).grownBy w1 (some P)):=⟨p1,k1⟩;clear p1 k1 H0;go_wp2_with fail;refine(H1.out _ bP.out.1).mono ?_;rintro e w2 ⟨rfl,p2,k2⟩;have HP2:Hid (aC (w2.alloc (.cells #[.string dt,Im da] 316)) P s q2/\w1.grownBy (w2.alloc (.cells #[.string dt,Im da] 316)) (some P)/\(w2.alloc (.cells #[.string dt,Im da] 316)).heap[w2.heap.size]? =some (.cells #[.string dt,Im da] 316)/\w1.heap.size<=w2.heap.size):=⟨p2.grow (World.grownBy_alloc _ _ none),k2.trans ((World.grownBy_alloc _ _ none).but _),heap_alloc_new _ _,k2.size⟩;clear p2 k2 H1;go_wp2_with fail
 refine(H2.out _ HP2.out.1).mono ?_;rintro e w3 ⟨rfl,p3,k3⟩;have dG:Hid (aC w3 P s q3/\(w2.alloc (.cells #[.string dt,Im da] 316)).grownBy w3 (some P)):=⟨p3,k3⟩;clear p3 k3 H2;go_wp2_with fail;refine(H3.out _ dG.out.1).mono ?_;rintro e w4 ⟨v,rfl,e4,p4,k4⟩;obtain⟨T4,A4,hv4,_⟩:=HX.out.head _ _ _ _ _ e4;subst hv4;have fK:Hid (rr.1.here rr.1.at' w4 w3.heap.size w4.heap.size (.iface T4 (Pt A4 0))/\aC w4 P s rr.2/\w3.grownBy w4 (some P)):=⟨e4,p4,k4⟩;clear e4 p4 k4 H3;go_wp2_with fail;refine(H4.out _ fK.out.2.1).mono ?_;rintro e w5 ⟨rfl,p5,k5⟩;have HW:Hid (aC w5 P s q4/\w.grownBy w5 (some P)/\w5.heap[w.heap.size]? =some (.cells #[.string ⟨#[]⟩,Im 0,.nilIface] 361)/\w5.heap[w2.heap.size]? =some (.cells #[.string dt,Im da] 316)/\rr.1.here rr.1.at' w5 w3.heap.size w5.heap.size (.iface T4 (Pt A4 0))/\w.heap.size<w3.heap.size/\w.heap.size≠w2.heap.size):=by
  have s1:=bP.out.2.size;rw[kK]at s1;have s2:=HP2.out.2.1.size;have s2':=HP2.out.2.2.2;have s3:=dG.out.2.size;have s4:=fK.out.2.2.size;have kA:(w2.alloc (.cells #[.string dt,Im da] 316)).grownBy w5 (some P):=dG.out.2.trans (fK.out.2.2.trans k5);obtain⟨b1,b2⟩:=HB.out w5 (bP.out.2.trans (HP2.out.2.1.trans kA));refine⟨p5,b2,b1,(kA.block _ (dS HP2.out.2.2.1) (by simp;omega)).trans HP2.out.2.2.1,?_,by omega,by omega⟩;exact(HX.out.law _).wide _ _ _ _ _ _ (HX.out.aN fK.out.1 (by omega) (Nat.le_refl _) k5) (Nat.le_refl _) k5.size
 obtain⟨x1,x2,x3,x4,x5,x6,x7⟩:=HW.out;have q0:w5.cell? (Ad w.heap.size 0)=some (.string ⟨#[]⟩):=aA x3;have q1':w5.cell? (Ad w.heap.size 1)=some (Im 0):=aA x3;have q2':w5.cell? (Ad w.heap.size 2)=some .nilIface:=aA x3;have rf:∀j,w5.frozen? (Ad w.heap.size j)=false:=fun j=>eu x3;have y0:w5.cell? (Ad w2.heap.size 0)=some (.string dt):=aA x4;have y1:w5.cell? (Ad w2.heap.size 1)=some (Im da):=aA x4;clear x1 x2 x3 x4 x5 p5 k5 H4 bP HP2 dG fK HB;go_wp2_with fail;obtain⟨x1,x2,x3,x4,x5,x6,x7⟩:=HW.out;have z3:=DJ w5 w.heap.size _ _ _ _ (.string dt) (Im da) (.iface T4 (Pt A4 0)) x3;refine bodyPost_ret (aaH _ _ w.heap.size ⟨dt,da⟩ (.iface T4 (Pt A4 0)) rfl z3) rfl ⟨_,rfl,?_,((x1.yX hne _ _).yX hne _ _).yX hne _ _,kP (kP (kP x2 (Nat.le_refl _) _ _) (Nat.le_refl _) _ _) (Nat.le_refl _) _ _⟩;have hsz:(((w5.setCell (Ad w.heap.size 0) (.string dt)).setCell (Ad w.heap.size 1) (Im da)).setCell (Ad w.heap.size 2) (.iface T4 (Pt A4 0))).heap.size=w5.heap.size:=by simp[World.setCell]
 rw[hsz];refine(HX.out.law _).wide _ _ _ _ _ _ ((HX.out.law _).loc _ _ _ _ _ x5 (fun b b1 _=>?_)) (by omega) (Nat.le_refl _);rw[Below.heap_setCell _ _ _ _ (by simp only;omega),Below.heap_setCell _ _ _ _ (by simp only;omega),Below.heap_setCell _ _ _ _ (by simp only;omega)]
end
section
variable {s:ByteArray}{ex:Ps->Ex×Ps}{d:Nat}{p:Ps}{r:Ex×Ps}{x:Sx}
def yu(fn:FuncId)(kind:Int)(s:ByteArray)(x:Sx)(p:Ps)(r:Ex×Ps):Prop:=
 ∀(P:Nat)(w:World)(lo:Nat)(u:Value),aC w P s p->P<lo->dF x w lo w.heap.size u->lo<=w.heap.size->Calls prog fn #[Pt P 0,u,Im kind] w fun en w'=>∃v,en=.returned v/\r.1.here r.1.at' w' lo w'.heap.size v/\aC w' P s r.2/\w.grownBy w' (some P)
theorem oG{w:World}{lo hi:Nat}{v:Value}(h:dF x w lo hi v):∃S fv,v=Pt S 0/\lo<=S/\S<hi/\w.heap[S]? =some (.cells #[Im x.at',Im x.aj,.string x.base,Im x.of,fv] 348):=by
 obtain⟨S,fv,h1,h2,h3,h4,_⟩:=h;exact⟨S,fv,h1,h2,h3,h4⟩
theorem fM.aN(h:fM x){w w':World}{lo hi P:Nat}{v:Value}(hh:dF x w lo hi v)(hP:P<lo)(hi':hi<=w.heap.size)(hg:w.grownBy w' (some P)):dF x w' lo hi v:=
 h.law.loc _ _ _ _ _ hh fun b b1 b2=>hg.block b (by omega) (by simp;omega)
theorem SG(hs:s.size<=4000)(ok:p.Ok s)(hx:fM x)(kind:Int):yu 277 kind s x p (Gq s x kind p):=by
 intro P w lo u h hlt hu hlo;have HN:Hid (Calls prog 236 #[Pt P 0] w (dP P s w (.agg #[Im p.k.kind,.string p.k.text,Im p.k.at']) (p.next s))):=qQ h ok hs;obtain⟨S,fv,hu1,s1,s2,s3⟩:=oG hu;subst hu1;have HU:Hid (dF x w lo w.heap.size (Pt S 0)/\w.heap[S]? =some (.cells #[Im x.at',Im x.aj,.string x.base,Im x.of,fv] 348)):=⟨hu,s3⟩;have HX:Hid (fM x):=hx;have hft:=Gz p.k.kind p.k.at' p.k.text;have hcb:=hx.aj;show Calls prog 277 #[Pt P 0,Pt S 0,Im kind] w fun en w'=>∃v,en=.returned v/\(lW 410 412 x.at' (bD [x.aj]) kind (nU (dF x)) (fun us=>.string p.k.text::us)).here x.at' w' lo w'.heap.size v/\aC w' P s (p.next s)/\w.grownBy w' (some P);generalize p.next s=q at *;generalize p.k.kind=kk at *;generalize p.k.text=kt at *;generalize p.k.at'=ka at *;clear h hu s3 hx ok;go_enter func277,ntmps277;go_wp2_with fail;refine HN.out.mono ?_;rintro e w1 ⟨rfl,p1,q1⟩;have hS1:w1.heap[S]? =some (.cells #[Im x.at',Im x.aj,.string x.base,Im x.of,fv] 348):=(q1.block S s2 (by simp;omega)).trans HU.out.2;have c0:w1.cell? (Ad S 0)=some (Im x.at'):=aA hS1;have c1:w1.cell? (Ad S 1)=some (Im x.aj):=aA hS1;have aj7:=dS hS1;have n1:¬S=w1.heap.size:=by omega
 have n2:¬S=w1.heap.size+1:=by omega
 have n3:¬S=w1.heap.size+1+1:=by omega
 have zy:Hid (Calls prog 234 #[Im x.at',.slice (some (Ad w1.heap.size 0)) 1 1] (w1.alloc (.cells #[Im x.aj] 3)).drew fun e w'=>e=.returned (.agg #[Im x.at',Im (bD [x.aj])])/\w'=((w1.alloc (.cells #[Im x.aj] 3)).drew.alloc (.cells #[Im x.at',Im (bD [x.aj])] 323)).alloc (.cells #[Im 1,Im (dY [x.aj])] 3)):=by
  refine ET x.at' _ [x.aj] ⟨by simpa using hcb,by simp,Or.inr ⟨_,_,rfl,fun i y hy=>?_⟩⟩
  match i,hy with
  |0,hy=>
   cases hy;have hh:(w1.alloc (.cells #[Im x.aj] 3)).drew.heap[w1.heap.size]? =some (.cells #[Im x.aj] 3):=heap_alloc_new w1 _;exact aA hh
 have bP:Hid (aC w1 P s q/\w.grownBy w1 (some P)):=⟨p1,q1⟩;clear p1 q1 hS1 HN;generalize hxa:x.at'=xa at *;generalize hxc:x.aj=xc at *;have Nr:Hid (x.at'=xa/\x.aj=xc):=⟨hxa,hxc⟩;clear hxa hxc;go_upto_region 2 with fail;go_cut [6] (fun r wx=>r=.iface 410 (Pt (w1.heap.size+1+1+1) 0)/\wx.heap[w1.heap.size+1+1+1]? =some (.cells #[Im xa,Im (bD [xc]),Im kind,.string kt,Pt S 0] 412)/\w1.grownBy wx none)
 case first=>
  go_region_with (first|(go_at_call 244;refine(nZ S 0 xc (by first|exact c1|(simp;exact c1))).mono ?_;rintro e w' ⟨rfl,rfl⟩)|(go_at_call 234;refine zy.out.mono ?_;rintro e w' ⟨rfl,rfl⟩));all_goals (go_wp2_with fail;go_meet;exact⟨rfl,(J5 w1 _ _ _ _).1,(J5 w1 _ _ _ _).2⟩)
 case rest=>
  obtain⟨rfl,h1,h2⟩:=hcut;have HF:Hid (wc.heap[w1.heap.size+1+1+1]? =some (.cells #[Im xa,Im (bD [xc]),Im kind,.string kt,Pt S 0] 412)/\w1.grownBy wc none):=⟨h1,h2⟩;clear h1 h2;go_wp2_with fail;go_ret;obtain⟨h1,h2⟩:=HF.out;obtain⟨e1,e2⟩:=Nr.out;rw[<-e1,<-e2]at h1;have s0:=bP.out.2.size;have hs2:=HX.out.aN HU.out.1 hlt (Nat.le_refl _) (bP.out.2.trans (h2.but _));exact⟨_,rfl,⟨_,_,rfl,by omega,dS h1,⟨_,rfl,HX.out.law.wide _ _ _ _ _ _ hs2 (Nat.le_refl _) (by omega)⟩,h1⟩,bP.out.1.grow h2,bP.out.2.trans (h2.but _)⟩
end
section
variable {w:World}{x:Sx}
theorem aiX(w:World)(b cap:Nat)(xs:List Int)(hx:∀x∈xs,0<=x/\x<=100000000)(hn:xs.length<=1000000)(hc:∀(i:Nat)(x:Int),xs[i]? =some x->w.cell? (Ad b i)=some (Im x)):
 Calls prog 143 #[.slice (some (Ad b 0)) xs.length cap] w fun e w'=>e=.returned (Im (dY xs))/\w'=w:=by
 have HR:Hid (dY xs=(xs.drop 0).foldl (fun a c=>min (a+c) 1000001) 0):=rfl;generalize hr:dY xs=r at *;clear hr;go_enter func143,ntmps143;go_wp2;go_loop [3,5,8] (fun a _ i=>∃(k:Nat)(z:Int),k<=xs.length/\0<=z/\z<=1000001/\a=Im z/\i=Im k/\Hid (r=(xs.drop k).foldl (fun a c=>min (a+c) 1000001) z)) (fun _ _ i=>xs.length-(intOf i).toNat)
 case atStart=>exact⟨0,0,Nat.zero_le _,by omega,by omega,rfl,rfl,HR⟩
 case round=>
  obtain⟨k,z,hk,z0,z1,rfl,rfl,HK⟩:=hrel;clear HR;by_cases hlt:k<xs.length
  .have d1:decide ((k:Int)<(xs.length:Int))=true:=by simp;omega
   have i0:(0:Int)<=(k:Int):=by omega
   have i1:(k:Int)<(xs.length:Int):=by omega
   have hg:xs[k]? =some xs[k]:=List.getElem?_eq_getElem hlt;have ck:=hc k _ hg;have hb:=hx _ (List.getElem_mem hlt);have HE:=HK.out;rw[Yv xs k hlt]at HE;generalize xs[k]=x at *;have dO:Hid (∀y,y=min (z+x) 1000001->r=(xs.drop (k+1)).foldl (fun a c=>min (a+c) 1000001) y):=fun y hy=>by rw[hy];exact HE
   clear HK HE hg hc;generalize xs.length=n at *;go_wp2;all_goals (refine⟨⟨k+1,_,by omega,?_,?_,rfl,by go_num,dO.out _ (by omega)⟩,by simp[intOf];omega⟩)
   all_goals omega
  .have d1:decide ((k:Int)<(xs.length:Int))=false:=by simp;omega
   have e:r=z:=by rw[HK.out,List.drop_of_length_le (by omega)];rfl
   subst e;clear HK;go_wp2;go_ret;exact⟨rfl,rfl⟩
theorem ahZ{S:Nat}{of:Int}(h:w.cell? (Ad S 3)=some (Im of)):Calls prog 258 #[Pt S 0] w fun e w'=>e=.returned (Im (if of=3 then 8 else 16))/\w'=w:=by
 by_cases hof:of=3
 .subst hof;go_enter func258,ntmps258;go_wp2;go_ret;exact⟨rfl,rfl⟩
 .have hb:(of==3)=false:=by simp[hof]
  rw[if_neg hof];go_enter func258,ntmps258;go_wp2;go_ret;exact⟨rfl,rfl⟩
theorem LX{S:Nat}(h:w.cell? (Ad S 3)=some (Im x.of))(c:Int)(hc:0<=c/\c<=1000001):Calls prog 245 #[Pt S 0,Im c] w fun e w'=>e=.returned (Im (x.round c))/\
 w'=(w.alloc (.cells #[Im 1,Im c] 3)).alloc (.cells #[Im ((if x.of=3 then 8 else 16) * dY [1,c])] 3):=by
 have hT:=uY [1,c] (by simp;omega);have HT1:Hid (Calls prog 143 #[.slice (some (Ad w.heap.size 0)) 2 2] (w.alloc (.cells #[Im 1,Im c] 3)) fun e w'=>e=.returned (Im (dY [1,c]))/\w'=w.alloc (.cells #[Im 1,Im c] 3)):=
  IY (DU w _ 1 c (by omega) (by omega) hc.1 hc.2)
 have HS:Hid (Calls prog 258 #[Pt S 0] w fun e w'=>e=.returned (Im (if x.of=3 then 8 else 16))/\w'=w):=ahZ h;have hsz:(if x.of=3 then 8 else 16:Int)=8\/(if x.of=3 then 8 else 16:Int)=16:=by split;exact Or.inl rfl;exact Or.inr rfl
 have hR:x.round c=dY [(if x.of=3 then 8 else 16) * dY [1,c]]:=rfl;rw[hR];generalize (if x.of=3 then 8 else 16:Int)=z at *;generalize dY [1,c]=t at *;have hz0:0<=z * t/\z * t<=100000000:=by rcases hsz with rfl|rfl<;>omega
 have HT2:Hid (∀y,y=z * t->Calls prog 143 #[.slice (some (Ad (w.heap.size+1) 0)) 1 1] ((w.alloc (.cells #[Im 1,Im c] 3)).alloc (.cells #[Im y] 3)) fun e w'=>e=.returned (Im (dY [z * t]))/\w'=(w.alloc (.cells #[Im 1,Im c] 3)).alloc (.cells #[Im (z * t)] 3)):=fun y hy=>by
  subst hy;refine aiX _ (w.heap.size+1) 1 [z * t] (by simpa using hz0) (by simp) (fun i y hy=>?_)
  match i,hy with
  |0,hy=>
   cases hy;have hh:((w.alloc (.cells #[Im 1,Im c] 3)).alloc (.cells #[Im (z * t)] 3)).heap[w.heap.size+1]? =some (.cells #[Im (z * t)] 3):=by
    rw[<-kK w (Obj.cells #[Im 1,Im c] 3)];exact heap_alloc_new _ _
   exact aA hh
 clear h hR;go_enter func245,ntmps245;go_wp2_with fail;refine HS.out.mono ?_;rintro e w1 ⟨rfl,hw1⟩;rw[hw1];clear hw1;go_wp2_with fail;refine HT1.out.mono ?_;rintro e w2 ⟨rfl,hw2⟩;rw[hw2];clear hw2;have hwr:wrap64 (z * t)=z * t:=by unfold wrap64;omega
 generalize hzt:z * t=zt at *;go_wp2_with fail;refine(HT2.out _ (by omega)).mono ?_;rintro e w3 ⟨rfl,hw3⟩;rw[hw3];go_wp2_with fail;go_ret;subst hzt;exact⟨rfl,rfl⟩
end
end
end Go.Proofs.YthllhabjfchgiaaGreatDoor
