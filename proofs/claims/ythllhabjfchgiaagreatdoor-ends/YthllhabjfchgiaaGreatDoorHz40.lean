import Derived.Test.YthllhabjfchgiaaGreatDoorHz39
set_option maxRecDepth 100000
set_option maxHeartbeats 8000000
namespace Go.Proofs.YthllhabjfchgiaaGreatDoor
open _root_.Go.Proofs.Tryz
section
open Go.RowKit Hx
attribute [local go_sem ↓] Go.wp_at_zero Go.wp_at_succ
attribute [local go_sem] bT
section
variable {s:ByteArray}{ex:Ps->Ex×Ps}{aW:Ps->List bI×Ps}{d:Nat}{p:Ps}
theorem Yr(w:World)(T:TypeId)(a b c:Int)(ha:0<=a/\a<=1000001)(hb:0<=b/\b<=1000001)(hc:0<=c/\c<=1000001):xW (w.alloc (.cells #[Im a,Im b,Im c] T)) (.slice (some (Ad w.heap.size 0)) 3 3) [a,b,c]:=by
 refine⟨by simp;exact⟨ha,hb,hc⟩,by simp,Or.inr ⟨_,_,rfl,fun i y hy=>?_⟩⟩
 match i,hy with
 |0,hy=>cases hy;exact aA (heap_alloc_new w _)
 |1,hy=>cases hy;exact aA (heap_alloc_new w _)
 |2,hy=>cases hy;exact aA (heap_alloc_new w _)
theorem adS{l:List bI}(hl:∀e∈l,fQ e){w w':World}{lo hi P:Nat}{v:Value}(hh:dX l w lo hi v)(hP:P<lo)(hi':hi<=w.heap.size)(hg:w.grownBy w' (some P)):dX l w' lo hi v:=
 (oC hl).loc _ _ _ _ _ hh fun b b1 b2=>hg.block b (by omega) (by simp;omega)
theorem adT(w:World)(lo hi:Nat):dX [] w lo hi (Nl):=Or.inl ⟨rfl,rfl⟩
def Jb(e:Ex)(y n:List bI)(P:Nat)(s:ByteArray)(q:Ps)(w w7:World)(T1:TypeId)(A1:Nat)(vy vn:Value):Prop:=
 ∃m k,w.heap.size<=m/\m<=k/\k<=w7.heap.size/\e.here e.at' w7 w.heap.size m (.iface T1 (Pt A1 0))/\dX y w7 m k vy/\dX n w7 k w7.heap.size vn/\aC w7 P s q/\w.grownBy w7 (some P)
theorem Jb.done{ka:Int}{e:Ex}{y n:List bI}{P:Nat}{s:ByteArray}{q:Ps}{w w7:World}{T1:TypeId}{A1:Nat}{vy vn:Value}(h:Jb e y n P s q w w7 T1 A1 vy vn)(he:cZ e)(hy:∀x∈y,fQ x)(hn:∀x∈n,fQ x){w10:World}(hg:w7.grownBy w10 none)(o o2:Obj)
 (ho:o2=Obj.cells #[Im ka,Im (bD [e.aj,dK y,dK n]),.iface T1 (Pt A1 0),vy,vn,.bool false] 341):
 (rP ka e y n).here ((w10.alloc o).alloc o2) w.heap.size ((w10.alloc o).alloc o2).heap.size (.iface 339 (Pt (w10.heap.size+1) 0))/\aC ((w10.alloc o).alloc o2) P s q/\w.grownBy ((w10.alloc o).alloc o2) (some P):=by
 obtain⟨m,k,h1,h2,h3,k1,k2,k3,k4,k5⟩:=h;have gg:w7.grownBy (w10.alloc o) none:=hg.trans (World.grownBy_alloc w10 o none);have gf:=gg.trans (World.grownBy_alloc (w10.alloc o) o2 none);have sg:=gg.size;have ly:=oC hy;have ln:=oC hn;have hK:O9 (e.here e.at') (dX y) (dX n) (w10.alloc o) w.heap.size (w10.alloc o).heap.size [.iface T1 (Pt A1 0),vy,vn]:=
  ⟨m,k,_,_,_,rfl,h1,h2,by omega,(he.law _).loc _ _ _ _ _ k1 (fun b _ hb=>gg.block b (by omega) (by simp)),ly.loc _ _ _ _ _ k2 (fun b _ hb=>gg.block b (by omega) (by simp)),ln.wide _ _ _ _ _ _ (ln.loc _ _ _ _ _ k3 (fun b _ hb=>gg.block b hb (by simp))) (Nat.le_refl _) sg⟩
 have hn:=EX (ds:={}) (T':=339) (T:=341) (at':=ka) (aj:=bD [e.aj,dK y,dK n]) (mk:=fun us=>us++[.bool false]) (Ht (he.law _) ly ln) hK (by omega) ho;rw[kK w10 o]at hn;exact⟨hn,k4.grow gf,k5.trans (gf.but _)⟩
theorem aaR(hs:s.size<=4000)(h:Reader s ex (d+1))(hb:zn s aW (d+1))(hblk:∀p,p.Ok s->Deep (d+1) p->Cc 241 s p (aW p))(hlen:∀p,(aW p).1.length<=1000000)(ok:p.Ok s)(hd:Deep (d+1) p)(ht:p.is [105,102]=true):ou 225 s p (zI s ex aW p):=by
 intro P w hp;have hlt:=hp.lt;have g1:=gq ok (kJ (by simp) ht);have d1:=hd.dB g1;obtain⟨g2,x2⟩:=h.dB _ g1.ok d1;have d2:=d1.dB g2;obtain⟨g3,x3⟩:=hb _ g2.ok d2;have d3:=d2.dB g3;have HN:Hid (Calls prog 236 #[Pt P 0] w (dP P s w (.agg #[Im p.k.kind,.string p.k.text,Im p.k.at']) (p.next s))):=qQ hp ok hs;have H1:Hid (∀x,aC x P s (p.next s)->Calls prog 238 #[Pt P 0] x fun e w'=>∃v,e=.returned v/\(ex (p.next s)).1.here (ex (p.next s)).1.at' w' x.heap.size w'.heap.size v/\aC w' P s (ex (p.next s)).2/\x.grownBy w' (some P)):=fun x hx=>h.reads _ g1.ok d1 P x hx;have H2:Hid (∀x,aC x P s (ex (p.next s)).2->Calls prog 241 #[Pt P 0] x fun e w'=>∃v,e=.returned v/\dX (aW (ex (p.next s)).2).1 w' x.heap.size w'.heap.size v/\aC w' P s (aW (ex (p.next s)).2).2/\x.grownBy w' (some P)):=fun x hx=>hblk _ g2.ok d2 P x hx;have hfa:=Gy p.k.kind p.k.at' p.k.text;have HX:Hid (cZ (ex (p.next s)).1):=x2;have HY:Hid ((∀e∈(aW (ex (p.next s)).2).1,fQ e)/\(aW (ex (p.next s)).2).1.length<=1000000):=⟨x3,hlen _⟩
 have HE:Hid ((aW (ex (p.next s)).2).2.is [101,108,115,101]=true->(∀x,aC x P s (aW (ex (p.next s)).2).2->Calls prog 236 #[Pt P 0] x (dP P s x (lY (aW (ex (p.next s)).2).2.k) ((aW (ex (p.next s)).2).2.next s)))/\(∀x,aC x P s ((aW (ex (p.next s)).2).2.next s)->Calls prog 241 #[Pt P 0] x fun e w'=>∃v,e=.returned v/\dX (aW ((aW (ex (p.next s)).2).2.next s)).1 w' x.heap.size w'.heap.size v/\aC w' P s (aW ((aW (ex (p.next s)).2).2.next s)).2/\x.grownBy w' (some P))/\(∀e∈(aW ((aW (ex (p.next s)).2).2.next s)).1,fQ e)/\(aW ((aW (ex (p.next s)).2).2.next s)).1.length<=1000000):=fun hel=>by
  have g4:=gq g3.ok (kJ (by simp) hel);exact⟨fun x hx=>qQ hx g3.ok hs,fun x hx=>hblk _ g4.ok (d3.dB g4) P x hx,(hb _ g4.ok (d3.dB g4)).2,hlen _⟩
 have HM:Hid (zI s ex aW p=if (aW (ex (p.next s)).2).2.is [101,108,115,101]then (rP p.k.at' (ex (p.next s)).1 (aW (ex (p.next s)).2).1 (aW ((aW (ex (p.next s)).2).2.next s)).1,(aW ((aW (ex (p.next s)).2).2.next s)).2)else (rP p.k.at' (ex (p.next s)).1 (aW (ex (p.next s)).2).1 [],(aW (ex (p.next s)).2).2)):=rfl;generalize zI s ex aW p=R at *;generalize aW ((aW (ex (p.next s)).2).2.next s)=n2 at *;generalize aW (ex (p.next s)).2=y2 at *;generalize ex (p.next s)=c2 at *;generalize y2.2.next s=q4 at *;generalize p.next s=q at *;generalize p.k.kind=kk at *;generalize p.k.text=kt at *;generalize p.k.at'=ka at *;clear hp g1 d1 g2 x2 d2 g3 x3 d3 ok hd ht h hb hblk hlen;go_enter func225,ntmps225;go_wp2_with fail;refine HN.out.mono ?_;rintro e w1 ⟨rfl,p1,g1⟩;have bP:Hid (aC w1 P s q/\w.grownBy w1 (some P)):=⟨p1,g1⟩;clear p1 g1 HN;go_wp2_with fail;refine(H1.out _ bP.out.1).mono ?_;rintro e w2 ⟨v1,rfl,e2,p2,g2⟩;obtain⟨T1,A1,hv1,hm1,a1,a2,a3⟩:=HX.out.mQ e2;subst hv1;have HP2:Hid (c2.1.here c2.1.at' w2 w1.heap.size w2.heap.size (.iface T1 (Pt A1 0))/\aC w2 P s c2.2/\w1.grownBy w2 (some P)):=⟨e2,p2,g2⟩;clear e2 p2 g2 H1;go_wp2_with fail;refine(H2.out _ HP2.out.2.1).mono ?_;rintro e w3 ⟨vy,rfl,e3,p3,g3⟩;obtain⟨ya,yn,yc,hvy⟩:=uK e3;subst hvy;have dG:Hid (dX y2.1 w3 w2.heap.size w3.heap.size (.slice ya yn yc)/\aC w3 P s y2.2/\w2.grownBy w3 (some P)):=⟨e3,p3,g3⟩;clear e3 p3 g3 H2
 have HI:Hid (Calls prog 242 #[Pt P 0,.string ⟨#[101,108,115,101]⟩] w3 fun e w'=>e=.returned (.bool (y2.2.is [101,108,115,101]))/\w'=w3):=Dh dG.out.2.1 [101,108,115,101];cases hel:y2.2.is [101,108,115,101]with
 |false=>
  have qJ:Hid (R=(rP ka c2.1 y2.1 [],y2.2)):=by have:=HM.out;rw[hel]at this;exact this
  rw[hel]at HI;clear hel HM HE;go_wp2_with fail;refine HI.out.mono ?_;rintro e w4 ⟨rfl,hw4⟩;rw[hw4];clear hw4 HI;have HT:Hid (Jb c2.1 y2.1 [] P s y2.2 w w3 T1 A1 (.slice ya yn yc) (Nl)):=by
   have s1:=bP.out.2.size;have s2:=HP2.out.2.2.size;have s3:=dG.out.2.2.size;exact⟨w2.heap.size,w3.heap.size,by omega,s3,Nat.le_refl _,(HX.out.law _).wide _ _ _ _ _ _ (HX.out.aN HP2.out.1 (by omega) (Nat.le_refl _) dG.out.2.2) s1 (Nat.le_refl _),dG.out.1,adT _ _ _,dG.out.2.1,bP.out.2.trans (HP2.out.2.2.trans dG.out.2.2)⟩
  have qZ:Hid ((∀e∈([]:List bI),fQ e)/\([]:List bI).length<=1000000):=⟨by simp,by simp⟩;generalize hnl:([]:List bI)=nl at *;clear hnl;generalize y2.2=qf at *;clear bP HP2 dG;obtain⟨m,k,_,_,_,t1,t2,t3,_,_⟩:=HT.out;obtain⟨Zm,YO,z1,_,_,_,b3⟩:=HX.out.mQ t1;cases z1;have uo:Hid (Calls prog 244 #[Pt A1 0] w3 fun e' w'=>e'=.returned (Im c2.1.aj)/\w'=w3):=nZ A1 0 _ b3;have F9:Hid (∀x,w3.grownBy x none->Calls prog 90 #[.slice ya yn yc] x fun e w'=>e=.returned (Im (dK y2.1))/\x.grownBy w' none):=fun x hx=>DR HY.out.1 HY.out.2 (Dv HY.out.1 ((oC HY.out.1).loc _ _ _ _ _ t2 (fun b _ hb=>hx.block b (by omega) (by simp))));have F8:Hid (∀x,w3.grownBy x none->Calls prog 90 #[Nl] x fun e w'=>e=.returned (Im (dK nl))/\x.grownBy w' none):=fun x hx=>DR qZ.out.1 qZ.out.2 (Dv qZ.out.1 ((oC qZ.out.1).loc _ _ _ _ _ t3 (fun b _ hb=>hx.block b (by omega) (by simp))));clear t1 t2 t3 b3;go_wp2_with fail;refine uo.out.mono ?_;rintro e w8 ⟨rfl,hw8⟩;rw[hw8];clear hw8 uo;go_wp2_with fail;refine(F9.out _ (World.grownBy.refl _ _)).mono ?_;rintro e w9 ⟨rfl,g9⟩;have uh:Hid (w3.grownBy w9 none):=g9;clear g9;go_wp2_with fail;refine(F8.out _ uh.out).mono ?_;rintro e w10 ⟨rfl,g10⟩;have wP:Hid (w3.grownBy w10 none):=uh.out.trans g10;clear g10 uh F9 F8;go_wp2_with fail;refine(uO ka _ [c2.1.aj,dK y2.1,dK nl] (Yr w10 _ _ _ _ HX.out.aj (qG HY.out.1) (qG qZ.out.1))).mono ?_;rintro e QZ ⟨rfl,g11⟩;have MQ:Hid (w3.grownBy QZ none):=wP.out.trans ((World.grownBy_alloc w10 _ none).trans g11);clear g11 wP;go_wp2_with fail;go_ret
  rw[qJ.out];exact⟨_,rfl,HT.out.done HX.out HY.out.1 qZ.out.1 MQ.out _ _ rfl⟩
 |true=>
  obtain⟨hnx,hbk,hno,hnl⟩:=HE.out hel;have qJ:Hid (R=(rP ka c2.1 y2.1 n2.1,n2.2)):=by have:=HM.out;rw[hel]at this;exact this
  have Rw:Hid (∀x,aC x P s y2.2->Calls prog 236 #[Pt P 0] x (dP P s x (lY y2.2.k) q4)):=hnx;have FK:Hid (∀x,aC x P s q4->Calls prog 241 #[Pt P 0] x fun e w'=>∃v,e=.returned v/\dX n2.1 w' x.heap.size w'.heap.size v/\aC w' P s n2.2/\x.grownBy w' (some P)):=hbk;have qZ:Hid ((∀e∈n2.1,fQ e)/\n2.1.length<=1000000):=⟨hno,hnl⟩;rw[hel]at HI;clear hel HM HE hnx hbk hno hnl;generalize lY y2.2.k=tv at *;go_wp2_with fail;refine HI.out.mono ?_;rintro e w4 ⟨rfl,hw4⟩;rw[hw4];clear hw4 HI;go_wp2_with fail;refine(Rw.out _ dG.out.2.1).mono ?_;rintro e w5 ⟨rfl,p5,g5⟩;have pG:Hid (aC w5 P s q4/\w3.grownBy w5 (some P)):=⟨p5,g5⟩;clear p5 g5 Rw;go_wp2_with fail;refine(FK.out _ pG.out.1).mono ?_;rintro e w6 ⟨vn,rfl,e6,p6,g6⟩;obtain⟨na,nn,nc,hvn⟩:=uK e6;subst hvn;have HT:Hid (Jb c2.1 y2.1 n2.1 P s n2.2 w w6 T1 A1 (.slice ya yn yc) (.slice na nn nc)):=by
   have s1:=bP.out.2.size;have s2:=HP2.out.2.2.size;have s3:=dG.out.2.2.size;have s5:=pG.out.2.size;have s6:=g6.size;have CS:=pG.out.2.trans g6;exact⟨w2.heap.size,w5.heap.size,by omega,by omega,s6,(HX.out.law _).wide _ _ _ _ _ _ (HX.out.aN HP2.out.1 (by omega) (Nat.le_refl _) (dG.out.2.2.trans CS)) s1 (Nat.le_refl _),(oC HY.out.1).wide _ _ _ _ _ _ (adS HY.out.1 dG.out.1 (by omega) (Nat.le_refl _) CS) (Nat.le_refl _) s5,e6,p6,bP.out.2.trans (HP2.out.2.2.trans (dG.out.2.2.trans CS))⟩
  generalize n2.1=nl at *;generalize n2.2=qf at *;clear e6 p6 g6 FK bP HP2 dG pG;obtain⟨m,k,_,_,_,t1,t2,t3,_,_⟩:=HT.out;obtain⟨Zm,YO,z1,_,_,_,b3⟩:=HX.out.mQ t1;cases z1;have uo:Hid (Calls prog 244 #[Pt A1 0] w6 fun e' w'=>e'=.returned (Im c2.1.aj)/\w'=w6):=nZ A1 0 _ b3;have F9:Hid (∀x,w6.grownBy x none->Calls prog 90 #[.slice ya yn yc] x fun e w'=>e=.returned (Im (dK y2.1))/\x.grownBy w' none):=fun x hx=>DR HY.out.1 HY.out.2 (Dv HY.out.1 ((oC HY.out.1).loc _ _ _ _ _ t2 (fun b _ hb=>hx.block b (by omega) (by simp))));have F8:Hid (∀x,w6.grownBy x none->Calls prog 90 #[.slice na nn nc] x fun e w'=>e=.returned (Im (dK nl))/\x.grownBy w' none):=fun x hx=>DR qZ.out.1 qZ.out.2 (Dv qZ.out.1 ((oC qZ.out.1).loc _ _ _ _ _ t3 (fun b _ hb=>hx.block b (by omega) (by simp))));clear t1 t2 t3 b3;go_wp2_with fail;refine uo.out.mono ?_;rintro e w8 ⟨rfl,hw8⟩;rw[hw8];clear hw8 uo;go_wp2_with fail;refine(F9.out _ (World.grownBy.refl _ _)).mono ?_;rintro e w9 ⟨rfl,g9⟩;have uh:Hid (w6.grownBy w9 none):=g9;clear g9;go_wp2_with fail;refine(F8.out _ uh.out).mono ?_;rintro e w10 ⟨rfl,g10⟩;have wP:Hid (w6.grownBy w10 none):=uh.out.trans g10;clear g10 uh F9 F8;go_wp2_with fail;refine(uO ka _ [c2.1.aj,dK y2.1,dK nl] (Yr w10 _ _ _ _ HX.out.aj (qG HY.out.1) (qG qZ.out.1))).mono ?_;rintro e QZ ⟨rfl,g11⟩;have MQ:Hid (w6.grownBy QZ none):=wP.out.trans ((World.grownBy_alloc w10 _ none).trans g11);clear g11 wP;go_wp2_with fail;go_ret;rw[qJ.out];exact⟨_,rfl,HT.out.done HX.out HY.out.1 qZ.out.1 MQ.out _ _ rfl⟩
end
section
variable {s:ByteArray}{ex ex':Ps->Ex×Ps}{aW:Ps->List bI×Ps}{d:Nat}{p:Ps}{r:bI×Ps}
def yt(s:ByteArray)(p:Ps)(r:Option bI×Ps):Prop:=
 ∀(P:Nat)(w:World),aC w P s p->Calls prog 191 #[Pt P 0] w fun e w'=>(∃v,e=.returned v/\(match r.1 with|some st=>st.here w' w.heap.size w'.heap.size v|none=>v=.nilIface))/\aC w' P s r.2/\w.grownBy w' (some P)
theorem afj(hk:p.k.kind=2)(hq:ou 220 s p r):yt s p (some r.1,r.2):=by
 intro P w h;have HQ:Hid (Calls prog 220 #[Pt P 0] w fun e w'=>∃v,e=.returned v/\r.1.here w' w.heap.size w'.heap.size v/\aC w' P s r.2/\w.grownBy w' (some P)):=hq P w h;have c1:=bK.c1 h;have c2:=bK.c2 h;rw[hk]at c1;show Calls prog 191 #[Pt P 0] w fun e w'=>(∃v,e=.returned v/\r.1.here w' w.heap.size w'.heap.size v)/\aC w' P s r.2/\w.grownBy w' (some P);generalize p.k.kind=kk at *;generalize p.k.text=kt at *;clear h hq;go_enter func191,ntmps191;go_wp2_with fail;refine HQ.out.mono ?_;rintro e w2 ⟨v,rfl,h1,h2,h3⟩;have HH:Hid (r.1.here w2 w.heap.size w2.heap.size v/\aC w2 P s r.2/\w.grownBy w2 (some P)):=⟨h1,h2,h3⟩;clear h1 h2 h3 HQ;go_wp2_with fail;go_ret;exact⟨⟨_,rfl,HH.out.1⟩,HH.out.2⟩
theorem afk(hk:p.k.kind=4)(hq:ou 221 s p r):yt s p (some r.1,r.2):=by
 intro P w h;have HQ:Hid (Calls prog 221 #[Pt P 0] w fun e w'=>∃v,e=.returned v/\r.1.here w' w.heap.size w'.heap.size v/\aC w' P s r.2/\w.grownBy w' (some P)):=hq P w h;have c1:=bK.c1 h;have c2:=bK.c2 h;rw[hk]at c1;show Calls prog 191 #[Pt P 0] w fun e w'=>(∃v,e=.returned v/\r.1.here w' w.heap.size w'.heap.size v)/\aC w' P s r.2/\w.grownBy w' (some P);generalize p.k.kind=kk at *;generalize p.k.text=kt at *;clear h hq;go_enter func191,ntmps191;go_wp2_with fail;refine HQ.out.mono ?_;rintro e w2 ⟨v,rfl,h1,h2,h3⟩;have HH:Hid (r.1.here w2 w.heap.size w2.heap.size v/\aC w2 P s r.2/\w.grownBy w2 (some P)):=⟨h1,h2,h3⟩;clear h1 h2 h3 HQ;go_wp2_with fail;go_ret;exact⟨⟨_,rfl,HH.out.1⟩,HH.out.2⟩
theorem aff(hk2:¬p.k.kind=2)(hk4:¬p.k.kind=4)(tp:p.is [118,97,114]=true)(hq:ou 222 s p r):yt s p (some r.1,r.2):=by
 intro P w h;have HQ:Hid (Calls prog 222 #[Pt P 0] w fun e w'=>∃v,e=.returned v/\r.1.here w' w.heap.size w'.heap.size v/\aC w' P s r.2/\w.grownBy w' (some P)):=hq P w h;have c1:=bK.c1 h;have c2:=bK.c2 h;have n2:(p.k.kind==2)=false:=by simp[hk2]
 have n4:(p.k.kind==4)=false:=by simp[hk4]
 have tp:=dR tp;show Calls prog 191 #[Pt P 0] w fun e w'=>(∃v,e=.returned v/\r.1.here w' w.heap.size w'.heap.size v)/\aC w' P s r.2/\w.grownBy w' (some P);generalize p.k.kind=kk at *;generalize p.k.text=kt at *;clear h hq;go_enter func191,ntmps191;go_wp2_with fail;refine HQ.out.mono ?_;rintro e w2 ⟨v,rfl,h1,h2,h3⟩;have HH:Hid (r.1.here w2 w.heap.size w2.heap.size v/\aC w2 P s r.2/\w.grownBy w2 (some P)):=⟨h1,h2,h3⟩;clear h1 h2 h3 HQ;go_wp2_with fail;go_ret;exact⟨⟨_,rfl,HH.out.1⟩,HH.out.2⟩
theorem afh(hk2:¬p.k.kind=2)(hk4:¬p.k.kind=4)(t0:p.is [118,97,114]=false)(tp:p.is [112,117,115,104]=true)(hq:ou 223 s p r):yt s p (some r.1,r.2):=by
 intro P w h;have HQ:Hid (Calls prog 223 #[Pt P 0] w fun e w'=>∃v,e=.returned v/\r.1.here w' w.heap.size w'.heap.size v/\aC w' P s r.2/\w.grownBy w' (some P)):=hq P w h;have c1:=bK.c1 h;have c2:=bK.c2 h;have n2:(p.k.kind==2)=false:=by simp[hk2]
 have n4:(p.k.kind==4)=false:=by simp[hk4]
 have t0:=dR t0;have tp:=dR tp;show Calls prog 191 #[Pt P 0] w fun e w'=>(∃v,e=.returned v/\r.1.here w' w.heap.size w'.heap.size v)/\aC w' P s r.2/\w.grownBy w' (some P);generalize p.k.kind=kk at *;generalize p.k.text=kt at *;clear h hq;go_enter func191,ntmps191;go_wp2_with fail;refine HQ.out.mono ?_;rintro e w2 ⟨v,rfl,h1,h2,h3⟩;have HH:Hid (r.1.here w2 w.heap.size w2.heap.size v/\aC w2 P s r.2/\w.grownBy w2 (some P)):=⟨h1,h2,h3⟩;clear h1 h2 h3 HQ;go_wp2_with fail;go_ret;exact⟨⟨_,rfl,HH.out.1⟩,HH.out.2⟩
theorem afi(hk2:¬p.k.kind=2)(hk4:¬p.k.kind=4)(t0:p.is [118,97,114]=false)(t1:p.is [112,117,115,104]=false)(tp:p.is [114,101,116,117,114,110]=true)(hq:ou 224 s p r):yt s p (some r.1,r.2):=by
 intro P w h;have HQ:Hid (Calls prog 224 #[Pt P 0] w fun e w'=>∃v,e=.returned v/\r.1.here w' w.heap.size w'.heap.size v/\aC w' P s r.2/\w.grownBy w' (some P)):=hq P w h;have c1:=bK.c1 h;have c2:=bK.c2 h;have n2:(p.k.kind==2)=false:=by simp[hk2]
 have n4:(p.k.kind==4)=false:=by simp[hk4]
 have t0:=dR t0;have t1:=dR t1;have tp:=dR tp;show Calls prog 191 #[Pt P 0] w fun e w'=>(∃v,e=.returned v/\r.1.here w' w.heap.size w'.heap.size v)/\aC w' P s r.2/\w.grownBy w' (some P);generalize p.k.kind=kk at *;generalize p.k.text=kt at *;clear h hq;go_enter func191,ntmps191;go_wp2_with fail;refine HQ.out.mono ?_;rintro e w2 ⟨v,rfl,h1,h2,h3⟩;have HH:Hid (r.1.here w2 w.heap.size w2.heap.size v/\aC w2 P s r.2/\w.grownBy w2 (some P)):=⟨h1,h2,h3⟩;clear h1 h2 h3 HQ;go_wp2_with fail;go_ret;exact⟨⟨_,rfl,HH.out.1⟩,HH.out.2⟩
theorem afc(hk2:¬p.k.kind=2)(hk4:¬p.k.kind=4)(t0:p.is [118,97,114]=false)(t1:p.is [112,117,115,104]=false)(t2:p.is [114,101,116,117,114,110]=false)(tp:p.is [105,102]=true)(hq:ou 225 s p r):yt s p (some r.1,r.2):=by
 intro P w h;have HQ:Hid (Calls prog 225 #[Pt P 0] w fun e w'=>∃v,e=.returned v/\r.1.here w' w.heap.size w'.heap.size v/\aC w' P s r.2/\w.grownBy w' (some P)):=hq P w h;have c1:=bK.c1 h;have c2:=bK.c2 h;have n2:(p.k.kind==2)=false:=by simp[hk2]
 have n4:(p.k.kind==4)=false:=by simp[hk4]
 have t0:=dR t0;have t1:=dR t1;have t2:=dR t2;have tp:=dR tp;show Calls prog 191 #[Pt P 0] w fun e w'=>(∃v,e=.returned v/\r.1.here w' w.heap.size w'.heap.size v)/\aC w' P s r.2/\w.grownBy w' (some P);generalize p.k.kind=kk at *;generalize p.k.text=kt at *;clear h hq;go_enter func191,ntmps191;go_wp2_with fail;refine HQ.out.mono ?_;rintro e w2 ⟨v,rfl,h1,h2,h3⟩;have HH:Hid (r.1.here w2 w.heap.size w2.heap.size v/\aC w2 P s r.2/\w.grownBy w2 (some P)):=⟨h1,h2,h3⟩;clear h1 h2 h3 HQ;go_wp2_with fail;go_ret;exact⟨⟨_,rfl,HH.out.1⟩,HH.out.2⟩
theorem afe(hk2:¬p.k.kind=2)(hk4:¬p.k.kind=4)(t0:p.is [118,97,114]=false)(t1:p.is [112,117,115,104]=false)(t2:p.is [114,101,116,117,114,110]=false)(t3:p.is [105,102]=false)(tp:p.is [101,97,99,104]=true)(hq:ou 226 s p r):yt s p (some r.1,r.2):=by
 intro P w h;have HQ:Hid (Calls prog 226 #[Pt P 0] w fun e w'=>∃v,e=.returned v/\r.1.here w' w.heap.size w'.heap.size v/\aC w' P s r.2/\w.grownBy w' (some P)):=hq P w h;have c1:=bK.c1 h;have c2:=bK.c2 h;have n2:(p.k.kind==2)=false:=by simp[hk2]
 have n4:(p.k.kind==4)=false:=by simp[hk4]
 have t0:=dR t0;have t1:=dR t1;have t2:=dR t2;have t3:=dR t3;have tp:=dR tp;show Calls prog 191 #[Pt P 0] w fun e w'=>(∃v,e=.returned v/\r.1.here w' w.heap.size w'.heap.size v)/\aC w' P s r.2/\w.grownBy w' (some P);generalize p.k.kind=kk at *;generalize p.k.text=kt at *;clear h hq;go_enter func191,ntmps191;go_wp2_with fail;refine HQ.out.mono ?_;rintro e w2 ⟨v,rfl,h1,h2,h3⟩;have HH:Hid (r.1.here w2 w.heap.size w2.heap.size v/\aC w2 P s r.2/\w.grownBy w2 (some P)):=⟨h1,h2,h3⟩;clear h1 h2 h3 HQ;go_wp2_with fail;go_ret;exact⟨⟨_,rfl,HH.out.1⟩,HH.out.2⟩
theorem Ws(hk2:¬p.k.kind=2)(hk4:¬p.k.kind=4)(t0:p.is [118,97,114]=false)(t1:p.is [112,117,115,104]=false)(t2:p.is [114,101,116,117,114,110]=false)(t3:p.is [105,102]=false)(t4:p.is [101,97,99,104]=false):yt s p (none,p):=by
 intro P w h;have HH:Hid (aC w P s p/\w.grownBy w (some P)):=⟨h,World.grownBy.refl _ _⟩;have c1:=bK.c1 h;have c2:=bK.c2 h;have n2:(p.k.kind==2)=false:=by simp[hk2]
 have n4:(p.k.kind==4)=false:=by simp[hk4]
 have t0:=dR t0;have t1:=dR t1;have t2:=dR t2;have t3:=dR t3;have t4:=dR t4;show Calls prog 191 #[Pt P 0] w fun e w'=>(∃v,e=.returned v/\v=.nilIface)/\aC w' P s p/\w.grownBy w' (some P);clear h;go_enter func191,ntmps191;go_wp2_with fail;go_ret;exact⟨⟨_,rfl,rfl⟩,HH.out⟩
theorem ail(n:Nat)(h2:p.k.kind=2->ou 220 s p (IL s ex p))(h4:p.k.kind=4->ou 221 s p (IX s ex p))(hv:p.is [118,97,114]=true->ou 222 s p (Ie s ex p))
 (hp:p.is [112,117,115,104]=true->ou 223 s p (IB s ex' p))(hr:p.is [114,101,116,117,114,110]=true->ou 224 s p (IG s p))(hi:p.is [105,102]=true->ou 225 s p (zI s ex aW p))
 (he:p.is [101,97,99,104]=true->ou 226 s p (Ib s aW ex' n p)):yt s p (xO s ex aW ex' n p):=by
 unfold xO;split
 .rename_i k;exact afj k (h2 k)
 rename_i k2;split
 .rename_i k;exact afk k (h4 k)
 rename_i k4;cases t0:p.is [118,97,114]with
 |true=>exact aff k2 k4 t0 (hv t0)
 |false=>
 cases t1:p.is [112,117,115,104]with
 |true=>exact afh k2 k4 t0 t1 (hp t1)
 |false=>
 cases t2:p.is [114,101,116,117,114,110]with
 |true=>exact afi k2 k4 t0 t1 t2 (hr t2)
 |false=>
 cases t3:p.is [105,102]with
 |true=>exact afc k2 k4 t0 t1 t2 t3 (hi t3)
 |false=>
 cases t4:p.is [101,97,99,104]with
 |true=>exact afe k2 k4 t0 t1 t2 t3 t4 (he t4)
 |false=>exact Ws k2 k4 t0 t1 t2 t3 t4
end
section
variable {s:ByteArray}{ex:Ps->Ex×Ps}{d:Nat}{p:Ps}
theorem Um{W y:World}{o:Obj}(h:W.grownBy y none):W.grownBy (y.alloc o) none:=h.trans (World.grownBy_alloc y o none)
theorem Un{W y:World}(h:W.grownBy y none):W.grownBy y.drew none:=h.trans ⟨rfl,rfl,rfl,Nat.le_refl _,fun _ _ _=>rfl⟩
theorem Uo{W y:World}{k:Nat}(h:W.grownBy y none):W.grownBy (y.drewN k) none:=h.trans (dh y k)
theorem aes(hs:s.size<=4000)(h:Reader s ex (d+1))(ok:p.Ok s)(hd:Deep (d+1) p)(ht:p.is [118,97,114]=true):ou 222 s p (Ie s ex p):=by
 intro P w hp;have hlt:=hp.lt;have g1:=gq ok (kJ (by simp) ht);have gn:=zO g1.ok;have dn:=hd.dB (g1.trans gn);have HN:Hid (Calls prog 236 #[Pt P 0] w (dP P s w (.agg #[Im p.k.kind,.string p.k.text,Im p.k.at']) (p.next s))):=qQ hp ok hs;have HM:Hid (∀x,aC x P s (p.next s)->Calls prog 232 #[Pt P 0] x (dP P s x (BI ((p.next s).name s).1) ((p.next s).name s).2)):=fun x hx=>EP hx g1.ok hs;have hfa:=Gy p.k.kind p.k.at' p.k.text;obtain⟨g2,x2⟩:=EC h.dB gn.ok dn;have HG:Hid (∀x,aC x P s ((p.next s).name s).2->Calls prog 233 #[Pt P 0] x fun e w'=>∃v,e=.returned v/\(kT s ex ((p.next s).name s).2).1.here (kT s ex ((p.next s).name s).2).1.at' w' x.heap.size w'.heap.size v/\aC w' P s (kT s ex ((p.next s).name s).2).2/\x.grownBy w' (some P)):=fun x hx=>Oh hs h gn.ok dn P x hx;have HX:Hid (cZ (kT s ex ((p.next s).name s).2).1):=x2;show Calls prog 222 #[Pt P 0] w fun e w'=>∃v,e=.returned v/\(yO p.k.at' ((p.next s).name s).1 (kT s ex ((p.next s).name s).2).1).here w' w.heap.size w'.heap.size v/\aC w' P s (kT s ex ((p.next s).name s).2).2/\w.grownBy w' (some P);generalize kT s ex ((p.next s).name s).2=r at *;generalize (p.next s).name s=dq at *;obtain⟨⟨dt,da⟩,q2⟩:=dq;generalize p.next s=q1 at *;generalize p.k.kind=kk at *;generalize p.k.text=kt at *;generalize p.k.at'=ka at *;have HM:Hid (∀x,aC x P s q1->Calls prog 232 #[Pt P 0] x (dP P s x (.agg #[.string dt,Im da]) q2)):=HM.out;simp only at HG⊢;clear hp gn dn g2 x2 ok hd h g1 ht;go_enter func222,ntmps222;go_wp2_with fail;refine HN.out.mono ?_
 rintro e w1 ⟨rfl,p1,g1⟩;have bP:Hid (aC w1 P s q1/\w.grownBy w1 (some P)):=⟨p1,g1⟩;clear p1 g1 HN;go_wp2_with fail;refine(HM.out _ bP.out.1).mono ?_;rintro e w2 ⟨rfl,p2,g2⟩;have HP2:Hid (aC (w2.alloc (.cells #[.string dt,Im da] 316)) P s q2/\w.grownBy w2 (some P)):=⟨p2.grow (World.grownBy_alloc _ _ none),bP.out.2.trans g2⟩;clear p2 g2 HM bP;go_wp2_with fail;refine(HG.out _ HP2.out.1).mono ?_;rintro e W ⟨v,rfl,e2,p3,g3⟩;obtain⟨T,A,rfl,hmp,b1,b2,a1⟩:=HX.out.mQ e2;have hgb:W.heap[w2.heap.size]? =some (.cells #[.string dt,Im da] 316):=(g3.block _ (by rw[kK];omega) (by have:=HP2.out.2.size;simp;omega)).trans (heap_alloc_new _ _);have l3:=dS hgb;have g0:W.cell? (Ad w2.heap.size 0)=some (.string dt):=aA hgb;have g1:W.cell? (Ad w2.heap.size 1)=some (Im da):=aA hgb;have LH:w2.heap.size<W.heap.size+1:=by omega
 have WQ:w2.heap.size<W.heap.size+1+1:=by omega
 have WR:w2.heap.size<W.heap.size+1+1+1:=by omega
 have Xk:w2.heap.size<W.heap.size+2:=by omega
 have Xl:w2.heap.size<W.heap.size+3:=by omega
 have OA:Hid (∀y,W.grownBy y none->y.cell? (Ad A 1)=some (Im r.1.aj)):=fun y hy=>hy.cell a1 (by simp);have dG:Hid (r.1.here r.1.at' W w.heap.size W.heap.size (.iface T (Pt A 0))/\aC W P s r.2/\w.grownBy W (some P)):=by
  have s2:=HP2.out.2.size;have hw:=HP2.out.2.trans (((World.grownBy_alloc w2 (.cells #[.string dt,Im da] 316) none).but (some P)).trans g3);exact⟨(HX.out.law _).wide _ _ _ _ _ _ e2 (by rw[kK];omega) (Nat.le_refl _),p3,hw⟩
 have hcb:=HX.out.aj;have zy:Hid (Calls prog 234 #[Im ka,.slice (some (Ad W.heap.size 0)) 1 1] (W.alloc (.cells #[Im r.1.aj] 3)).drew fun e w'=>e=.returned (.agg #[Im ka,Im (bD [r.1.aj])])/\w'=((W.alloc (.cells #[Im r.1.aj] 3)).drew.alloc (.cells #[Im ka,Im (bD [r.1.aj])] 323)).alloc (.cells #[Im 1,Im (dY [r.1.aj])] 3)):=by
  refine ET ka _ [r.1.aj] ⟨by simpa using hcb,by simp,Or.inr ⟨_,_,rfl,fun i y hy=>?_⟩⟩
  match i,hy with
  |0,hy=>
   cases hy;have hh:(W.alloc (.cells #[Im r.1.aj] 3)).drew.heap[W.heap.size]? =some (.cells #[Im r.1.aj] 3):=heap_alloc_new W _;exact aA hh
 have HFin:Hid (∀a b c,(yO ka ⟨dt,da⟩ r.1).here ((((W.alloc a).alloc b).alloc c).alloc (.cells #[Im ka,Im (bD [r.1.aj]),.string dt,Im da,.iface T (Pt A 0)] 332)).drew w.heap.size ((((W.alloc a).alloc b).alloc c).alloc (.cells #[Im ka,Im (bD [r.1.aj]),.string dt,Im da,.iface T (Pt A 0)] 332)).drew.heap.size (.iface 331 (Pt (W.heap.size+1+1+1) 0))/\aC ((((W.alloc a).alloc b).alloc c).alloc (.cells #[Im ka,Im (bD [r.1.aj]),.string dt,Im da,.iface T (Pt A 0)] 332)).drew P s r.2/\w.grownBy ((((W.alloc a).alloc b).alloc c).alloc (.cells #[Im ka,Im (bD [r.1.aj]),.string dt,Im da,.iface T (Pt A 0)] 332)).drew (some P)):=fun a b c=>by
  obtain⟨h1,h2⟩:=J5 W a b c (.cells #[Im ka,Im (bD [r.1.aj]),.string dt,Im da,.iface T (Pt A 0)] 332);have s3:=dG.out.2.2.size;exact⟨⟨_,_,rfl,by omega,dS h1,⟨_,rfl,(HX.out.law _).wide _ _ _ _ _ _ ((HX.out.law _).loc _ _ _ _ _ dG.out.1 (fun b _ hb=>h2.block b hb (by simp))) (Nat.le_refl _) (by omega)⟩,h1⟩,dG.out.2.1.grow h2,dG.out.2.2.trans (h2.but _)⟩
 clear hgb e2 p3 g3 HG b1 b2 a1 hcb;go_upto_region 4 with fail;go_region_with (first|(go_at_call 244;refine(nZ A 0 r.1.aj (OA.out _ (by repeat (first|exact World.grownBy.refl _ _|refine Um ?_|refine Un ?_|refine Uo ?_)))).mono ?_;rintro e w' ⟨rfl,rfl⟩)|(go_at_call 234;refine zy.out.mono ?_;rintro e w' ⟨rfl,rfl⟩));all_goals
  go_wp2_with fail;go_ret;exact⟨_,rfl,HFin.out _ _ _⟩
theorem ahV(hs:s.size<=4000)(h:Reader s ex (d+1))(ok:p.Ok s)(hd:Deep (d+1) p):ou 220 s p (IL s ex p):=by
 intro P w hp;have hlt:=hp.lt;have gn:=zO ok;have dn:=hd.dB gn;have HM:Hid (∀x,aC x P s p->Calls prog 232 #[Pt P 0] x (dP P s x (BI (p.name s).1) (p.name s).2)):=fun x hx=>EP hx ok hs;have RD:Hid (aC w P s p):=hp;obtain⟨g2,x2⟩:=EC h.dB gn.ok dn;have HG:Hid (∀x,aC x P s (p.name s).2->Calls prog 233 #[Pt P 0] x fun e w'=>∃v,e=.returned v/\(kT s ex (p.name s).2).1.here (kT s ex (p.name s).2).1.at' w' x.heap.size w'.heap.size v/\aC w' P s (kT s ex (p.name s).2).2/\x.grownBy w' (some P)):=fun x hx=>Oh hs h gn.ok dn P x hx;have HX:Hid (cZ (kT s ex (p.name s).2).1):=x2;show Calls prog 220 #[Pt P 0] w fun e w'=>∃v,e=.returned v/\(tZ (p.name s).1 (kT s ex (p.name s).2).1).here w' w.heap.size w'.heap.size v/\aC w' P s (kT s ex (p.name s).2).2/\w.grownBy w' (some P);generalize kT s ex (p.name s).2=r at *;generalize p.name s=dq at *;obtain⟨⟨dt,da⟩,q2⟩:=dq;have HM:Hid (∀x,aC x P s p->Calls prog 232 #[Pt P 0] x (dP P s x (.agg #[.string dt,Im da]) q2)):=HM.out;simp only at HG⊢;clear hp gn dn g2 x2 ok hd h;go_enter func220,ntmps220;go_wp2_with fail;refine(HM.out _ RD.out).mono ?_;rintro e w2 ⟨rfl,p2,g2⟩;have HP2:Hid (aC (w2.alloc (.cells #[.string dt,Im da] 316)) P s q2/\w.grownBy w2 (some P)):=⟨p2.grow (World.grownBy_alloc _ _ none),g2⟩;clear p2 g2 HM RD;go_wp2_with fail;refine(HG.out _ HP2.out.1).mono ?_;rintro e W ⟨v,rfl,e2,p3,g3⟩;obtain⟨T,A,rfl,hmp,b1,b2,a1⟩:=HX.out.mQ e2
 have hgb:W.heap[w2.heap.size]? =some (.cells #[.string dt,Im da] 316):=(g3.block _ (by rw[kK];omega) (by have:=HP2.out.2.size;simp;omega)).trans (heap_alloc_new _ _);have l3:=dS hgb;have g0:W.cell? (Ad w2.heap.size 0)=some (.string dt):=aA hgb;have g1:W.cell? (Ad w2.heap.size 1)=some (Im da):=aA hgb;have LH:w2.heap.size<W.heap.size+1:=by omega
 have WQ:w2.heap.size<W.heap.size+1+1:=by omega
 have WR:w2.heap.size<W.heap.size+1+1+1:=by omega
 have Xk:w2.heap.size<W.heap.size+2:=by omega
 have Xl:w2.heap.size<W.heap.size+3:=by omega
 have OA:Hid (∀y,W.grownBy y none->y.cell? (Ad A 1)=some (Im r.1.aj)):=fun y hy=>hy.cell a1 (by simp);have dG:Hid (r.1.here r.1.at' W w.heap.size W.heap.size (.iface T (Pt A 0))/\aC W P s r.2/\w.grownBy W (some P)):=by
  have s2:=HP2.out.2.size;have hw:=HP2.out.2.trans (((World.grownBy_alloc w2 (.cells #[.string dt,Im da] 316) none).but (some P)).trans g3);exact⟨(HX.out.law _).wide _ _ _ _ _ _ e2 (by rw[kK];omega) (Nat.le_refl _),p3,hw⟩
 have hcb:=HX.out.aj;have zy:Hid (Calls prog 234 #[Im da,.slice (some (Ad W.heap.size 0)) 1 1] (W.alloc (.cells #[Im r.1.aj] 3)).drew fun e w'=>e=.returned (.agg #[Im da,Im (bD [r.1.aj])])/\w'=((W.alloc (.cells #[Im r.1.aj] 3)).drew.alloc (.cells #[Im da,Im (bD [r.1.aj])] 323)).alloc (.cells #[Im 1,Im (dY [r.1.aj])] 3)):=by
  refine ET da _ [r.1.aj] ⟨by simpa using hcb,by simp,Or.inr ⟨_,_,rfl,fun i y hy=>?_⟩⟩
  match i,hy with
  |0,hy=>
   cases hy;have hh:(W.alloc (.cells #[Im r.1.aj] 3)).drew.heap[W.heap.size]? =some (.cells #[Im r.1.aj] 3):=heap_alloc_new W _;exact aA hh
 have HFin:Hid (∀a b c,(tZ ⟨dt,da⟩ r.1).here ((((W.alloc a).alloc b).alloc c).alloc (.cells #[Im da,Im (bD [r.1.aj]),.string dt,Im da,.iface T (Pt A 0)] 326)).drew w.heap.size ((((W.alloc a).alloc b).alloc c).alloc (.cells #[Im da,Im (bD [r.1.aj]),.string dt,Im da,.iface T (Pt A 0)] 326)).drew.heap.size (.iface 321 (Pt (W.heap.size+1+1+1) 0))/\aC ((((W.alloc a).alloc b).alloc c).alloc (.cells #[Im da,Im (bD [r.1.aj]),.string dt,Im da,.iface T (Pt A 0)] 326)).drew P s r.2/\w.grownBy ((((W.alloc a).alloc b).alloc c).alloc (.cells #[Im da,Im (bD [r.1.aj]),.string dt,Im da,.iface T (Pt A 0)] 326)).drew (some P)):=fun a b c=>by
  obtain⟨h1,h2⟩:=J5 W a b c (.cells #[Im da,Im (bD [r.1.aj]),.string dt,Im da,.iface T (Pt A 0)] 326);have s3:=dG.out.2.2.size;exact⟨⟨_,_,rfl,by omega,dS h1,⟨_,rfl,(HX.out.law _).wide _ _ _ _ _ _ ((HX.out.law _).loc _ _ _ _ _ dG.out.1 (fun b _ hb=>h2.block b hb (by simp))) (Nat.le_refl _) (by omega)⟩,h1⟩,dG.out.2.1.grow h2,dG.out.2.2.trans (h2.but _)⟩
 clear hgb e2 p3 g3 HG b1 b2 a1 hcb;go_upto_region 3 with fail;go_region_with (first|(go_at_call 244;refine(nZ A 0 r.1.aj (OA.out _ (by repeat (first|exact World.grownBy.refl _ _|refine Um ?_|refine Un ?_|refine Uo ?_)))).mono ?_;rintro e w' ⟨rfl,rfl⟩)|(go_at_call 234;refine zy.out.mono ?_;rintro e w' ⟨rfl,rfl⟩));all_goals
  go_wp2_with fail;go_ret;exact⟨_,rfl,HFin.out _ _ _⟩
end
end
section
open Go.RowKit Hx
theorem XZ(st:Ps->Option bI×Ps):∀(n:Nat)(l:List bI)(p:Ps),(oH st n l p).1.length<=l.length+n
 |0,l,_=>Nat.le_refl _
 |n+1,l,p=>by
  unfold oH;split
  .rename_i e q _;have:=XZ st n (l++[e]) q;simp only[List.length_append,List.length_cons,List.length_nil]at this;omega
  .simp only;omega
theorem X8(s:ByteArray):∀(d:Nat)(p:Ps),(mF s d p).1.length<=s.size+1
 |0,_=>by simp[mF]
 |d+1,p=>by
  have:=XZ (xO s (pJ s (d+1)) (wZ s (mF s d)) (pJ s d) (s.size+1)) (s.size+1) [] p;simpa [mF]using this
theorem aay(s:ByteArray)(d:Nat)(p:Ps):(wZ s (mF s d) p).1.length<=s.size+1:=X8 s d _
theorem Ye{g:Nat}:∀{bs:List bI}{w w':World}{lo hi:Nat}{us:List Value},(∀b∈bs,Lawful b.here)->nJ g bs w lo hi us->(∀b,lo<=b->b<hi->b≠g->w'.heap[b]? =w.heap[b]?)->nJ g bs w' lo hi us
 |[],_,_,_,_,_,_,h,_=>h
 |b::bs,_,_,_,_,_,hl,⟨l,m,u,us',h0,h1,h2,h3,h4,h5,h6⟩,hk=>
  ⟨l,m,u,us',h0,h1,h2,h3,h4,(hl b (List.mem_cons_self ..)).loc _ _ _ _ _ h5 (fun k k1 k2=>hk k (by omega) (by omega) (by omega)),Ye (fun c hc=>hl c (List.mem_cons_of_mem _ hc)) h6 (fun k k1 k2 k3=>hk k (by omega) k2 k3)⟩
theorem adU{l:List bI}{w:World}{B g lo hi:Nat}{v:Value}{us:List Value}(ho:w.ownsRow B 192 1 v l.length us)(hg:v.ownBlock=some g\/l=[])(hs:nJ g l w lo hi us)(hlo:lo<=B)(hhi:w.heap.size<=hi):dX l w lo hi v:=by
 rcases ho with⟨h1,⟨h2,h3⟩|⟨g',cap,cur,h2,h3,h4,h5,h6,h7,h8⟩⟩
 .exact Or.inl ⟨List.length_eq_zero_iff.1 h3,h2⟩
 .rcases hg with hg|hg
  .subst h2;simp only[Value.ownBlock,Option.some.injEq]at hg;subst hg;refine Or.inr ⟨g',cap,us,cur,rfl,by omega,by have:=dS h4;omega,hs,h4,fun j u hj=>?_⟩;rw[<-h8]at hj;rw[List.getElem?_take]at hj;split at hj
   .simpa using hj
   .cases hj
  .subst hg;have hs:us=[]:=hs;subst hs;subst h2;refine Or.inr ⟨g',cap,[],cur,rfl,by omega,by have:=dS h4;omega,rfl,h4,fun j u hj=>by simp at hj⟩
end
end Go.Proofs.YthllhabjfchgiaaGreatDoor
