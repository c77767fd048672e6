import Derived.Test.YthllhabjfchgiaaGreatDoorHz57
import Derived.Test.YthllhabjfchgiaaGreatDoorHz41
set_option maxRecDepth 100000
set_option maxHeartbeats 8000000
namespace Go.Proofs.YthllhabjfchgiaaGreatDoor
open _root_.Go.Proofs.Tryz
section
open Go.RowKit Hx
attribute [local go_sem ↓] Go.wp_at_zero Go.wp_at_succ
attribute [local go_sem] bT
section
variable {s:ByteArray}{ex:Ps->Ex×Ps}{d:Nat}{p:Ps}
theorem adb:(prog.info? 361).map (fun i=>(i.zero,i.size,i.bytes))=some (some (.agg #[.string ⟨#[]⟩,Im 0,.nilIface]),3,40):=by kernel_rfl
structure Gj(s:ByteArray)(ex:Ps->Ex×Ps)(d:Nat)(R:(Sx×Bool)×Ps)(P:Nat)(w:World)(S:Nat)(wr:World)(gg:Nat)(fv:Value)(g:Nat)(x:Sx)(us:List Value)(q:Ps)(m:Nat):Prop where
 heap:mY P w wr S fv g x us m
 pr:aC wr P s q
 ok:q.Ok s
 deep:Deep (d+1) q
 vS:fM x
 fuel:(s.size:Int)+1-q.k.at'<=gg
 len:x.aH.length+gg<=100000
 eq:qg s ex gg x q=R
theorem afY{w w':World}{P:Nat}{q:Ps}(h:aC w P s q)(hb:w'.heap[P]? =w.heap[P]?):aC w' P s q:=by
 have h:bK w P s q.k q.dp q.en q.ea:=h;have hc:∀j,w'.cell? (Ad P j)=w.cell? (Ad P j):=fun j=>World.cell?_of_block hb;exact⟨by rw[hc];exact h.c0,by rw[hc];exact h.c1,by rw[hc];exact h.c2,by rw[hc];exact h.c3,by rw[hc];exact h.c4,by rw[hc];exact h.c5,by rw[hc];exact h.c6,
  fun j=>(World.frozen?_of_block hb).trans (h.fr j)⟩
theorem ag2{w:World}{B n:Nat}{v:Value}{us:List Value}(h:w.ownsRow B 361 3 v n us):∃a c,v=.slice a n c:=by
 rcases h with⟨_,⟨h2,h3⟩|⟨g,cap,cur,h2,_⟩⟩
 .subst h3;exact⟨_,_,h2⟩
 .exact⟨_,_,h2⟩
theorem aa8{q:Ps}{gg:Nat}(ok:q.Ok s)(hf:(s.size:Int)+1-q.k.at'<=gg)(h:q.is [46]=true):∃g',gg=g'+1/\(s.size:Int)+1-(q.next s).k.at'<=g':=by
 have h1:=ok.tok.bd;have h2:=EW ok;have h3:=ok.tok.l9;have h4:q.k.text.size=1:=by
  have h5:q.k.text.data.toList=[46]:=eq_of_beq h;have h6:q.k.text.data.toList.length=1:=by rw[h5];rfl
  exact h6
 refine⟨gg-1,?_,?_⟩<;>omega
theorem ahO(hs:s.size<=4000)(h:Reader s ex d)(ok:p.Ok s)(hd:Deep (d+1) p)(of:Int)(hof:setOf p.k.text.data.toList=some of):sV s p (qg s ex (s.size+1) ⟨p.k.at',1,p.k.text,of,[]⟩ (p.next s)):=by
 intro P w hp;have hlt:=hp.lt;have hL:=bK.lt hp;have gn:=gq ok (Wh hof);have e2:∀x:mX w,x.val.cell? (Ad P 2)=some (.string p.k.text):=fun x=>(bK.grow hp x.grown).c2;have e3:∀x:mX w,x.val.cell? (Ad P 3)=some (Im p.k.at'):=fun x=>(bK.grow hp x.grown).c3;have hne:=JM w;have HW:Hid (∀w',w.grownBy w' none->aC w' P s p):=fun w' hg=>bK.grow hp hg;have HX:Hid (∀x:mX w,Calls prog 234 #[Im p.k.at',Nl] x.val fun e w''=>e=.returned (.agg #[Im p.k.at',Im 1])/\∃y:mX w,w''=y.val):=fun x=>TR _ x;have MW:Hid (∀q:Ps,q.Ok s->∀x,aC x P s q->Calls prog 236 #[Pt P 0] x (dP P s x (lY q.k) (q.next s))):=fun q o x hx=>qQ hx o hs;have Ru:Hid (∀x,aC x P s p->Calls prog 236 #[Pt P 0] x (dP P s x (lY p.k) (p.next s))):=fun x hx=>qQ hx ok hs;have BN:Hid (∀q:Ps,q.Ok s->Deep (d+1) q->∀x,aC x P s q->Calls prog 257 #[Pt P 0] x fun e w'=>∃u,e=.returned (CB (lG s ex q).1.1 u)/\(lG s ex q).1.2.here (lG s ex q).1.2.at' w' x.heap.size w'.heap.size u/\aC w' P s (lG s ex q).2/\x.grownBy w' (some P)):=fun q o hq x hx=>S9 hs h o hq P x hx;have HG:Hid (kY s ex d):=h.dB;have hor:of=3/\(p.k.text.toList==[82,79,65,68,83])=true\/of=4/\(p.k.text.toList==[82,79,65,68,83])=false/\((p.k.text.toList==[70,82,69,83,72])=true\/(p.k.text.toList==[70,82,69,83,72])=false/\(p.k.text.toList==[65,71,65,73,78])=true):=by
  rw[ByteArray.toList_eq];unfold setOf at hof;generalize p.k.text.data.toList=tl at *;cases h1:(tl==[82,79,65,68,83])with
  |true=>rw[h1]at hof;simp at hof;exact Or.inl ⟨hof.symm,rfl⟩
  |false=>
   rw[h1]at hof;cases h2:(tl==[70,82,69,83,72])with
   |true=>rw[h2]at hof;simp at hof;exact Or.inr ⟨hof.symm,rfl,Or.inl rfl⟩
   |false=>
    cases h3:(tl==[65,71,65,73,78])with
    |true=>rw[h2,h3]at hof;simp at hof;exact Or.inr ⟨hof.symm,rfl,Or.inr ⟨rfl,rfl⟩⟩
    |false=>rw[h2,h3]at hof;simp at hof
 have RI:Hid (∀wx w2 S,w.grownBy wx (some P)->w.heap.size<=S->wx.heap[S]? =some (.cells #[Im p.k.at',Im 1,.string p.k.text,Im of,Nl] 348)->aC w2 P s (p.next s)->wx.grownBy w2 (some P)->Gj s ex d (qg s ex (s.size+1) ⟨p.k.at',1,p.k.text,of,[]⟩ (p.next s)) P w S w2 (s.size+1) (Nl) 0 ⟨p.k.at',1,p.k.text,of,[]⟩ [] (p.next s) (S+1)):=fun wx w2 S h1 h2 h3 h4 h5=>by
  have hf:fM ⟨p.k.at',1,p.k.text,of,[]⟩:=⟨by simp,Qr hof,by simp⟩;have h0:mY P w wx S (Nl) 0 ⟨p.k.at',1,p.k.text,of,[]⟩ [] (S+1):=mY.start h3 rfl h2 h1;have hat:=gn.ok.tok.l9;exact⟨h0.aN hf hlt h5,h4,gn.ok,hd.dB gn,hf,by omega,by simp;omega,rfl⟩
 show Calls prog 243 #[Pt P 0] w fun e w'=>∃u,e=.returned (.tuple #[u,.bool (qg s ex (s.size+1) ⟨p.k.at',1,p.k.text,of,[]⟩ (p.next s)).1.2])/\dF (qg s ex (s.size+1) ⟨p.k.at',1,p.k.text,of,[]⟩ (p.next s)).1.1 w' w.heap.size w'.heap.size u/\aC w' P s (qg s ex (s.size+1) ⟨p.k.at',1,p.k.text,of,[]⟩ (p.next s)).2/\w.grownBy w' (some P);generalize qg s ex (s.size+1) ⟨p.k.at',1,p.k.text,of,[]⟩ (p.next s)=R at *;clear hp h ok hd gn hof;go_enter func243,ntmps243;go_wp2_with fail;refine MN 12 (by kernel_rfl) (by kernel_rfl) ?_;simp only[List.take_succ_cons,List.take_zero,List.drop_succ_cons,List.drop_zero];repeat (go_big_quiet_step ((go_at_call 234;exact HX.out _)))
 refine wpQuiet_nil ?_;intro wx hg;have f2:=bK.c2 (HW.out wx hg);have hPx:=bK.lt (HW.out wx hg);have n1:¬P=wx.heap.size:=by omega
 have D6:Hid (w.grownBy wx none):=hg;clear e2 e3 hg HX;go_upto_block 0 with fail;go_cut [] (fun wy=>Hid (aC wy P s p/\wy.heap[wx.heap.size]? =some (.cells #[Im p.k.at',Im 1,.string p.k.text,Im of,Nl] 348)/\w.grownBy wy (some P)))
 case first=>
  have HF:Hid (∀o,o=Obj.cells #[Im p.k.at',Im 1,.string p.k.text,Im of,Nl] 348->aC (wx.alloc o) P s p/\(wx.alloc o).heap[wx.heap.size]? =some (.cells #[Im p.k.at',Im 1,.string p.k.text,Im of,Nl] 348)/\w.grownBy (wx.alloc o) (some P)):=fun o ho=>by
   subst ho;exact⟨bK.grow (HW.out wx D6.out) (World.grownBy_alloc _ _ none),heap_alloc_new _ _,((D6.out).trans (World.grownBy_alloc _ _ none)).but _⟩
  rcases hor with⟨rfl,t1⟩|⟨rfl,t1,t2|⟨t2,t3⟩⟩;all_goals (go_wp2_with fail;go_meet;exact HF.out _ rfl)
 case rest=>
  obtain⟨hy1,hy2,hy3⟩:=hcut.out;have HY:Hid (aC wc P s p/\wc.heap[wx.heap.size]? =some (.cells #[Im p.k.at',Im 1,.string p.k.text,Im of,Nl] 348)/\w.grownBy wc (some P)/\w.heap.size<=wx.heap.size):=⟨hy1,hy2,hy3,D6.out.size⟩;clear hcut hy1 hy2 hy3 hor f2;go_wp2_with fail;refine(Ru.out _ HY.out.1).mono ?_;rintro e w2 ⟨rfl,p2,g2⟩;have HO:=RI.out _ _ _ HY.out.2.2.1 HY.out.2.2.2 HY.out.2.1 p2 g2;generalize wx.heap.size=S at *;have HO:Hid (Gj s ex d R P w S w2 (s.size+1) (Nl) 0 ⟨p.k.at',1,p.k.text,of,[]⟩ [] (p.next s) (S+1)):=HO;clear p2 g2 Ru RI HY HW;have ajQ:=HO.out.heap.Bz;go_wp2_with fail;go_loopg [] (s.size+1) (fun gg wr=>Hid (∃fv g x us q m,Gj s ex d R P w S wr gg fv g x us q m))
  case atStart=>exact⟨_,_,_,_,_,_,HO.out⟩
  case round=>
   obtain⟨fv,g,x,us,q,m,hI⟩:=hrel.out;clear hrel HO;have HI:Hid (Gj s ex d R P w S wr gk fv g x us q m):=hI;have HI1:Hid (Calls prog 242 #[Pt P 0,.string ⟨#[46]⟩] wr fun e w'=>e=.returned (.bool (q.is [46]))/\w'=wr):=Dh hI.pr [46];clear hI;cases t0:q.is [46]with
   |false=>
    rw[t0]at HI1;have HF:Hid (R=((x,false),q)):=by
     have:=HI.out.eq;rw[<-this];cases gk with
     |zero=>rfl
     |succ n=>unfold qg;rw[t0];rfl
    go_wp2_with fail;refine HI1.out.mono ?_;rintro e w3 ⟨rfl,rfl⟩;go_wp2_with fail;go_ret2;rw[HF.out];exact⟨_,rfl,HI.out.heap.out,HI.out.pr,HI.out.heap.grown⟩
   |true=>
    rw[t0]at HI1;obtain⟨g',hg',hfu⟩:=aa8 HI.out.ok HI.out.fuel t0;have gn:=gq HI.out.ok (kJ (by simp) t0);have FQ:Hid (eP s q (q.next s)):=gn;have Ri:Hid ((s.size:Int)+1-(q.next s).k.at'<=g'):=hfu;have HE:Hid (qg s ex (g'+1) x q=R):=by have:=HI.out.eq;rw[hg']at this;exact this
    clear gn hfu;go_wp2_with fail;refine HI1.out.mono ?_;rintro e w3 ⟨rfl,rfl⟩;go_wp2_with fail;refine(MW.out q HI.out.ok _ HI.out.pr).mono ?_;rintro e w4 ⟨rfl,p4,g4⟩;have fK:Hid (aC w4 P s (q.next s)/\w3.grownBy w4 (some P)):=⟨p4,g4⟩;have HI2:Hid (Calls prog 242 #[Pt P 0,.string ⟨#[102,105,108,116,101,114]⟩] w4 fun e w'=>e=.returned (.bool ((q.next s).is [102,105,108,116,101,114]))/\w'=w4):=Dh p4 _;clear p4 g4 HI1;cases t1:(q.next s).is [102,105,108,116,101,114]with
    |false=>
     rw[t1]at HI2;have HF:Hid (R=((x,true),q.next s)):=by rw[<-HE.out];unfold qg;rw[t0,t1];rfl
     go_wp2_with fail;refine HI2.out.mono ?_;rintro e w5 ⟨rfl,rfl⟩;go_wp2_with fail;go_ret2;rw[HF.out];have hk:=HI.out.heap.aN HI.out.vS hlt fK.out.2;exact⟨_,rfl,hk.out,fK.out.1,hk.grown⟩
    |true=>
     rw[t1]at HI2;have ED:=gq FQ.out.ok (kJ (by simp) t1);have hd2:=HI.out.deep.dB (FQ.out.trans ED);have Az:Hid (∀x,aC x P s ((q.next s).next s)->Calls prog 257 #[Pt P 0] x fun e w'=>∃u,e=.returned (CB (lG s ex ((q.next s).next s)).1.1 u)/\(lG s ex ((q.next s).next s)).1.2.here (lG s ex ((q.next s).next s)).1.2.at' w' x.heap.size w'.heap.size u/\aC w' P s (lG s ex ((q.next s).next s)).2/\x.grownBy w' (some P)):=BN.out _ ED.ok hd2;obtain⟨gb,xb⟩:=JF HG.out ED.ok hd2;have uj:Hid (eP s q (lG s ex ((q.next s).next s)).2/\cZ (lG s ex ((q.next s).next s)).1.2/\(q.next s).k.at'<=(lG s ex ((q.next s).next s)).2.k.at'):=⟨(FQ.out.trans ED).trans gb,xb,(ED.trans gb).mono⟩;have HE2:Hid (qg s ex g' (x.add (lG s ex ((q.next s).next s)).1) (lG s ex ((q.next s).next s)).2=R):=by
      have:=HE.out;unfold qg at this;rw[t0,t1]at this;exact this
     have Aw:Hid (∀x,aC x P s (q.next s)->Calls prog 236 #[Pt P 0] x (dP P s x (lY (q.next s).k) ((q.next s).next s))):=MW.out _ FQ.out.ok;clear ED hd2 gb xb HE BN MW;generalize lG s ex ((q.next s).next s)=bq at *;obtain⟨⟨⟨dt,da⟩,be⟩,q2⟩:=bq;simp only at Az uj HE2;generalize (q.next s).next s=q1 at *;have Az:Hid (∀y,aC y P s q1->Calls prog 257 #[Pt P 0] y fun e w'=>∃u,e=.returned (.agg #[.string dt,Im da,u])/\be.here be.at' w' y.heap.size w'.heap.size u/\aC w' P s q2/\y.grownBy w' (some P)):=Az.out;go_wp2_with fail;refine HI2.out.mono ?_;rintro e w5 ⟨rfl,rfl⟩;go_wp2_with fail;refine(Aw.out _ fK.out.1).mono ?_;rintro e w6 ⟨rfl,p6,g6⟩;have AA:Hid (aC w6 P s q1/\w3.grownBy w6 (some P)):=⟨p6,fK.out.2.trans g6⟩;clear p6 g6 fK HI2 Aw;go_wp2_with fail;refine(Az.out _ AA.out.1).mono ?_;rintro e w7 ⟨ub,rfl,e7,p7,g7⟩;obtain⟨T2,A2,hv2,hm2,b1,b2,b3⟩:=uj.out.2.1.mQ e7;subst hv2;have wS:Hid (be.here be.at' w7 w6.heap.size w7.heap.size (.iface T2 (Pt A2 0))/\aC w7 P s q2/\w6.grownBy w7 (some P)):=⟨e7,p7,g7⟩;clear e7 p7 g7 Az b1 b2 b3;go_upto_region 16 with fail;have hgb:(w7.alloc (.cells #[.string dt,Im da,.iface T2 (Pt A2 0)] 361)).heap[w7.heap.size]? =some (.cells #[.string dt,Im da,.iface T2 (Pt A2 0)] 361):=heap_alloc_new _ _;have hgW:w7.grownBy (w7.alloc (.cells #[.string dt,Im da,.iface T2 (Pt A2 0)] 361)) none:=World.grownBy_alloc _ _ none;have OE:w7.heap.size+1<=(w7.alloc (.cells #[.string dt,Im da,.iface T2 (Pt A2 0)] 361)).heap.size:=by rw[kK];exact Nat.le_refl _
     generalize hW:w7.alloc (.cells #[.string dt,Im da,.iface T2 (Pt A2 0)] 361)=W at *;clear hW;have hx:=HI.out.vS;have qy:=HI.out.heap.aN hx hlt (AA.out.2.trans (wS.out.2.2.trans (hgW.but _)));obtain⟨fa,fc,hfv⟩:=ag2 qy.own;subst hfv;have hlen:x.aH.length<=100000:=by have:=HI.out.len;omega
     have hm7:m<=w6.heap.size:=Nat.le_trans HI.out.heap.Aa AA.out.2.size;have h67:=wS.out.2.2.size;have hW7:=hgW.size;have hbe:be.here be.at' W w6.heap.size w7.heap.size (.iface T2 (Pt A2 0)):=(uj.out.2.1.law _).loc _ _ _ _ _ wS.out.1 (fun b _ hb=>hgW.block b hb (by simp));have c4:W.cell? (Ad S 4)=some (.slice fa x.aH.length fc):=aA qy.set;have hSW:=dS qy.set;have k0:W.cell? (Ad w7.heap.size 0)=some (.string dt):=aA hgb;have k1:W.cell? (Ad w7.heap.size 1)=some (Im da):=aA hgb;have k2:W.cell? (Ad w7.heap.size 2)=some (.iface T2 (Pt A2 0)):=aA hgb;have hbw:=dS hgb;obtain⟨i0,hi0,hz0,hz1,hz2⟩:=info_parts adb;have HO:Hid (∀(o:Obj)(n:Nat),((W.alloc o).drewN n).ownsRow (S+1) 361 3 (.slice fa x.aH.length fc) x.aH.length (qx x.aH us)):=fun o n=>
      (qy.own.alloc o).kept (w':=(W.alloc o).drewN n) (row:=none) ⟨rfl,rfl,rfl,Nat.le_refl _,fun _ _ _=>rfl⟩ (by cases (Value.slice fa x.aH.length fc).ownBlock<;>simp)
     have RF:Hid (aC W P s q2):=wS.out.2.1.grow hgW;have HQ:Hid (∀(o:Obj)(n:Nat)(w1:World)(gg cap:Nat),((W.alloc o).drewN n).grownBy w1 (Value.slice fa x.aH.length fc).ownBlock->w1.ownsRow (S+1) 361 3 (.slice (some (Ad gg 0)) (x.aH.length+1) cap) (x.aH.length+1) (qx x.aH us++[.string dt,Im da,.iface T2 (Pt A2 0)])->((Value.slice fa x.aH.length fc).ownBlock=some gg\/gg=W.heap.size+1)->gg<w1.heap.size->
      (∃yF us' m',mY P w (w1.setCell (Ad S 4) (.slice (some (Ad gg 0)) (x.aH.length+1) cap)) S yF gg {x with aH:=x.aH++[(⟨dt,da⟩,be)]} us' m')/\aC (w1.setCell (Ad S 4) (.slice (some (Ad gg 0)) (x.aH.length+1) cap)) P s q2/\
      (w1.setCell (Ad S 4) (.slice (some (Ad gg 0)) (x.aH.length+1) cap)).heap[w7.heap.size]? =some (.cells #[.string dt,Im da,.iface T2 (Pt A2 0)] 361)/\
      (w1.setCell (Ad S 4) (.slice (some (Ad gg 0)) (x.aH.length+1) cap)).cell? (Ad A2 1)=some (Im be.aj)/\(∃u,w1.cell? (Ad S 4)=some u)/\w1.frozen? (Ad S 4)=false):=by
      intro o n w1 gg cap hgr hown hat hlt2;have xw:W.grownBy ((W.alloc o).drewN n) none:=(World.grownBy_alloc W o none).trans (dh _ n);obtain⟨n1,n2⟩:=qy.lK xw hgr;have hadd:=qy.add (d:=⟨dt,da⟩) hx uj.out.2.1 xw hgr hown (hat.elim Or.inl fun e=>Or.inr (by omega)) hlt2 hbe hm7 h67 (by omega);have hS1:w1.heap[S]? =some (.cells #[Im x.at',Im x.aj,.string x.base,Im x.of,.slice fa x.aH.length fc] 348):=(n1 S hSW (Or.inr (Or.inr (Nat.le_refl _)))).trans qy.set;have hSm:=qy.Bh;have ake:=qy.Bz;obtain⟨T3,A3,hv3,_,b1,b2,b3⟩:=uj.out.2.1.mQ hbe;cases hv3;have hbx:(w1.setCell (Ad S 4) (.slice (some (Ad gg 0)) (x.aH.length+1) cap)).heap[w7.heap.size]? =some (.cells #[.string dt,Im da,.iface T2 (Pt A2 0)] 361):=by
       rw[Below.heap_setCell _ _ _ _ (by simp only;omega),n1 _ hbw (Or.inr (Or.inl (by omega)))];exact hgb
      have hA:(w1.setCell (Ad S 4) (.slice (some (Ad gg 0)) (x.aH.length+1) cap)).heap[A2]? =W.heap[A2]? :=by
       rw[Below.heap_setCell _ _ _ _ (by simp only;omega),n1 _ (by omega) (Or.inr (Or.inl (by omega)))]
      refine⟨⟨_,_,_,hadd⟩,?_,hbx,(World.cell?_of_block hA).trans b3,⟨_,aA hS1⟩,eu hS1⟩;refine aC.yX ?_ (by omega) _ _;have hP1:w1.heap[P]? =W.heap[P]? :=n1 P (by omega) (Or.inr (Or.inr (by omega)));exact afY RF.out hP1
     have hmx:x.aH.length+1<=maxLen:=by unfold maxLen;omega
     have hby:(x.aH.length+1) * 40<=140737488355328:=by omega
     have nS:¬S=W.heap.size:=by omega
     clear qy hbe hgb hgW;generalize qx x.aH us=cells at *;generalize x.aH.length=len at *;go_cut [] (fun wz=>Hid (∃gg yF us' m',mY P w wz S yF gg {x with aH:=x.aH++[(⟨dt,da⟩,be)]} us' m'/\aC wz P s q2/\wz.heap[w7.heap.size]? =some (.cells #[.string dt,Im da,.iface T2 (Pt A2 0)] 361)/\wz.cell? (Ad A2 1)=some (Im be.aj)))
     case first=>
      go_region_law ((refine step_append_lies _ (by rfl) _ _ _ (by rfl) (S+1) 361 i0 _ 3 40 Tryz.underlying346 hi0 hz0 hz1 hz2 (by rfl) (by omega) (.slice fa len fc) len cells (by rfl) (HO.out _ 1) (Ad W.heap.size 0) 1 1 [.string dt,Im da,.iface T2 (Pt A2 0)] (by rfl) (by rfl) (World.news_of_block (cs:=#[.string dt,Im da,.iface T2 (Pt A2 0)]) (t:=361) (fr:=(0,0)) (heap_alloc_new W _)) (by simp[Value.oneCell']) (by omega) hmx hby (by simp;omega) (W.heap.size+1) (by simp) ?_;intro gg cap1 w3 hown1 hgrow hat hlt3;obtain⟨u12,Hg⟩:=(HQ.out _ 1 _ _ _ hgrow hown1 hat hlt3).2.2.2.2.1;have G6:=(HQ.out _ 1 _ _ _ hgrow hown1 hat hlt3).2.2.2.2.2));all_goals (go_wp2_with fail;go_meet;obtain⟨⟨a1,a2,a3,a4⟩,a5,a6,a7,_⟩:=HQ.out _ 1 _ _ _ hgrow hown1 hat hlt3;exact⟨_,a1,a2,a3,a4,a5,a6,a7⟩)
     case rest=>
      obtain⟨gg,yF,us',m',qy,Uy,hbx,hAc⟩:=hcut.out;clear hcut HQ HO c4 k0 k1 k2 hmx hby nS hz0 hz1 hz2 hi0 hSW hW7 hbw OE;have hxa:fM {x with aH:=x.aH++[(⟨dt,da⟩,be)]}:=⟨hx.aj,hx.of,fun b hb=>by
       rcases List.mem_append.1 hb with hb|hb
       .exact hx.all b hb
       .rw[List.mem_singleton.1 hb];exact uj.out.2.1⟩
      have hSW:=dS qy.set;have c1:wc.cell? (Ad S 1)=some (Im x.aj):=aA qy.set;have c3:wc.cell? (Ad S 3)=some (Im x.of):=aA qy.set;have fz:∀j,wc.frozen? (Ad S j)=false:=fun j=>eu qy.set;have hbw:=dS hbx;have k2:wc.cell? (Ad w7.heap.size 2)=some (.iface T2 (Pt A2 0)):=aA hbx;have O3:Hid (∀y,wc.grownBy y none->y.cell? (Ad S 3)=some (Im x.of)):=fun y hy=>hy.cell c3 (by simp);have OA:Hid (∀y,wc.grownBy y none->y.cell? (Ad A2 1)=some (Im be.aj)):=fun y hy=>hy.cell hAc (by simp);have hcb:=hx.aj;have hbb:=uj.out.2.1.aj;have hrb:=tY (x:=x) hbb;have FX:Hid (∀y,(wc.setCell (Ad S 1) (Im (dY [x.aj,x.round be.aj]))).grownBy y none->Gj s ex d R P w S y g' yF gg (x.add (⟨dt,da⟩,be)) us' q2 m'):=fun y hy=>by
       have h0:=qy.aj hxa hlt (World.grownBy.refl _ _) (dY [x.aj,x.round be.aj]);have h1:mY P w y S yF gg (x.add (⟨dt,da⟩,be)) us' m':=mY.aN h0 (hx.add uj.out.2.1) hlt (hy.but _);have hS1:=qy.Bz;have hl:=HI.out.len;have hfu:=Ri.out;have hmo:=uj.out.2.2;refine⟨h1,bK.grow (aC.yX Uy (by omega) _ _) hy,uj.out.1.ok,HI.out.deep.dB uj.out.1,hx.add uj.out.2.1,by omega,?_,HE2.out⟩;show(x.aH++[((⟨dt,da⟩:Wd),be)]).length+g'<=100000;simp only[List.length_append,List.length_cons,List.length_nil];omega
      obtain⟨o1,o2,hro⟩:∃o1 o2:Obj,∀y:World,y.cell? (Ad S 3)=some (Im x.of)->Calls prog 245 #[Pt S 0,Im be.aj] y fun e w'=>e=.returned (Im (x.round be.aj))/\w'=(y.alloc o1).alloc o2:=⟨_,_,fun y hy=>LX (x:=x) (S:=S) hy be.aj hbb⟩;have sQ:Hid (∀y:World,wc.grownBy y none->Calls prog 245 #[Pt S 0,Im be.aj] y fun e w'=>e=.returned (Im (x.round be.aj))/\w'=(y.alloc o1).alloc o2):=fun y hy=>hro y (O3.out y hy);clear hro O3 qy Uy hbx hAc HE2 Ri HI FQ AA wS RF uj hxa hx;generalize x.round be.aj=rc at *;generalize be.aj=bc at *;generalize hxc:x.aj=xc at *;clear hxc;have pS1:S<wc.heap.size+1:=by omega
      have pS2:S<wc.heap.size+1+1:=by omega
      have pS3:S<wc.heap.size+1+1+1:=by omega
      have rS2:S<wc.heap.size+2:=by omega
      have rS3:S<wc.heap.size+3:=by omega
      have nS1:¬S=wc.heap.size:=by omega
      go_wp2_with fail;go_region_with (first
       |(go_at_call 244;refine(nZ A2 0 bc (OA.out _ (by repeat (first|exact World.grownBy.refl _ _|refine zQ ?_|refine CU ?_|refine EG ?_)))).mono ?_;rintro e w' ⟨rfl,rfl⟩)
       |(go_at_call 245;refine(sQ.out _ (by repeat (first|exact World.grownBy.refl _ _|refine zQ ?_|refine CU ?_|refine EG ?_))).mono ?_;rintro e w' ⟨rfl,rfl⟩)
       |(go_at_call 143;refine(IY (Yy xc rc hcb hrb (aA (a:=#[Im xc,Im rc]) (T:=3) (by repeat (first|(with_reducible refine GY ?_;simp only[kK];done)|with_reducible refine GX ?_|with_reducible refine GU ?_))) (aA (a:=#[Im xc,Im rc]) (T:=3) (by repeat (first|(with_reducible refine GY ?_;simp only[kK];done)|with_reducible refine GX ?_|with_reducible refine GU ?_))))).mono ?_;rintro e w' ⟨rfl,rfl⟩))
      all_goals (go_wp2_with fail;go_roundg g')
      all_goals (first|(show _<_;omega)|exact⟨_,_,_,_,_,_,FX.out _ (CU (zQ (zQ (zQ (World.grownBy.refl _ _)))))⟩)
theorem ahN(hof:setOf p.k.text.data.toList=none):sV s p ((⟨p.k.at',1,p.k.text,4,[]⟩,false),p.fail):=by
 intro P w hp;have hlt:=hp.lt;have e2:∀x:mX w,x.val.cell? (Ad P 2)=some (.string p.k.text):=fun x=>(bK.grow hp x.grown).c2;have e3:∀x:mX w,x.val.cell? (Ad P 3)=some (Im p.k.at'):=fun x=>(bK.grow hp x.grown).c3;have hne:=JM w;have HW:Hid (∀w',w.grownBy w' none->aC w' P s p):=fun w' hg=>bK.grow hp hg;have HX:Hid (∀x:mX w,Calls prog 234 #[Im p.k.at',Nl] x.val fun e w''=>e=.returned (.agg #[Im p.k.at',Im 1])/\∃y:mX w,w''=y.val):=fun x=>TR _ x;have hor:(p.k.text.toList==[82,79,65,68,83])=false/\(p.k.text.toList==[70,82,69,83,72])=false/\(p.k.text.toList==[65,71,65,73,78])=false:=by
  rw[ByteArray.toList_eq];unfold setOf at hof;generalize p.k.text.data.toList=tl at *;cases h1:(tl==[82,79,65,68,83])with
  |true=>rw[h1]at hof;simp at hof
  |false=>
   rw[h1]at hof;cases h2:(tl==[70,82,69,83,72])with
   |true=>rw[h2]at hof;simp at hof
   |false=>
    cases h3:(tl==[65,71,65,73,78])with
    |true=>rw[h2,h3]at hof;simp at hof
    |false=>exact⟨rfl,rfl,rfl⟩
 obtain⟨t1,t2,t3⟩:=hor;show Calls prog 243 #[Pt P 0] w fun e w'=>∃u,e=.returned (.tuple #[u,.bool false])/\dF ⟨p.k.at',1,p.k.text,4,[]⟩ w' w.heap.size w'.heap.size u/\aC w' P s p.fail/\w.grownBy w' (some P);have FP:Hid (∀x,aC x P s p->Calls prog 142 #[Pt P 0] x (dP P s x (.tuple #[]) p.fail)):=fun x hx=>zL hx;have fP:Hid (∀y w2 S,w.heap.size<=S->w.grownBy y (some P)->y.heap[S]? =some (.cells #[Im p.k.at',Im 1,.string p.k.text,Im 4,Nl] 348)->y.grownBy w2 (some P)->dF ⟨p.k.at',1,p.k.text,4,[]⟩ w2 w.heap.size w2.heap.size (Pt S 0)/\w.grownBy w2 (some P)):=fun y w2 S h1 h2 h3 h4=>by
  have h0:mY P w y S (Nl) 0 ⟨p.k.at',1,p.k.text,4,[]⟩ [] (S+1):=mY.start h3 rfl h1 h2;have h5:=h0.aN ⟨by simp,Or.inr rfl,by simp⟩ hlt h4;exact⟨h5.out,h5.grown⟩
 generalize p.fail=q at *;clear hp hof;go_enter func243,ntmps243;go_wp2_with fail;refine MN 12 (by kernel_rfl) (by kernel_rfl) ?_;simp only[List.take_succ_cons,List.take_zero,List.drop_succ_cons,List.drop_zero];repeat (go_big_quiet_step ((go_at_call 234;exact HX.out _)))
 refine wpQuiet_nil ?_;intro wx hg;have f2:=bK.c2 (HW.out wx hg);have hPx:=bK.lt (HW.out wx hg);have n1:¬P=wx.heap.size:=by omega
 have HY:Hid (∀o,aC (wx.alloc o) P s p/\(wx.alloc o).heap[wx.heap.size]? =some o/\w.grownBy (wx.alloc o) (some P)):=fun o=>⟨bK.grow (HW.out wx hg) (World.grownBy_alloc _ _ none),heap_alloc_new _ _,(hg.trans (World.grownBy_alloc _ _ none)).but _⟩;have Nk:Hid (w.heap.size<=wx.heap.size):=hg.size;clear e2 e3 hg HX;go_wp2_with fail;refine(FP.out _ (HY.out _).1).mono ?_;rintro e w2 ⟨rfl,p2,g2⟩;have HE:Hid (dF ⟨p.k.at',1,p.k.text,4,[]⟩ w2 w.heap.size w2.heap.size (Pt wx.heap.size 0)/\aC w2 P s q/\w.grownBy w2 (some P)):=by
  obtain⟨a1,a2⟩:=fP.out _ w2 _ Nk.out (HY.out _).2.2 (HY.out _).2.1 g2;exact⟨a1,p2,a2⟩
 clear p2 g2;go_wp2_with fail;go_ret2;exact⟨_,rfl,HE.out⟩
theorem ahP(hs:s.size<=4000)(h:Reader s ex d)(ok:p.Ok s)(hd:Deep (d+1) p):sV s p (kR s ex (s.size+1) p):=by
 unfold kR;split
 .rename_i of hof;exact ahO hs h ok hd of hof
 .rename_i hof;exact ahN hof
theorem ahQ(hs:s.size<=4000):Nv s:=⟨fun _ _ h _ ok hd=>ahP hs h ok hd,fun _ _ h _ _ k ok hd hb hx=>aeA hs h ok hd hb hx k⟩
end
section
variable {w:World}{s:ByteArray}
def kV(s:ByteArray):List bI×Int×Int:=if 4000<s.size then ([],1,0)else sF (mF s 21 (rD s))
theorem afL(h:4000<s.size):Calls prog 88 #[.string s] w fun e w'=>e=.returned (.tuple #[Nl,.agg #[Im 1,Im 0]])/\w.grownBy w' none:=by
 have d1:decide ((4000:Int)<(s.size:Int))=true:=by simp;omega
 go_enter func88,ntmps88;go_wp2_with fail;refine bodyPost_ret (LK _ _ w.heap.size _ 1 0 rfl rfl ?_) rfl ⟨rfl,?_⟩
 .exact heap_alloc_new _ _
 .exact World.grownBy_alloc _ _ none
theorem afM(hs:s.size<=4000):Calls prog 88 #[.string s] w fun e w'=>∃v,e=.returned (.tuple #[v,.agg #[Im (sF (mF s 21 (rD s))).2.1,Im (sF (mF s 21 (rD s))).2.2]])/\dX (sF (mF s 21 (rD s))).1 w' w.heap.size w'.heap.size v/\w.grownBy w' none:=by
 have d1:decide ((4000:Int)<(s.size:Int))=false:=by simp;omega
 have HS:Hid (∀w,Calls prog 140 #[.string s,Im 0] w fun e w'=>e=.returned (lY (Hx.scan s 0))/\w.grownBy w' none):=fun w=>XD s 0 w hs (by omega);have HQ:Hid (∀P x,bK x P s (Hx.scan s 0) 0 0 0->Calls prog 141 #[Pt P 0] x fun e w'=>∃v,e=.returned v/\dX (mF s 21 (rD s)).1 w' x.heap.size w'.heap.size v/\aC w' P s (mF s 21 (rD s)).2/\x.grownBy w' (some P)):=fun P x h=>X9 hs (ahQ hs) 21 (rD s) (WZ s) (WY s) P x h;have HL:Hid (∀e∈(mF s 21 (rD s)).1,fQ e):=(MF s 21 (rD s) (WZ s) (WY s)).2;generalize mF s 21 (rD s)=R at *;obtain⟨L,q⟩:=R;simp only at HQ HL;generalize Hx.scan s 0=k at *;go_enter func88,ntmps88;go_wp2_with fail;refine(HS.out _).mono ?_;rintro e w1 ⟨rfl,g1⟩;have hf1:w1.heap[w.heap.size]? =some (.cells #[Im 0,Im 0] 107):=(g1.block _ (by simp) (by simp)).trans (heap_alloc_new w _);have kU:Hid (w.grownBy w1 none/\w1.heap[w.heap.size]? =some (.cells #[Im 0,Im 0] 107)):=⟨(World.grownBy_alloc w _ none).trans g1,hf1⟩;clear g1 hf1 HS;have HP:Hid (∀o,o=Obj.cells #[.string s,Im k.kind,.string k.text,Im k.at',Im 0,Im 0,Im 0] 252->bK (w1.alloc o) w1.heap.size s k 0 0 0):=by
  intro o ho;have hh:(w1.alloc o).heap[w1.heap.size]? =some (.cells #[.string s,Im k.kind,.string k.text,Im k.at',Im 0,Im 0,Im 0] 252):=by rw[<-ho];exact heap_alloc_new w1 o
  exact⟨aA hh,aA hh,aA hh,aA hh,aA hh,aA hh,aA hh,fun j=>eu hh⟩
 unfold lY;go_wp2_with fail;refine(HQ.out _ _ (HP.out _ rfl)).mono ?_;rintro e w2 ⟨v,rfl,e2,p2,g2⟩;have s1:=kU.out.1.size;have hlt:=dS kU.out.2;have hgf:w.grownBy w2 none:=by
  have h1:=kU.out.1.trans (World.grownBy_alloc w1 (Obj.cells #[.string s,Im k.kind,.string k.text,Im k.at',Im 0,Im 0,Im 0] 252) none);exact h1.andThen g2 (fun j e=>by cases e;exact Or.inl s1)
 have hf2:w2.heap[w.heap.size]? =some (.cells #[Im 0,Im 0] 107):=(g2.block _ (by simp;omega) (by simp;omega)).trans (((World.grownBy_alloc w1 _ none).block _ (by omega) (by simp)).trans kU.out.2);have hl2:dX L w2 (w1.heap.size+1) w2.heap.size v:=by rw[kK]at e2;exact e2
 have akj:w1.heap.size<w2.heap.size:=by have:=g2.size;rw[kK]at this;omega
 have HM:Hid (∀w3,w2.grownBy w3 (some w1.heap.size)->w3.heap[w.heap.size]? =some (.cells #[Im 0,Im 0] 107)/\w.grownBy w3 none/\∀a b,dX L ((w3.setCell (Ad w.heap.size 0) a).setCell (Ad w.heap.size 1) b) w.heap.size w3.heap.size v):=fun w3 h3=>by
  refine⟨(h3.block _ (dS hf2) (by simp;omega)).trans hf2,hgf.andThen h3 (fun j e=>by cases e;exact Or.inl s1),fun a b=>?_⟩;refine(oC HL.out).wide _ _ _ _ _ _ ((oC HL.out).loc _ _ _ _ _ hl2 (fun j hj1 hj2=>?_)) (by omega) h3.size;rw[Below.heap_setCell _ _ _ _ (by simp only;omega),Below.heap_setCell _ _ _ _ (by simp only;omega)];exact h3.block j hj2 (by simp;omega)
 have HP2:Hid (aC w2 w1.heap.size s q):=p2;have FP:Hid (Calls prog 142 #[Pt w1.heap.size 0] w2 (dP w1.heap.size s w2 (.tuple #[]) q.fail)):=zL p2;have c1:=bK.c1 p2;clear e2 p2 g2 hf2 hgf HP HQ kU hl2;generalize w1.heap.size=P at *;by_cases hk:q.k.kind=1
 .rw[hk]at c1;have hq:CP q=q:=by unfold CP;rw[if_pos hk]
  have c5:=bK.c5 HP2.out;have c6:=bK.c6 HP2.out;obtain⟨f1,f2,f3⟩:=HM.out w2 (World.grownBy.refl _ _);have r0:w2.cell? (Ad w.heap.size 0)=some (Im 0):=aA f1;have r1:w2.cell? (Ad w.heap.size 1)=some (Im 0):=aA f1;have rf:∀j,w2.frozen? (Ad w.heap.size j)=false:=fun j=>eu f1;have HR:Hid (w2.heap[w.heap.size]? =some (.cells #[Im 0,Im 0] 107)/\w.grownBy w2 none/\∀a b,dX L ((w2.setCell (Ad w.heap.size 0) a).setCell (Ad w.heap.size 1) b) w.heap.size w2.heap.size v):=⟨f1,f2,f3⟩;clear f1 f2 f3 FP;by_cases he:q.en=0
  .have F5:Hid (sF (L,q)=(L,0,0)):=by
    have h0:sF (L,q)=(L,0,0):=by unfold sF;simp only[hq,if_pos he]
    exact h0
   rw[he]at c5;clear hq hk he;go_wp2_with fail;have z2:=yV w2 w.heap.size _ _ _ (Im 0) (Im 0) HR.out.1;refine bodyPost_ret (LK _ _ w.heap.size _ 0 0 rfl rfl z2) rfl ?_;rw[F5.out];refine⟨_,rfl,?_,kP (kP HR.out.2.1 (Nat.le_refl _) _ _) (Nat.le_refl _) _ _⟩;have hsz:((w2.setCell (Ad w.heap.size 0) (Im 0)).setCell (Ad w.heap.size 1) (Im 0)).heap.size=w2.heap.size:=by simp[World.setCell]
   rw[hsz];exact HR.out.2.2 _ _
  .have F5:Hid (sF (L,q)=([],q.en,q.ea)):=by
    have h0:sF (L,q)=([],q.en,q.ea):=by unfold sF;simp only[hq,if_neg he]
    exact h0
   have hb:(q.en !=0)=true:=by simp[he]
   clear hq hk;go_wp2_with fail;refine fC 5 (by kernel_rfl) (by kernel_rfl) ?_;simp only[List.take_succ_cons,List.take_zero,List.drop_succ_cons,List.drop_zero];repeat (go_big_quiet_step (fail))
   refine wpQuiet_nil ?_;intro _ hw';obtain⟨n3,hw''⟩:=hw';subst hw'';go_wp2_with fail;have z2:=yV w2 w.heap.size _ _ _ (Im q.en) (Im q.ea) HR.out.1;refine bodyPost_ret (LK _ _ w.heap.size _ q.en q.ea rfl rfl z2) rfl ?_;rw[F5.out];exact⟨_,rfl,Or.inl ⟨rfl,rfl⟩,(kP (kP HR.out.2.1 (Nat.le_refl _) _ _) (Nat.le_refl _) _ _).trans (dh _ _)⟩
 .have hq:CP q=q.fail:=by unfold CP;rw[if_neg hk]
  have he:¬q.fail.en=0:=by unfold Ps.fail;simp only;split<;>omega
  have F5:Hid (sF (L,q)=([],q.fail.en,q.fail.ea)):=by
   have h0:sF (L,q)=([],q.fail.en,q.fail.ea):=by unfold sF;simp only[hq,if_neg he]
   exact h0
  have hb:(q.fail.en !=0)=true:=by simp[he]
  have hb1:(q.k.kind !=1)=true:=by simp[hk]
  clear hq hk;go_wp2_with fail;refine FP.out.mono ?_;rintro e w3 ⟨rfl,p3,g3⟩;have c5:=bK.c5 p3;have c6:=bK.c6 p3;obtain⟨f1,f2,f3⟩:=HM.out w3 g3;have r0:w3.cell? (Ad w.heap.size 0)=some (Im 0):=aA f1;have r1:w3.cell? (Ad w.heap.size 1)=some (Im 0):=aA f1;have rf:∀j,w3.frozen? (Ad w.heap.size j)=false:=fun j=>eu f1;have HR:Hid (w3.heap[w.heap.size]? =some (.cells #[Im 0,Im 0] 107)/\w.grownBy w3 none):=⟨f1,f2⟩;clear f1 f2 f3 FP p3 g3;go_wp2_with fail;refine fC 5 (by kernel_rfl) (by kernel_rfl) ?_;simp only[List.take_succ_cons,List.take_zero,List.drop_succ_cons,List.drop_zero];repeat (go_big_quiet_step (fail))
  refine wpQuiet_nil ?_;intro _ hw';obtain⟨n3,hw''⟩:=hw';subst hw'';go_wp2_with fail;have z2:=yV w3 w.heap.size _ _ _ (Im q.fail.en) (Im q.fail.ea) HR.out.1;refine bodyPost_ret (LK _ _ w.heap.size _ q.fail.en q.fail.ea rfl rfl z2) rfl ?_;rw[F5.out];exact⟨_,rfl,Or.inl ⟨rfl,rfl⟩,(kP (kP HR.out.2 (Nat.le_refl _) _ _) (Nat.le_refl _) _ _).trans (dh _ _)⟩
theorem afK(s:ByteArray)(w:World):Calls prog 88 #[.string s] w fun e w'=>∃v,e=.returned (.tuple #[v,.agg #[Im (kV s).2.1,Im (kV s).2.2]])/\dX (kV s).1 w' w.heap.size w'.heap.size v/\w.grownBy w' none:=by
 unfold kV;split
 .rename_i h;refine(afL h).mono ?_;rintro e w' ⟨rfl,hg⟩;exact⟨_,rfl,Or.inl ⟨rfl,rfl⟩,hg⟩
 .exact afM (by omega)
theorem PO(d:Nat):rO d []:=Vx (by simp) (by simp)
theorem aiv(hs:s.size<=4000)(d:Nat)(p:Ps):rO d (mF s d p).1:=
 Qw s dQ uy rO (abp s hs) (fun d=>ad9 (s.size+1) (by omega) d) PO (fun _ _ hl h=>Vx h (by omega)) d p
def oO(s:ByteArray):List bI×Int×Int:=
 if (kV s).2.1≠0 then ([],(kV s).2.1,(kV s).2.2)
 else if (lS (kV s).1 ⟨[],0,0⟩).en≠0 then ([],(lS (kV s).1 ⟨[],0,0⟩).en,(lS (kV s).1 ⟨[],0,0⟩).ea)
 else if 1000000<dK (kV s).1 then ([],4,0)else ((kV s).1,0,0)
theorem afN(s:ByteArray):rO 21 (kV s).1/\(kV s).1.length<=5000:=by
 unfold kV;split
 .exact⟨PO _,by simp⟩
 .have hs:s.size<=4000:=by omega
  unfold sF;split
  .exact⟨aiv hs 21 _,by have:=X8 s 21 (rD s);show(mF s 21 (rD s)).1.length<=5000;omega⟩
  .exact⟨PO _,by simp⟩
theorem JH(tmps:Array Value)(w:World)(g:Nat)(v:Value)(a b:Int)(h2:tmps[2]? =some v)(h3:tmps[3]? =some (Pt g 0))(h:w.heap[g]? =some (.cells #[Im a,Im b] 107)):
 (results Tryz.f44 tmps).run prog w=.ok (.tuple #[v,.agg #[Im a,Im b]]) w:=by
 have q0:w.cell? (Ad g 0)=some (Im a):=aA h;have q1:w.cell? (Ad g 1)=some (Im b):=aA h;simp[results,Tryz.results44,go_sem,h2,h3,q0,q1]
theorem aaK(s:ByteArray)(w:World):Calls prog 44 #[.string s] w fun e w'=>∃v,e=.returned (.tuple #[v,.agg #[Im (oO s).2.1,Im (oO s).2.2]])/\dX (oO s).1 w' w.heap.size w'.heap.size v/\w.grownBy w' none:=by
 have HP:Hid (∀y,Calls prog 88 #[.string s] y fun e w'=>∃v,e=.returned (.tuple #[v,.agg #[Im (kV s).2.1,Im (kV s).2.2]])/\dX (kV s).1 w' y.heap.size w'.heap.size v/\y.grownBy w' none):=fun y=>afK s y;obtain⟨hL,hlen⟩:=afN s;have HD:Hid (oO s=if (kV s).2.1≠0 then ([],(kV s).2.1,(kV s).2.2)
  else if (lS (kV s).1 ⟨[],0,0⟩).en≠0 then ([],(lS (kV s).1 ⟨[],0,0⟩).en,(lS (kV s).1 ⟨[],0,0⟩).ea)
  else if 1000000<dK (kV s).1 then ([],4,0)else ((kV s).1,0,0)):=rfl
 have HL:Hid (rO 21 (kV s).1/\(kV s).1.length<=5000):=⟨hL,hlen⟩;clear hL hlen;generalize oO s=R at *;generalize kV s=P at *;obtain⟨L,en,ea⟩:=P;simp only at HP HL HD;go_enter func44,ntmps44;go_wp2_with fail;refine(HP.out _).mono ?_;rintro e w1 ⟨v,rfl,h1,g1⟩;rw[kK]at h1;have s1:=g1.size;rw[kK]at s1;have hf1:w1.heap[w.heap.size]? =some (.cells #[Im 0,Im 0] 107):=(g1.block _ (by simp) (by simp)).trans (heap_alloc_new w _);have kU:Hid (w.grownBy w1 none/\w1.heap[w.heap.size]? =some (.cells #[Im 0,Im 0] 107)/\dX L w1 (w.heap.size+1) w1.heap.size v):=⟨(World.grownBy_alloc w _ none).trans g1,hf1,h1⟩;have r0:w1.cell? (Ad w.heap.size 0)=some (Im 0):=aA hf1;have r1:w1.cell? (Ad w.heap.size 1)=some (Im 0):=aA hf1;have rf:∀j,w1.frozen? (Ad w.heap.size j)=false:=fun j=>eu hf1;have hlt:=dS hf1;have n1:¬w.heap.size=w1.heap.size:=by omega
 clear g1 hf1 h1 HP;by_cases he:en=0
 .subst he;have hvf:=uK kU.out.2.2;obtain⟨va,vn,vc,rfl⟩:=hvf;have hB:Calls prog 89 #[Pt (w1.heap.size+1) 0,.slice va vn vc] ((w1.alloc (.cells #[Im 0,Im ea] 107)).alloc (.cells #[Nl,Im 0,Im 0] 188)) fun en w'=>en=.returned (.tuple #[])/\dX L w' (w.heap.size+1) w1.heap.size (.slice va vn vc)/\bU w' (w1.heap.size+1) (lS L ⟨[],0,0⟩)/\Lk ((w1.alloc (.cells #[Im 0,Im ea] 107)).alloc (.cells #[Nl,Im 0,Im 0] 188)) w' (w.heap.size+1) w1.heap.size (w1.heap.size+1):=by
   have hgg:w1.grownBy ((w1.alloc (.cells #[Im 0,Im ea] 107)).alloc (.cells #[Nl,Im 0,Im 0] 188)) none:=(World.grownBy_alloc w1 _ none).trans (World.grownBy_alloc _ _ none);have hl2:=HL.out.1.law.loc _ _ _ _ _ kU.out.2.2 (fun b _ hb=>hgg.block b hb (by simp));exact HL.out.1.look _ _ _ _ _ ⟨[],0,0⟩ hl2 (by omega) ⟨Nl,Ou w1 _ _,World.ownsRow_nil _ _ _ _⟩ (by simp)
  have HB:Hid (Calls prog 89 #[Pt (w1.heap.size+1) 0,.slice va vn vc] ((w1.alloc (.cells #[Im 0,Im ea] 107)).alloc (.cells #[Nl,Im 0,Im 0] 188)) fun en w'=>en=.returned (.tuple #[])/\dX L w' (w.heap.size+1) w1.heap.size (.slice va vn vc)/\bU w' (w1.heap.size+1) (lS L ⟨[],0,0⟩)/\w'.heap[w.heap.size]? =some (.cells #[Im 0,Im 0] 107)/\w.grownBy w' none/\w1.heap.size+1<w'.heap.size):=hB.mono fun en w' ⟨q1,q2,q3,q4⟩=>by
   have hgg:w1.grownBy ((w1.alloc (.cells #[Im 0,Im ea] 107)).alloc (.cells #[Nl,Im 0,Im 0] 188)) none:=(World.grownBy_alloc w1 _ none).trans (World.grownBy_alloc _ _ none);have hg2:w.grownBy ((w1.alloc (.cells #[Im 0,Im ea] 107)).alloc (.cells #[Nl,Im 0,Im 0] 188)) none:=kU.out.1.trans hgg;refine⟨q1,q2,q3,?_,⟨q4.os.trans hg2.os,q4.tape.trans hg2.tape,q4.output.trans hg2.output,Nat.le_trans hg2.size q4.size,fun k hk _=>(q4.aN k (by omega) (Or.inl (by omega))).trans (hg2.block k hk (by simp))⟩,q3.lt⟩;exact(q4.aN _ (by omega) (Or.inl (by omega))).trans ((hgg.block _ hlt (by simp)).trans kU.out.2.1)
  clear hB;go_wp2_with fail;refine HB.out.mono ?_;rintro e w2 ⟨rfl,q1,⟨nv,q2⟩,q3,q4,q5⟩;have HQ:Hid (dX L w2 (w.heap.size+1) w1.heap.size (.slice va vn vc)/\w2.heap[w.heap.size]? =some (.cells #[Im 0,Im 0] 107)/\w.grownBy w2 none):=⟨q1,q3,q4⟩;have AO:Hid (Calls prog 90 #[.slice va vn vc] w2 fun e w'=>e=.returned (Im (dK L))/\w2.grownBy w' none):=DR HL.out.1.ok (by have:=HL.out.2;omega) (Dv HL.out.1.ok q1);have y1:w2.cell? (Ad (w1.heap.size+1) 1)=some (Im (lS L ⟨[],0,0⟩).en):=aA q2.aW;have y2:w2.cell? (Ad (w1.heap.size+1) 2)=some (Im (lS L ⟨[],0,0⟩).ea):=aA q2.aW;have z0:w2.cell? (Ad w.heap.size 0)=some (Im 0):=aA q3;have z1:w2.cell? (Ad w.heap.size 1)=some (Im 0):=aA q3;have zf:∀j,w2.frozen? (Ad w.heap.size j)=false:=fun j=>eu q3;clear q1 q2 q3 q4 HB r0 r1 rf;generalize hcc:lS L ⟨[],0,0⟩=cc at *;obtain⟨cn,ce,ca⟩:=cc;simp only at y1 y2 HD;by_cases hce:ce=0
  .subst hce;by_cases hsum:1000000<dK L
   .have HD2:Hid (R=([],4,0)):=by have h0:=HD.out;simp only[ne_eq,not_true_eq_false,if_false,if_pos hsum]at h0;exact h0
    have d1:decide ((1000000:Int)<dK L)=true:=by simpa using hsum
    clear HD;go_wp2_with fail;refine AO.out.mono ?_;rintro e w3 ⟨rfl,g3⟩;have hf3:=(g3.block _ (dS HQ.out.2.1) (by simp)).trans HQ.out.2.1;have a0:w3.cell? (Ad w.heap.size 0)=some (Im 0):=aA hf3;have a1:w3.cell? (Ad w.heap.size 1)=some (Im 0):=aA hf3;have af:∀j,w3.frozen? (Ad w.heap.size j)=false:=fun j=>eu hf3;have xY:Hid (w3.heap[w.heap.size]? =some (.cells #[Im 0,Im 0] 107)/\w.grownBy w3 none):=⟨hf3,HQ.out.2.2.trans g3⟩;clear g3 hf3;go_wp2_with fail;have z2:=yV w3 w.heap.size _ _ _ (Im 4) (Im 0) xY.out.1;refine bodyPost_ret (JH _ _ w.heap.size _ 4 0 rfl rfl z2) rfl ?_;rw[HD2.out];exact⟨_,rfl,Or.inl ⟨rfl,rfl⟩,kP (kP xY.out.2 (Nat.le_refl _) _ _) (Nat.le_refl _) _ _⟩
   .have HD2:Hid (R=(L,0,0)):=by have h0:=HD.out;simp only[ne_eq,not_true_eq_false,if_false,if_neg hsum]at h0;exact h0
    have d1:decide ((1000000:Int)<dK L)=false:=by simpa using hsum
    clear HD;go_wp2_with fail;refine AO.out.mono ?_;rintro e w3 ⟨rfl,g3⟩;have hf3:=(g3.block _ (dS HQ.out.2.1) (by simp)).trans HQ.out.2.1;have a0:w3.cell? (Ad w.heap.size 0)=some (Im 0):=aA hf3;have a1:w3.cell? (Ad w.heap.size 1)=some (Im 0):=aA hf3;have af:∀j,w3.frozen? (Ad w.heap.size j)=false:=fun j=>eu hf3;have xY:Hid (w3.heap[w.heap.size]? =some (.cells #[Im 0,Im 0] 107)/\w.grownBy w3 none/\w2.grownBy w3 none):=⟨hf3,HQ.out.2.2.trans g3,g3⟩;clear g3 hf3;go_wp2_with fail;have z2:=yV w3 w.heap.size _ _ _ (Im 0) (Im 0) xY.out.1;refine bodyPost_ret (JH _ _ w.heap.size _ 0 0 rfl rfl z2) rfl ?_;rw[HD2.out];refine⟨_,rfl,?_,kP (kP xY.out.2.1 (Nat.le_refl _) _ _) (Nat.le_refl _) _ _⟩;have hsz:((w3.setCell (Ad w.heap.size 0) (Im 0)).setCell (Ad w.heap.size 1) (Im 0)).heap.size=w3.heap.size:=by simp[World.setCell]
    rw[hsz];have s3:=xY.out.2.2.size;refine HL.out.1.law.wide _ _ _ _ _ _ (HL.out.1.law.loc _ _ _ _ _ HQ.out.1 (fun j hj1 hj2=>?_)) (by omega) (by omega);rw[Below.heap_setCell _ _ _ _ (by simp only;omega),Below.heap_setCell _ _ _ _ (by simp only;omega)];exact xY.out.2.2.block j (by omega) (by simp)
  .have HD2:Hid (R=([],ce,ca)):=by have h0:=HD.out;simp only[ne_eq,not_true_eq_false,if_false,hce,not_false_eq_true,if_true]at h0;exact h0
   have hb:(ce !=0)=true:=by simp[hce]
   clear HD;go_wp2_with fail;refine fC 3 (by kernel_rfl) (by kernel_rfl) ?_;simp only[List.take_succ_cons,List.take_zero,List.drop_succ_cons,List.drop_zero];repeat (go_big_quiet_step (fail))
   refine wpQuiet_nil ?_;intro _ hw';obtain⟨n3,hw''⟩:=hw';subst hw'';go_wp2_with fail;have z2:=yV w2 w.heap.size _ _ _ (Im ce) (Im ca) HQ.out.2.1;refine bodyPost_ret (JH _ _ w.heap.size _ ce ca rfl rfl z2) rfl ?_;rw[HD2.out];exact⟨_,rfl,Or.inl ⟨rfl,rfl⟩,(kP (kP HQ.out.2.2 (Nat.le_refl _) _ _) (Nat.le_refl _) _ _).trans (dh _ _)⟩
 .have hb:(en !=0)=true:=by simp[he]
  have HD2:Hid (R=([],en,ea)):=by have h0:=HD.out;rw[if_pos he]at h0;exact h0
  clear HD;go_wp2_with fail;refine fC 2 (by kernel_rfl) (by kernel_rfl) ?_;simp only[List.take_succ_cons,List.take_zero,List.drop_succ_cons,List.drop_zero];repeat (go_big_quiet_step (fail))
  refine wpQuiet_nil ?_;intro _ hw';obtain⟨n3,hw''⟩:=hw';subst hw'';go_wp2_with fail;have z2:=yV w1 w.heap.size _ _ _ (Im en) (Im ea) kU.out.2.1;refine bodyPost_ret (JH _ _ w.heap.size _ en ea rfl rfl ((Below.heap_alloc _ _ _ (dS z2)).trans z2)) rfl ?_;rw[HD2.out];exact⟨_,rfl,Or.inl ⟨rfl,rfl⟩,(kP (kP kU.out.1 (Nat.le_refl _) _ _) (Nat.le_refl _) _ _).trans ((World.grownBy_alloc _ _ none).trans (dh _ _))⟩
end
end
end Go.Proofs.YthllhabjfchgiaaGreatDoor
