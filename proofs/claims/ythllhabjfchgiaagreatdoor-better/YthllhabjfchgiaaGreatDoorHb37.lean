import Derived.Test.YthllhabjfchgiaaGreatDoorHb36
set_option maxRecDepth 100000
set_option maxHeartbeats 8000000
set_option linter.unusedSimpArgs false
namespace Go.Proofs.YthllhabjfchgiaaGreatDoor
open _root_.Go.Proofs.Tryz
section
open Go.RowKit Hx
attribute [local go_sem ↓] Go.wp_at_zero Go.wp_at_succ
attribute [local go_sem] kL
attribute [local simp] aN
section
variable {w w' w1 w2 w3:jo}{lo hi m b H:Nat}{u v:jr}{e l r:Ex}{a:Int}{T:jv}{c:Co}
theorem aoD{k o:Int}(h:0<=k/\k<=1000001)(g:0<=o/\o<=1000001):k<=jS [k,o]/\o<=jS [k,o]:=by
 unfold jS lg;simp only[bP,eF];omega
theorem agf(kind:Int)(sign:jm)(l r:nY):Gw kind sign l r=
 if l.known&&r.known then rZ kind (if (lY sign.data.toList).2 then two (lY sign.data.toList).1 r.val l.val else two (lY sign.data.toList).1 l.val r.val)
 else if ((lY sign.data.toList).1==19||(lY sign.data.toList).1==20)&&(l.lI ((lY sign.data.toList).1==20)||r.lI ((lY sign.data.toList).1 !=20))then l
 else if ((lY sign.data.toList).1==19||(lY sign.data.toList).1==20)&&(r.lI ((lY sign.data.toList).1==20)||l.lI ((lY sign.data.toList).1 !=20))then r
 else {give:=λc into=>if (lY sign.data.toList).2 then c.two (lY sign.data.toList).1 into r.dn l.dn else c.two (lY sign.data.toList).1 into l.dn r.dn}:=by
 unfold Gw lY;cases h1:(sign.data.toList==[62])
 .cases h2:(sign.data.toList==[62,61])<;>simp
 .simp
theorem arx(hl:nN l)(hr:nN r)(a0 kind:Int)(sign:jm):nN (o7 a0 kind sign l r):=by
 have lc:=hl.lW.ok.jy;have rc:=hr.lW.ok.jy;refine⟨agh hl.lW hr.lW a0 kind sign,?_⟩;rintro a w lo hi T b ⟨b',us,hv,h1,h2,⟨m,u,v,rfl,hm1,hm2,hu,hv2⟩,hb⟩ hH;cases hv;obtain⟨T1,b1,rfl,hT1,l1,l2,_⟩:=hl.lW.ok.head _ _ _ _ _ hu;obtain⟨T2,b2,rfl,hT2,l3,l4,_⟩:=hr.lW.ok.head _ _ _ _ _ hv2;obtain⟨f1,m1,kK,_⟩:=hl.fold _ _ _ _ _ _ hu (by omega);obtain⟨f2,m2,qg,_⟩:=hr.fold _ _ _ _ _ _ hv2 (by omega);have DU:Hid (∀y,w.drew.grownBy y none->Calls prog f1 #[Pt b1 0] y λen w1=>∃T3 b3,en=.returned (.iface T3 (Pt b3 0))/\Hid (mQ l.does.fd l.jy w1 lo m w.heap.size w1.heap.size (.iface T3 (Pt b3 0))/\Fk w w1 lo m)):=λy hy=>by
  have g0:w.grownBy y none:=(CY (aN w none)).trans hy;have sy:=g0.size;obtain⟨f,m',_,HC⟩:=hl.fold _ y _ _ _ _ ((hl.lW.ok.law _).loc _ _ _ _ _ hu λk _ k2=>g0.block k (by omega) (by simp)) (by omega);obtain rfl:f=f1:=by
   have h:=(m' w).symm.trans (m1 w);simp only[Result.ok.injEq,Prod.mk.injEq,and_true]at h;exact h
  refine HC.mono ?_;rintro en w1 ⟨v',rfl,hF,hK⟩;obtain⟨T3,b3,hv3⟩:=hF.form;subst hv3;exact⟨T3,b3,rfl,hF.wide (aj _) (aj _) sy (aj _) (aV _),(Fk.grown g0).trans hK⟩
 have HF2:Hid (∀w1 y,Fk w w1 lo m->w1.grownBy y none->Calls prog f2 #[Pt b2 0] y λen w2=>∃T4 b4,en=.returned (.iface T4 (Pt b4 0))/\Hid (mQ r.does.fd r.jy w2 m b w1.heap.size w2.heap.size (.iface T4 (Pt b4 0))/\Fk w1 w2 m b)):=λw1 y hk hy=>by
  have sy:=hy.size;have s1:=hk.size;obtain⟨f,m',_,HC⟩:=hr.fold _ y _ _ _ _ ((hr.lW.ok.law _).loc _ _ _ _ _ hv2 λk k1 k2=>(hy.block k (by omega) (by simp)).trans (hk.keep k (by omega) (by omega))) (by omega);obtain rfl:f=f2:=by
   have h:=(m' w).symm.trans (m2 w);simp only[Result.ok.injEq,Prod.mk.injEq,and_true]at h;exact h
  refine HC.mono ?_;rintro en w2 ⟨v',rfl,hF,hK⟩;obtain⟨T4,b4,hv4⟩:=hF.form;subst hv4;exact⟨T4,b4,rfl,hF.wide (aj _) (aj _) sy (aj _) (aV _),(Fk.grown hy).trans hK⟩
 have kK:∀args w,(callFunc f1 args).run prog w=.ok (.enter f1 args) w:=kK;have qg:∀args w,(callFunc f2 args).run prog w=.ok (.enter f2 args) w:=qg;have c3:w.cell? (Ad b 4)=some (.iface T1 (Pt b1 0)):=jH hb;have c4:w.cell? (Ad b 5)=some (.iface T2 (Pt b2 0)):=jH hb;have HB:=jB hb;have hbw:b<w.heap.size:=by omega
 have HC:Hid (∀w1,Fk w w1 lo m->w1.cell? (Ad b 5)=some (.iface T2 (Pt b2 0))/\w1.cell? (Ad b 4)=some (.iface T1 (Pt b1 0))/\∀j,w1.frozen? (Ad b j)=false):=λw1 hk=>by
  have hb1:=(hk.keep b hbw (by omega)).trans HB.out;exact⟨jH hb1,jH hb1,λj=>oh hb1⟩
 have HC2:Hid (∀w1 w2,Fk w w1 lo m->Fk w1 w2 m b->w2.cell? (Ad b 5)=some (.iface T2 (Pt b2 0))/\w2.cell? (Ad b 4)=some (.iface T1 (Pt b1 0))/\∀j,w2.frozen? (Ad b j)=false):=λw1 w2 hk hk2=>by
  have s1:=hk.size;have hb1:=(hk2.keep b (by omega) (by omega)).trans ((hk.keep b hbw (by omega)).trans HB.out);exact⟨jH hb1,jH hb1,λj=>oh hb1⟩
 refine⟨353,λw=>by kernel_rfl,λargs w=>by kernel_rfl,?_⟩;clear hu hv2 hb;go_enter func353,ntmps353;go_upto_region 1 with fail;go_cut [] (λwx=>Hid (∃(w1 w2:jo)(T3:jv)(b3:Nat)(T4:jv)(b4:Nat),(mQ l.does.fd l.jy w1 lo m w.heap.size w1.heap.size (.iface T3 (Pt b3 0))/\Fk w w1 lo m)/\(mQ r.does.fd r.jy w2 m b w1.heap.size w2.heap.size (.iface T4 (Pt b4 0))/\Fk w1 w2 m b)/\wx=((w2.setCell (Ad b 4) (.iface T3 (Pt b3 0))).setCell (Ad b 5) (.iface T4 (Pt b4 0)))))
 case first=>
  refine YL (f:=10) (λ_=>True) [0,1,2,3,4,7,8,9] #[true,true,true,true,true,false,false,true,true,true,false,false,false,false,false,false,false,false] (λl=>l.take 5++(l.drop 7).take 3) (by kernel_rfl) (by kernel_rfl) (by kernel_rfl) (by kernel_rfl) (by kernel_rfl) (by kernel_rfl) trivial (λ_=>?_);simp only[aC,aO,aG,aQ,bZ,dP]
  iterate 8
   (refine yM.cons (v:=?_) (by rfl) (λw hSw=>?_) ?_
    rotate_left
    ·(go_simp;first|done|with_reducible rfl)
    simp only[Act.put,ak,au,ay])
  refine yM.nil ?_;refine aP (rs:=[5,10]) (by kernel_rfl) (by simp) (lS rfl (λK hK=>?a1) (lS rfl (λK hK=>?b1) aJ));all_goals
   go_simp;refine hK.out _ _ trivial (λ_=>?_);clear hK K;try simp only[ak,au,ay]
  case' a1=>refine aP (rs:=[6,10]) (by kernel_rfl) (by simp) (lS rfl (λK hK=>?c1) (lS rfl (λK hK=>?d1) aJ))
  case' b1=>
   refine aP (rs:=[5]) (by kernel_rfl) (by simp) (lS rfl (λK hK=>?_) aJ);go_simp;refine hK.out _ _ trivial (λ_=>?_);clear hK K;try simp only[ak,au,ay]
   refine aP (rs:=[6]) (by kernel_rfl) (by simp) (lS rfl (λK hK=>?_) aJ);go_simp
  case' d1=>
   go_simp;refine hK.out _ _ trivial (λ_=>?_);clear hK K;try simp only[ak,au,ay]
   refine aP (rs:=[6]) (by kernel_rfl) (by simp) (lS rfl (λK hK=>?_) aJ);go_simp
  case' c1=>go_simp
  all_goals
   refine(DU.out _ (aN _ _)).mono ?_;rintro en w1 ⟨T3,b3,rfl,P1⟩;obtain⟨z4,z3,zf⟩:=HC.out w1 P1.out.2;go_wp2_with fail;refine hK.out _ _ trivial (λ_=>?_);clear hK K;try simp only[ak,au,ay]
  case' c1=>
   refine aP (rs:=[10]) (by kernel_rfl) (by simp) (lS rfl (λK hK=>?_) aJ);go_simp;refine hK.out _ _ trivial (λ_=>?_);clear hK K;try simp only[ak,au,ay]
  all_goals
   refine aP (rs:=[11]) (by kernel_rfl) (by simp) (lS rfl (λK hK=>?_) aJ);go_simp;refine(HF2.out w1 _ P1.out.2 (aN _ _)).mono ?_;rintro en w2 ⟨T4,b4,rfl,P2⟩;obtain⟨y4,y3,yf⟩:=HC2.out w1 w2 P1.out.2 P2.out.2;go_wp2_with fail;refine hK.out _ _ trivial (λ_=>?_);clear hK K;try simp only[ak,au,ay]
   refine aP (rs:=[12]) (by kernel_rfl) (by simp) (lS rfl (λK hK=>?_) aJ);go_simp;refine hK.out _ _ trivial (λ_=>?_);clear hK K;try simp only[ak,au,ay]
   refine aP (rs:=[13]) (by kernel_rfl) (by simp) (lS rfl (λK hK=>?_) aJ);go_simp;refine hK.out _ _ trivial (λ_=>?_);clear hK K;try simp only[ak,au,ay]
   refine aP (rs:=[14]) (by kernel_rfl) (by simp) (lS rfl (λK hK=>?_) aJ);go_simp;refine hK.out _ _ trivial (λ_=>?_);clear hK K;try simp only[ak,au,ay]
   refine aP (rs:=[15]) (by kernel_rfl) (by simp) (lS rfl (λK hK=>?_) aJ);go_simp;refine hK.out _ _ trivial (λ_=>?_);clear hK K;try simp only[ak,au,ay]
   refine aP (rs:=[16]) (by kernel_rfl) (by simp) (lS rfl (λK hK=>?_) aJ);go_simp;refine hK.out _ _ trivial (λ_=>?_);clear hK K;try simp only[ak,au,ay]
   refine aP (rs:=[17]) (by kernel_rfl) (by simp) (lS rfl (λK hK=>?_) aJ);go_simp;refine hK.out _ _ trivial (λ_=>?_);clear hK K;try simp only[ak,au,ay]
   refine wpAnyH_done (by kernel_rfl) ?_ _;refine NoPanic.normal ?_;go_wp2_with fail;go_meet;exact⟨w1,w2,T3,b3,T4,b4,P1.out,P2.out,rfl⟩
 case rest=>
  obtain⟨w1,w2,T3,b3,T4,b4,p1,p2,hW⟩:=hcut.out;have s1:=p1.2.size;have s2:=p2.2.size;have hb2:=(p2.2.keep b (by omega) (by omega)).trans ((p1.2.keep b hbw (by omega)).trans HB.out);have hbW:wc.heap[b]? =some (.cells (Im a::Im (jS [l.jy,r.jy])::Im kind::[.string sign,.iface T3 (Pt b3 0),.iface T4 (Pt b4 0)]).toArray 376):=by
   rw[hW];exact aK _ _ _ _ _ _ (aK _ _ _ _ _ _ hb2)
  have hag:∀j,j≠b->wc.heap[j]? =w2.heap[j]? :=λj hj=>by
   rw[hW];exact(qU j hj).trans (qU j hj)
  have hsz:w2.heap.size<=wc.heap.size:=by
   rw[hW];exact dH (mX w2 b 4 _).size (mX _ b 5 _).size
  have hB:=Kr.mk' p1.1 p1.2 p2.1 p2.2 hm1 hm2 (by omega);have hKW:Fk w wc lo hi:=by
   rw[hW];exact((hB.fk.wide (aj _) (by omega)).trans (Fk.set h1 h2)).trans (Fk.set h1 h2)
  clear hcut hW DU HF2 HC HC2 p1 p2;obtain⟨wx,F1,F2,t1,t2⟩:=hB.ex;obtain⟨e1,_,_,x1,X1,y1,z1,g1,g2,g3,g4,g5,g8,g6⟩:=id F1;obtain⟨e2,_,_,x2,X2,y2,z2,k1,k2,k3,k4,k5,k8,k6⟩:=id F2;cases z1;cases z2;have HT1:Hid (∀n,Bj l.does.fd l.jy (wc.drewN n) lo wx.heap.size T3 b3 x1 X1 y1):=λn=>(g6 (wc.drewN n) λj hj=>hag j (by omega)).2;have HT2:Hid (∀n,Bj r.does.fd r.jy (wc.drewN n) m w2.heap.size T4 b4 x2 X2 y2):=λn=>(k6 (wc.drewN n) λj hj=>hag j (by omega)).2;have YQ:Hid (∀n,Calls prog 340 #[.iface T3 (Pt b3 0)] (wc.drewN n) λe w'=>e=.returned (.tuple #[Im (if l.does.fd.known then l.does.fd.val else 0),.bool l.does.fd.known])/\w'=wc.drewN n):=λn=>YJ (HT1.out n);have YR:Hid (∀n,Calls prog 340 #[.iface T4 (Pt b4 0)] (wc.drewN n) λe w'=>e=.returned (.tuple #[Im (if r.does.fd.known then r.does.fd.val else 0),.bool r.does.fd.known])/\w'=wc.drewN n):=λn=>YJ (HT2.out n);have HJ:Hid (∀n strong,Calls prog 360 #[Pt b 0,.bool strong] (wc.drewN n) λe w'=>e=.returned (if l.does.fd.lI strong||r.does.fd.lI (!strong)then .iface T3 (Pt b3 0)else if r.does.fd.lI strong||l.does.fd.lI (!strong)then .iface T4 (Pt b4 0)else .iface 374 (Pt b 0))/\w'=wc.drewN n):=λn strong=>als (w:=wc.drewN n) (by rw[bH];exact jH hbW) (by rw[bH];exact jH hbW) (λwant=>U0 (HT1.out n) want) (λwant=>U0 (HT2.out n) want) strong
  have SE:Hid (Calls prog 358 #[Pt b 0] wc λen w'=>∃n,en=.returned (.tuple #[.int .u8 (lY sign.data.toList).1,if (lY sign.data.toList).2 then .iface T4 (Pt b4 0)else .iface T3 (Pt b3 0),if (lY sign.data.toList).2 then .iface T3 (Pt b3 0)else .iface T4 (Pt b4 0)])/\w'=wc.drewN n):=(abo hbW).mono λen w' ⟨q1,n,q2⟩=>⟨n,q1,q2⟩;have HL:Hid (∀(y:jo)(is:Int),wc.grownBy y none->Calls prog 359 #[.agg #[Im a,Im (jS [l.jy,r.jy]),Im kind],Im is] y λen w'=>∃T5 b5,en=.returned (.iface T5 (Pt b5 0))/\Hid (mQ (rZ kind is) (jS [l.jy,r.jy]) w' lo hi w.heap.size w'.heap.size (.iface T5 (Pt b5 0))/\Fk w w' lo hi)):=λy is g=>by
   refine(acI y a (jS [l.jy,r.jy]) kind is (rC lc rc) (lo:=lo) (m:=hi) (H:=w.heap.size) (by omega) (by have:=g.size;omega)).mono ?_;rintro en w' ⟨v',r1,r2,r3⟩;obtain⟨T5,b5,hv5⟩:=r2.form;subst hv5;exact⟨T5,b5,r1,r2,hKW.trans (Fk.grown (g.trans r3))⟩
  have HO:Hid (∀o x y q,Calls prog 158 #[.int .u8 o,Im x,Im y] q λe w'=>e=.returned (Im (two o x y))/\w'=q):=λo x y q=>ad8 _ _ _ _;have zS:=jB (agf kind sign l.does.fd r.does.fd);have Hd:Hid (∀n,Fk w (wc.drewN n) lo hi/\(mQ l.does.fd (jS [l.jy,r.jy]) (wc.drewN n) lo hi w.heap.size (wc.drewN n).heap.size (.iface T3 (Pt b3 0)))/\(mQ r.does.fd (jS [l.jy,r.jy]) (wc.drewN n) lo hi w.heap.size (wc.drewN n).heap.size (.iface T4 (Pt b4 0)))):=λn=>by
   have g:=lH wc n;have q1:=aoD lc rc;refine⟨hKW.trans (Fk.grown g),?_,?_⟩
   .exact(F1.later λj hj=>hag j (by omega)).wide (aj _) (by omega) (aj _) (by have:=g.size;omega) q1.1
   .exact(F2.later λj hj=>hag j (by omega)).wide hm1 (by omega) (by omega) (by have:=g.size;omega) q1.2
  have y0:wc.cell? (Ad b 0)=some (Im a):=jH hbW;have y1':wc.cell? (Ad b 1)=some (Im (jS [l.jy,r.jy])):=jH hbW;have y2':wc.cell? (Ad b 2)=some (Im kind):=jH hbW;have HS:Hid (∀n,Gw kind sign l.does.fd r.does.fd={give:=(λc into=>if (lY sign.data.toList).2 then c.two (lY sign.data.toList).1 into r.does.fd.dn l.does.fd.dn else c.two (lY sign.data.toList).1 into l.does.fd.dn r.does.fd.dn)}->mQ (Gw kind sign l.does.fd r.does.fd) (jS [l.jy,r.jy]) (wc.drewN n) lo hi w.heap.size (wc.drewN n).heap.size (.iface 374 (Pt b 0))):=λn hf=>by
   rw[hf];have g:=lH wc n;refine acw (k:=jS [l.jy,r.jy]) (kind:=kind) (mk:=λus=>.string sign::us) (by simp[lM]) (by unfold yJ;decide) h1 h2 hH hm1 hm2 hB (dH hsz g.size) rfl (λj hj=>hag j hj) hbW ?_;intro e3 e4 q1 q2 q3 r1 r2 r3;refine agd q1 r1 a kind sign _ (rC lc rc) (λhk=>by rw[zJ lc.1 lc.2 rc.1 rc.2 hk];omega) _ λc into=>?_;show(if (lY sign.data.toList).2 then c.two (lY sign.data.toList).1 into r.does.fd.dn l.does.fd.dn else c.two (lY sign.data.toList).1 into l.does.fd.dn r.does.fd.dn)=(if sign.data.toList==[62]then c.two 15 into e4.does e3.does else if sign.data.toList==[62,61]then c.two 16 into e4.does e3.does else c.two (uZ sign.data.toList) into e3.does e4.does);have c1:∀o,c.two o into l.does.fd.dn r.does.fd.dn=c.two o into e3.does e4.does:=λo=>Xb q2.symm r2.symm o into;have c2:∀o,c.two o into r.does.fd.dn l.does.fd.dn=c.two o into e4.does e3.does:=λo=>Xb r2.symm q2.symm o into;rw[c1,c2];unfold lY;cases h1:(sign.data.toList==[62])
   .cases h2:(sign.data.toList==[62,61])<;>simp
   .simp
  clear HT1 HT2 hB F1 F2 g1 g2 g3 g4 g5 g6 g8 k1 k2 k3 k4 k5 k6 k8 hag hsz hKW hbW HB t1 t2 s1 s2 hb2;generalize lY sign.data.toList=wk at *;obtain⟨o,sw⟩:=wk;simp only at SE zS HS;cases hk:(l.does.fd.known&&r.does.fd.known)with
  |true=>
   obtain⟨hkl,hkr⟩:l.does.fd.known=true/\r.does.fd.known=true:=by simpa using hk
   rw[hkl,hkr]at zS;rw[hkl]at YQ;rw[hkr]at YR;simp only[Bool.and_self,dM]at YQ YR zS;clear HJ Hd HS hkl hkr hk;cases sw
   case' false=>have B1:=YQ;have B2:=YR
   case' true=>have B1:=YR;have B2:=YQ
   all_goals
    simp only[aH,cZ,dM]at zS;go_wp2_with fail;refine SE.out.mono ?_;rintro en w' ⟨n,rfl,rfl⟩;simp only[aH,cZ,dM];have A1:=jB (B1.out n);have A2:=jB (B2.out n);have AL:Hid (∀(k:Nat)(is:Int),Calls prog 359 #[.agg #[Im a,Im (jS [l.jy,r.jy]),Im kind],Im is] ((wc.drewN n).drewN k) λen w'=>∃T5 b5,en=.returned (.iface T5 (Pt b5 0))/\Hid (mQ (rZ kind is) (jS [l.jy,r.jy]) w' lo hi w.heap.size w'.heap.size (.iface T5 (Pt b5 0))/\Fk w w' lo hi)):=λk is=>HL.out _ _ ((lH wc n).trans (lH _ k));have q0:(wc.drewN n).cell? (Ad b 0)=some (Im a):=by rw[bH];exact y0
    have q1:(wc.drewN n).cell? (Ad b 1)=some (Im (jS [l.jy,r.jy])):=by rw[bH];exact y1'
    have q2:(wc.drewN n).cell? (Ad b 2)=some (Im kind):=by rw[bH];exact y2'
    clear YQ YR B1 B2 HL y0 y1' y2' SE;generalize wc.drewN n=Wn at *;go_wp2_with fail;refine A1.out.mono ?_;rintro e w' ⟨rfl,rfl⟩;go_wp2_with fail;refine A2.out.mono ?_;rintro e w' ⟨rfl,rfl⟩;go_wp2_with fail;refine nJ 8 (by kernel_rfl) (by kernel_rfl) ?_;simp only[aC,aO,aG,aQ];repeat (go_big_quiet_step ((go_at_call 158;exact dN (HO.out _ _ _ _))))
    refine bF ?_;intro _ hw';obtain⟨k3,hw''⟩:=hw';subst hw'';go_wp2_with fail;refine(AL.out _ _).mono ?_;rintro en w5 ⟨T5,b5,rfl,HE⟩;go_wp2_with fail;go_ret;refine⟨_,rfl,?_,HE.out.2⟩;show mQ (Gw kind sign l.does.fd r.does.fd) (jS [l.jy,r.jy]) _ _ _ _ _ _;rw[zS.out];exact HE.out.1
  |false=>
   rw[hk]at zS;simp only[aH,cZ]at zS;clear HL y0 y1' y2';cases hkl:l.does.fd.known<;>cases hkr:r.does.fd.known
   case true.true=>rw[hkl,hkr]at hk;cases hk
   all_goals
    rw[hkl]at YQ;rw[hkr]at YR;clear hkl hkr hk HO;cases sw
    case' false=>have B1:=YQ;have B2:=YR
    case' true=>have B1:=YR;have B2:=YQ
    all_goals
     by_cases h19:o=19
     .subst h19;simp only[show((19:Int)==20)=false from rfl,show((19:Int)!=20)=true from rfl]at zS;go_wp2_with fail;refine SE.out.mono ?_;rintro en w' ⟨n,rfl,rfl⟩;simp only[aH,cZ,dM];have A1:=jB (B1.out n);have A2:=jB (B2.out n);have AJ:=jB (HJ.out n false);have AD:=jB (Hd.out n);have AS:=jB (HS.out n);clear HJ Hd HS YQ YR B1 B2 SE;generalize wc.drewN n=Wn at *;go_wp2_with fail;refine A1.out.mono ?_;rintro e w' ⟨rfl,rfl⟩;go_wp2_with fail;refine A2.out.mono ?_;rintro e w' ⟨rfl,rfl⟩;go_wp2_with fail;simp only[Bool.not_false]at AJ;cases hc1:(l.does.fd.lI false||r.does.fd.lI true)
      .cases hc2:(r.does.fd.lI false||l.does.fd.lI true);all_goals
        rw[hc1,hc2]at AJ zS;simp only[aH,cZ,dM]at AJ zS;clear hc1 hc2;refine AJ.out.mono ?_;rintro e w' ⟨rfl,rfl⟩;go_wp2_with fail;go_ret;refine⟨_,rfl,?_,AD.out.1⟩;show mQ (Gw kind sign l.does.fd r.does.fd) (jS [l.jy,r.jy]) _ _ _ _ _ _;first
         |exact AS.out zS.out
         |(rw[zS.out];exact AD.out.2.2)
      .rw[hc1]at AJ zS;simp only[dM]at AJ zS;clear hc1;refine AJ.out.mono ?_;rintro e w' ⟨rfl,rfl⟩;go_wp2_with fail;go_ret;refine⟨_,rfl,?_,AD.out.1⟩;show mQ (Gw kind sign l.does.fd r.does.fd) (jS [l.jy,r.jy]) _ _ _ _ _ _;rw[zS.out];exact AD.out.2.1
     .by_cases h20:o=20
      .subst h20;simp only[show((20:Int)==20)=true from rfl,show((20:Int)!=20)=false from rfl]at zS;go_wp2_with fail;refine SE.out.mono ?_;rintro en w' ⟨n,rfl,rfl⟩;simp only[aH,cZ,dM];have A1:=jB (B1.out n);have A2:=jB (B2.out n);have AJ:=jB (HJ.out n true);have AD:=jB (Hd.out n);have AS:=jB (HS.out n);clear HJ Hd HS YQ YR B1 B2 SE;generalize wc.drewN n=Wn at *;go_wp2_with fail;refine A1.out.mono ?_;rintro e w' ⟨rfl,rfl⟩;go_wp2_with fail;refine A2.out.mono ?_;rintro e w' ⟨rfl,rfl⟩;go_wp2_with fail;simp only[je]at AJ;cases hc1:(l.does.fd.lI true||r.does.fd.lI false)
       .cases hc2:(r.does.fd.lI true||l.does.fd.lI false);all_goals
         rw[hc1,hc2]at AJ zS;simp only[aH,cZ,dM]at AJ zS;clear hc1 hc2;refine AJ.out.mono ?_;rintro e w' ⟨rfl,rfl⟩;go_wp2_with fail;go_ret;refine⟨_,rfl,?_,AD.out.1⟩;show mQ (Gw kind sign l.does.fd r.does.fd) (jS [l.jy,r.jy]) _ _ _ _ _ _;first
          |exact AS.out zS.out
          |(rw[zS.out];exact AD.out.2.2)
       .rw[hc1]at AJ zS;simp only[dM]at AJ zS;clear hc1;refine AJ.out.mono ?_;rintro e w' ⟨rfl,rfl⟩;go_wp2_with fail;go_ret;refine⟨_,rfl,?_,AD.out.1⟩;show mQ (Gw kind sign l.does.fd r.does.fd) (jS [l.jy,r.jy]) _ _ _ _ _ _;rw[zS.out];exact AD.out.2.1
      .have n19:(o==19)=false:=by simpa using h19
       have n20:(o==20)=false:=by simpa using h20
       simp only[n19,n20,Bool.or_self,gK,aH,cZ]at zS;go_wp2_with fail;refine SE.out.mono ?_;rintro en w' ⟨n,rfl,rfl⟩;simp only[aH,cZ,dM];have A1:=jB (B1.out n);have A2:=jB (B2.out n);have AD:=jB (Hd.out n);have AS:=jB (HS.out n);clear HJ Hd HS YQ YR B1 B2 SE;generalize wc.drewN n=Wn at *;go_wp2_with fail;refine A1.out.mono ?_;rintro e w' ⟨rfl,rfl⟩;go_wp2_with fail;refine A2.out.mono ?_;rintro e w' ⟨rfl,rfl⟩;go_wp2_with fail;go_ret;refine⟨_,rfl,?_,AD.out.1⟩;exact AS.out zS.out
end
end
section
open Go.RowKit Hx
theorem afq(u:List UInt8):(10<=(lY u).1/\(lY u).1<=20)/\((ni u).2=1\/(ni u).2=2)/\((ni u).1=0\/(ni u).1=1\/(ni u).1=2)/\
 ((ni u).2=2->15<=(lY u).1)/\((ni u).2=2->(lY u).1=19\/(lY u).1=20->(ni u).1=2)/\((ni u).1=2->(ni u).2=2/\((lY u).1=19\/(lY u).1=20))/\((lY u).1=19\/(lY u).1=20->(lY u).2=false)/\((ni u).1=0->(lY u).1=17\/(lY u).1=18):=by
 unfold lY ni uZ;by_cases h0:(u==[124,124])=true
 .have:u=[124,124]:=by simpa using h0
  subst this
  decide
 by_cases h1:(u==[38,38])=true
 .have:u=[38,38]:=by simpa using h1
  subst this
  decide
 by_cases h2:(u==[61,61])=true
 .have:u=[61,61]:=by simpa using h2
  subst this
  decide
 by_cases h3:(u==[33,61])=true
 .have:u=[33,61]:=by simpa using h3
  subst this
  decide
 by_cases h4:(u==[60])=true
 .have:u=[60]:=by simpa using h4
  subst this
  decide
 by_cases h5:(u==[60,61])=true
 .have:u=[60,61]:=by simpa using h5
  subst this
  decide
 by_cases h6:(u==[62])=true
 .have:u=[62]:=by simpa using h6
  subst this
  decide
 by_cases h7:(u==[62,61])=true
 .have:u=[62,61]:=by simpa using h7
  subst this
  decide
 simp only[h0,h1,h2,h3,h4,h5,h6,h7,aH,cZ];repeat' split
 all_goals simp
theorem ad6(v:Vw)(o a b:Int)(ho:10<=o/\o<=20):outcome v o a b=two o a b:=by
 unfold outcome;rw[jk (by omega),jk (by omega),jk (by omega),jk (by omega),jk (by omega),jk (by omega),jk (by omega),jk (by omega),jk (by omega)]
theorem La:∀a b:Int,a=0\/a=1->b=0\/b=1->(bits .and .i64 a b=0\/bits .and .i64 a b=1)/\(bits .or .i64 a b=0\/bits .or .i64 a b=1)/\bits .and .i64 0 b=0/\bits .and .i64 a 1=a/\bits .and .i64 1 b=b/\bits .and .i64 a 0=0/\bits .or .i64 1 b=1/\bits .or .i64 a 0=a/\bits .or .i64 0 b=b/\bits .or .i64 a 1=1:=by
 intro a b ha hb;rcases ha with rfl|rfl<;>rcases hb with rfl|rfl<;>decide
theorem RG(o a b:Int)(h15:15<=o/\o<=20)(h:o=19\/o=20->(a=0\/a=1)/\(b=0\/b=1)):two o a b=0\/two o a b=1:=by
 unfold two;rw[jk (by omega),jk (by omega),jk (by omega),jk (by omega),jk (by omega)];split
 .exact ET _
 .split
  .exact ET _
  .split
   .exact ET _
   .split
    .exact ET _
    .split
     .rename_i h19;obtain⟨h1,h2⟩:=h (ji h19);exact(La a b h1 h2).1
     .split
      .rename_i h20;obtain⟨h1,h2⟩:=h (jh h20);exact(La a b h1 h2).2.1
      .exact ji rfl
theorem arA{a kind:Int}{sign:jm}{l r:Ex}{z z':Sz}{f f':Val}(hl:MX l z f)(hr:MX r z' f'){ck:Ck}(hk:kZ (o7 a kind sign l r) ck):kZ l ck/\kZ r ck/\l.does.jU ck.jA=qj sign (l.does.jU ck.jA)/\r.does.jU ck.jA=qj sign (l.does.jU ck.jA)/\(o7 a kind sign l r).does.look ck=ck:=by
 have hk:=hk;have e0:(o7 a kind sign l r).does.look ck=(r.does.look ((l.does.look ck).want (l.does.jU ck.jA) l.at' (qj sign (l.does.jU ck.jA)))).want (r.does.jU ((l.does.look ck).want (l.does.jU ck.jA) l.at' (qj sign (l.does.jU ck.jA))).jA) r.at' (qj sign (l.does.jU ck.jA)):=rfl;obtain⟨q1,q2,q3⟩:=zQ hk;have q4:=hr.look _ q3;have q5:((l.does.look ck).want (l.does.jU ck.jA) l.at' (qj sign (l.does.jU ck.jA))).en=0:=by
  have q3':=q3;rw[q4]at q3';exact q3'
 obtain⟨q0,q6,q7⟩:=zQ q5;have q8:=hl.look ck q7;rw[q6,q8]at q3 q4 q1;rw[e0,q2,q6,q8];exact⟨q7,q3,q0,q1,q4⟩
theorem aqy(sign:jm)(left:Int):qj sign left=1\/qj sign left=2:=by
 obtain⟨_,_,h3,_⟩:=afq sign.data.toList;unfold qj;split
 .split<;>omega
 .omega
theorem Vd{e:Ex}{z:Sz}{f:Val}(h:MX e z f)(hk:e.does.fd.known=true){ck:Ck}(hl:kZ e ck):jO e.does.fd.val/\(∀en v σ,pJ ck en σ->nH v->f en v σ=e.does.fd.val)/\(e.does.jU ck.jA=2->e.does.fd.val=0\/e.does.fd.val=1):=by
 have hk:e.does.fd.tag=1\/e.does.fd.tag=2:=by simpa [Hx.nY.known]using hk
 rcases hk with hk|hk
 .obtain⟨q1,q2,q3⟩:=h.ER hk ck hl;exact⟨q1,q2,λh=>by omega⟩
 .obtain⟨q1,q2,q3⟩:=h.DF hk ck hl;refine⟨?_,q2,λ_=>q1⟩;rcases q1 with q1|q1<;>rw[q1]<;>(unfold jO;omega)
theorem zF{e:Ex}{z:Sz}{f:Val}(h:MX e z f){b:Bool}(hk:e.does.fd.lI b=true){ck:Ck}(hl:kZ e ck):(∀en v σ,pJ ck en σ->nH v->f en v σ=if b then 1 else 0)/\e.does.jU ck.jA≠1:=by
 have hk:e.does.fd.tag=2/\e.does.fd.val=if b then 1 else 0:=by simpa [Hx.nY.lI]using hk
 obtain⟨q1,q2,q3⟩:=h.DF hk.1 ck hl;exact⟨λen v σ ht hv=>by rw[q2 en v σ ht hv,hk.2],q3⟩
theorem arC{t t':Int}{l r:Ex}(hl:QX t l)(hr:QX t' r)(a:Int)(sign:jm):QX (t+1+t') (o7 a (ni sign.data.toList).2 sign l r):=by
 obtain⟨z,f,h1,h2⟩:=hl;obtain⟨z',f',k1,k2⟩:=hr;obtain⟨s1,s2,s3,s4,s5,s6,s7,s8⟩:=afq sign.data.toList;have Ae:(o7 a (ni sign.data.toList).2 sign l r).does.give=λc into=>if (lY sign.data.toList).2 then c.two (lY sign.data.toList).1 into r.does l.does else c.two (lY sign.data.toList).1 into l.does r.does:=by
  funext c into
  show(if sign.data.toList==[62]then c.two 15 into r.does l.does else if sign.data.toList==[62,61]then c.two 16 into r.does l.does else c.two (uZ sign.data.toList) into l.does r.does)=_;unfold lY;split
  .rfl
  .split<;>rfl
 have hfd:(o7 a (ni sign.data.toList).2 sign l r).does.fd=Gw (ni sign.data.toList).2 sign l.does.fd r.does.fd:=rfl;rw[agf]at hfd;have hkind:∀ck:Ck,(o7 a (ni sign.data.toList).2 sign l r).does.jU ck.jA=(ni sign.data.toList).2:=λ_=>rfl;have hlk:=λck (hk:kZ (o7 a (ni sign.data.toList).2 sign l r) ck)=>arA h1 k1 hk;have hside:∀ck,kZ (o7 a (ni sign.data.toList).2 sign l r) ck->((lY sign.data.toList).1=19\/(lY sign.data.toList).1=20)->(l.does.jU ck.jA≠1\/r.does.jU ck.jA≠1)->l.does.jU ck.jA=2/\r.does.jU ck.jA=2/\(ni sign.data.toList).2=2:=λck hk ho hne=>by
  obtain⟨_,_,q3,q4,_⟩:=hlk ck hk;have q5:=aqy sign (l.does.jU ck.jA);have q6:qj sign (l.does.jU ck.jA)=2:=by omega
  refine⟨by omega,by omega,?_⟩;rcases s2 with h|h
  .exfalso
   have h3:(ni sign.data.toList).1≠2:=λe=>by have:=(s6 e).1;omega
   have h4:(ni sign.data.toList).1≠0:=λe=>by have:=s8 e;omega
   unfold qj at q6;rw[jk h4]at q6;omega
  .exact h
 generalize hwk:lY sign.data.toList=wk at *;obtain⟨o,sw⟩:=wk;simp only at s1 s4 s5 s6 s7 s8 Ae hfd hside;have ho:zV o:=ji s1;generalize hkd:(ni sign.data.toList).2=kind at *;have g4:=h2.jD;have g5:=h2.jM;have g6:=k2.jD;have g7:=k2.jM;have g8:=h2.wide;have g9:=k2.wide;have hF:∀en v σ,(if sw then outcome v o (f' en v σ) (f en v σ)else outcome v o (f en v σ) (f' en v σ))=if sw then two o (f' en v σ) (f en v σ)else two o (f en v σ) (f' en v σ):=λen v σ=>by
  rw[ad6 v o _ _ s1,ad6 v o _ _ s1]
 have hcg:uj (λen v σ=>if sw then outcome v o (f' en v σ) (f en v σ)else outcome v o (f en v σ) (f' en v σ)):=λen v σ τ hh=>by
  show(if sw then outcome v o (f' en v σ) (f en v σ)else outcome v o (f en v σ) (f' en v σ))=if sw then outcome v o (f' en v τ) (f en v τ)else outcome v o (f en v τ) (f' en v τ);rw[h1.give.pq en v σ τ hh,k1.give.pq en v σ τ hh]
 have hcode:∀{g g':Co->Int->Co×Int},Mx (kZ (o7 a kind sign l r)) g z f->Mx (kZ (o7 a kind sign l r)) g' z' f'->Mx (kZ (o7 a kind sign l r)) (λc into=>if sw then c.two o into {give:=g'} {give:=g}else c.two o into {give:=g} {give:=g'}) ⟨max (max (max z.wide (1+z'.wide)) (max z'.wide (1+z.wide))) 1,max z.deep z'.deep,z.jD+z'.jD+1,z.jM+z'.jM+13⟩ (λen v σ=>if sw then outcome v o (f' en v σ) (f en v σ)else outcome v o (f en v σ) (f' en v σ)):=λ{g g'} m1 m2=>by
  cases sw with
  |true=>
   simp only[dM];exact(Qo m2 m1 ho).grow (by show max (max z'.wide (1+z.wide)) 1<=max (max (max z.wide (1+z'.wide)) (max z'.wide (1+z.wide))) 1;omega) (by show max z'.deep z.deep<=max z.deep z'.deep;omega) (by show z'.jD+z.jD+1<=z.jD+z'.jD+1;omega) (by show z'.jM+z.jM+13<=z.jM+z'.jM+13;omega)
  |false=>
   simp only[aH,cZ];exact(Qo m1 m2 ho).grow (by show max (max z.wide (1+z'.wide)) 1<=max (max (max z.wide (1+z'.wide)) (max z'.wide (1+z.wide))) 1;omega) (aj _) (aV _) (aV _)
 have hgr:∀{P:Ck->Prop}{g:Co->Int->Co×Int}{zz:Sz}{ff:Val},Mx P g zz ff->(zz=z\/zz=z')->Mx P g ⟨max (max (max z.wide (1+z'.wide)) (max z'.wide (1+z.wide))) 1,max z.deep z'.deep,z.jD+z'.jD+1,z.jM+z'.jM+13⟩ ff:=λ{P g zz ff} m hz=>by
  rcases hz with rfl|rfl
  .exact m.grow (by show zz.wide<=max (max (max zz.wide (1+z'.wide)) (max z'.wide (1+zz.wide))) 1;omega) (by show zz.deep<=max zz.deep z'.deep;omega) (by show zz.jD<=zz.jD+z'.jD+1;omega) (by show zz.jM<=zz.jM+z'.jM+13;omega)
  .exact m.grow (by show zz.wide<=max (max (max z.wide (1+zz.wide)) (max zz.wide (1+z.wide))) 1;omega) (by show zz.deep<=max z.deep zz.deep;omega) (by show zz.jD<=z.jD+zz.jD+1;omega) (by show zz.jM<=z.jM+zz.jM+13;omega)
 have hty:∀ck en v σ,kZ (o7 a kind sign l r) ck->pJ ck en σ->nH v->jO (if sw then outcome v o (f' en v σ) (f en v σ)else outcome v o (f en v σ) (f' en v σ))/\(kind=2->(if sw then outcome v o (f' en v σ) (f en v σ)else outcome v o (f en v σ) (f' en v σ))=0\/(if sw then outcome v o (f' en v σ) (f en v σ)else outcome v o (f en v σ) (f' en v σ))=1):=λck en v σ hk ht hv=>by
  obtain⟨p1,p2,p3,p4,_⟩:=hlk ck hk;obtain⟨y1,y2⟩:=h1.ty ck en v σ p1 ht hv;obtain⟨x1,x2⟩:=k1.ty ck en v σ p2 ht hv;rw[hF];refine⟨by split<;>exact UQ _ _ _ (by assumption),λhkk=>?_⟩;have Hy:o=19\/o=20->(f en v σ=0\/f en v σ=1)/\(f' en v σ=0\/f' en v σ=1):=λUG=>by
   have h5:=s5 hkk UG;have hs:qj sign (l.does.jU ck.jA)=2:=by unfold qj;rw[jk (by omega)];exact h5
   exact⟨y2 (by omega),x2 (by omega)⟩
  split
  .exact RG o _ _ ⟨s4 hkk,s1.2⟩ λh=>⟨(Hy h).2,(Hy h).1⟩
  .exact RG o _ _ ⟨s4 hkk,s1.2⟩ Hy
 have PG:∀ck,kZ (o7 a kind sign l r) ck->(((o==19||o==20)&&(l.does.fd.lI (o==20)||r.does.fd.lI (o !=20)))=true)->(l.does.jU ck.jA=2/\kind=2)/\∀en v σ,pJ ck en σ->nH v->f en v σ=if sw then outcome v o (f' en v σ) (f en v σ)else outcome v o (f en v σ) (f' en v σ):=λck hk hj=>by
  obtain⟨p1,p2,_⟩:=hlk ck hk;simp only[dD,iW]at hj;have ho2:o=19\/o=20:=by simpa using hj.1
  have hsw:=s7 ho2;have hne:=hj.2.elim (λh=>ji (zF h1 h p1).2) (λh=>jh (zF k1 h p2).2);obtain⟨d1,d2,d3⟩:=hside ck hk ho2 hne;refine⟨⟨d1,d3⟩,λen v σ ht hv=>?_⟩;have yb:=(h1.ty ck en v σ p1 ht hv).2 d1;have xb:=(k1.ty ck en v σ p2 ht hv).2 d2;obtain⟨w1,w2,w3,w4,w5,w6,w7,w8,w9,w10⟩:=La _ _ yb xb;rw[hF,hsw];simp only[aH,cZ];rcases ho2 with rfl|rfl
  .have e2:two 19 (f en v σ) (f' en v σ)=bits .and .i64 (f en v σ) (f' en v σ):=by simp[two]
   rw[e2];rcases hj.2 with h|h
   .have hv0:f en v σ=0:=by simpa using (zF h1 h p1).1 en v σ ht hv
    rw[hv0,w3]
   .have hv0:f' en v σ=1:=by simpa using (zF k1 h p2).1 en v σ ht hv
    rw[hv0,w4]
  .have e2:two 20 (f en v σ) (f' en v σ)=bits .or .i64 (f en v σ) (f' en v σ):=by simp[two]
   rw[e2];rcases hj.2 with h|h
   .have hv0:f en v σ=1:=by simpa using (zF h1 h p1).1 en v σ ht hv
    rw[hv0,w7]
   .have hv0:f' en v σ=0:=by simpa using (zF k1 h p2).1 en v σ ht hv
    rw[hv0,w8]
 have PI:∀ck,kZ (o7 a kind sign l r) ck->(((o==19||o==20)&&(r.does.fd.lI (o==20)||l.does.fd.lI (o !=20)))=true)->(r.does.jU ck.jA=2/\kind=2)/\∀en v σ,pJ ck en σ->nH v->f' en v σ=if sw then outcome v o (f' en v σ) (f en v σ)else outcome v o (f en v σ) (f' en v σ):=λck hk hj=>by
  obtain⟨p1,p2,_⟩:=hlk ck hk;simp only[dD,iW]at hj;have ho2:o=19\/o=20:=by simpa using hj.1
  have hsw:=s7 ho2;have hne:=hj.2.elim (λh=>jh (zF k1 h p2).2) (λh=>ji (zF h1 h p1).2);obtain⟨d1,d2,d3⟩:=hside ck hk ho2 hne;refine⟨⟨d2,d3⟩,λen v σ ht hv=>?_⟩;have yb:=(h1.ty ck en v σ p1 ht hv).2 d1;have xb:=(k1.ty ck en v σ p2 ht hv).2 d2;obtain⟨w1,w2,w3,w4,w5,w6,w7,w8,w9,w10⟩:=La _ _ yb xb;rw[hF,hsw];simp only[aH,cZ];rcases ho2 with rfl|rfl
  .have e2:two 19 (f en v σ) (f' en v σ)=bits .and .i64 (f en v σ) (f' en v σ):=by simp[two]
   rw[e2];rcases hj.2 with h|h
   .have hv0:f' en v σ=0:=by simpa using (zF k1 h p2).1 en v σ ht hv
    rw[hv0,w6]
   .have hv0:f en v σ=1:=by simpa using (zF h1 h p1).1 en v σ ht hv
    rw[hv0,w5]
  .have e2:two 20 (f en v σ) (f' en v σ)=bits .or .i64 (f en v σ) (f' en v σ):=by simp[two]
   rw[e2];rcases hj.2 with h|h
   .have hv0:f' en v σ=1:=by simpa using (zF k1 h p2).1 en v σ ht hv
    rw[hv0,w10]
   .have hv0:f en v σ=0:=by simpa using (zF h1 h p1).1 en v σ ht hv
    rw[hv0,w9]
 have UA:∀ck,kZ (o7 a kind sign l r) ck->(l.does.fd.known&&r.does.fd.known)=true->jO (if sw then two o r.does.fd.val l.does.fd.val else two o l.does.fd.val r.does.fd.val)/\(kind=2->(if sw then two o r.does.fd.val l.does.fd.val else two o l.does.fd.val r.does.fd.val)=0\/(if sw then two o r.does.fd.val l.does.fd.val else two o l.does.fd.val r.does.fd.val)=1)/\∀en v σ,pJ ck en σ->nH v->(if sw then outcome v o (f' en v σ) (f en v σ)else outcome v o (f en v σ) (f' en v σ))=if sw then two o r.does.fd.val l.does.fd.val else two o l.does.fd.val r.does.fd.val:=λck hk hkn=>by
  obtain⟨p1,p2,p3,p4,_⟩:=hlk ck hk;simp only[dD]at hkn;obtain⟨y1,y2,y3⟩:=Vd h1 hkn.1 p1;obtain⟨x1,x2,x3⟩:=Vd k1 hkn.2 p2;refine⟨by split<;>exact UQ _ _ _ (by assumption),λhkk=>?_,λen v σ ht hv=>by rw[hF,y2 en v σ ht hv,x2 en v σ ht hv]⟩;have Hy:o=19\/o=20->(l.does.fd.val=0\/l.does.fd.val=1)/\(r.does.fd.val=0\/r.does.fd.val=1):=λUG=>by
   have h5:=s5 hkk UG;have hs:qj sign (l.does.jU ck.jA)=2:=by unfold qj;rw[jk (by omega)];exact h5
   exact⟨y3 (by omega),x3 (by omega)⟩
  split
  .exact RG o _ _ ⟨s4 hkk,s1.2⟩ λh=>⟨(Hy h).2,(Hy h).1⟩
  .exact RG o _ _ ⟨s4 hkk,s1.2⟩ Hy
 generalize hlv:(if sw then two o r.does.fd.val l.does.fd.val else two o l.does.fd.val r.does.fd.val)=lv at *;have hsz:CQ (t+1+t') (o7 a kind sign l r) ⟨max (max (max z.wide (1+z'.wide)) (max z'.wide (1+z.wide))) 1,max z.deep z'.deep,z.jD+z'.jD+1,z.jM+z'.jM+13⟩:=by
  have hb:=af2 (q:=o7 a kind sign l r) h2 k2 rfl;have c3:=h2.tok;have c4:=k2.tok;exact⟨hb.tok,⟨by show 0<=max (max (max z.wide (1+z'.wide)) (max z'.wide (1+z.wide))) 1;omega,by show 2 * max (max (max z.wide (1+z'.wide)) (max z'.wide (1+z.wide))) 1<=t+1+t'+1;omega⟩,hb.jM,hb.jD,hb.jy,hb.all⟩
 have Jr:∀x:Int,x=0\/x=1->ES (decide (x≠0))=wH x/\(if x=0 then (0:Int)else 1)=x:=λx hx=>by rcases hx with rfl|rfl<;>exact⟨rfl,rfl⟩
 refine⟨_,λen v σ=>if sw then outcome v o (f' en v σ) (f en v σ)else outcome v o (f en v σ) (f' en v σ),⟨λck hk=>(hlk ck hk).2.2.2.2,?_,?_,hty,?_,?_,?_⟩,hsz⟩
 .rw[Ae];exact hcode (h1.give.of λck hk=>(hlk ck hk).1) (k1.give.of λck hk=>(hlk ck hk).2.1)
 .rw[hfd];cases hkn:(l.does.fd.known&&r.does.fd.known)with
  |true=>
   simp only[dM];refine⟨hcg,λck c into hf hP hw hi=>?_⟩;obtain⟨n1,n2,n3⟩:=UA ck hP hkn;have hm:Mx (λq=>q=ck) (wH lv) ⟨max (max (max z.wide (1+z'.wide)) (max z'.wide (1+z.wide))) 1,max z.deep z'.deep,z.jD+z'.jD+1,z.jM+z'.jM+13⟩ (λen v σ=>if sw then outcome v o (f' en v σ) (f en v σ)else outcome v o (f en v σ) (f' en v σ)):=Vg hcg ⟨by show 1<=max (max (max z.wide (1+z'.wide)) (max z'.wide (1+z.wide))) 1;omega,by show 1<=z.jD+z'.jD+1;omega,by show 13<=z.jM+z'.jM+13;omega⟩ λwB e'=>by
    subst e';exact⟨n1,n3⟩
   unfold rZ;by_cases hk2:kind=2
   .rw[jl hk2];rw[(Jr lv (n2 hk2)).1];exact hm.lay ck c into hf rfl hw hi
   .rw[jk hk2];exact hm.lay ck c into hf rfl hw hi
  |false=>
   simp only[aH,cZ];by_cases hj:((o==19||o==20)&&(l.does.fd.lI (o==20)||r.does.fd.lI (o !=20)))=true
   .rw[jl hj];exact hgr ((h1.fold.of λck hk=>(hlk ck hk).1).eq hcg λck en v σ hk ht hv=>(PG ck hk hj).2 en v σ ht hv) (ji rfl)
   .rw[jk hj];by_cases hj2:((o==19||o==20)&&(r.does.fd.lI (o==20)||l.does.fd.lI (o !=20)))=true
    .rw[jl hj2];exact hgr ((k1.fold.of λck hk=>(hlk ck hk).2.1).eq hcg λck en v σ hk ht hv=>(PI ck hk hj2).2 en v σ ht hv) (jh rfl)
    .rw[jk hj2];exact hcode (h1.fold.of λck hk=>(hlk ck hk).1) (k1.fold.of λck hk=>(hlk ck hk).2.1)
 .intro tg ck hk;obtain⟨p1,p2,_⟩:=hlk ck hk;rw[hkind ck];rw[hfd]at tg⊢;cases hkn:(l.does.fd.known&&r.does.fd.known)with
  |true=>
   rw[hkn]at tg;simp only[dM]at tg⊢;obtain⟨n1,n2,n3⟩:=UA ck hk hkn;unfold rZ at tg⊢;by_cases hk2:kind=2
   .rw[jl hk2]at tg;exact jq tg (by show¬(2:Int)=1;decide)
   .rw[jk hk2];exact⟨n1,n3,by omega⟩
  |false=>
   rw[hkn]at tg;simp only[aH,cZ]at tg⊢;by_cases hj:((o==19||o==20)&&(l.does.fd.lI (o==20)||r.does.fd.lI (o !=20)))=true
   .rw[jl hj]at tg;have:=(h1.ER tg ck p1).2.2;have:=(PG ck hk hj).1;omega
   .rw[jk hj]at tg;by_cases hj2:((o==19||o==20)&&(r.does.fd.lI (o==20)||l.does.fd.lI (o !=20)))=true
    .rw[jl hj2]at tg;have:=(k1.ER tg ck p2).2.2;have:=(PI ck hk hj2).1;omega
    .rw[jk hj2]at tg;exact jq tg (by show¬(0:Int)=1;decide)
 .intro tg ck hk;obtain⟨p1,p2,_⟩:=hlk ck hk;rw[hkind ck];rw[hfd]at tg⊢;cases hkn:(l.does.fd.known&&r.does.fd.known)with
  |true=>
   rw[hkn]at tg;simp only[dM]at tg⊢;obtain⟨n1,n2,n3⟩:=UA ck hk hkn;unfold rZ at tg⊢;by_cases hk2:kind=2
   .rw[jl hk2];refine⟨?_,λen v σ ht hv=>?_,by omega⟩
    .show(if lv=0 then (0:Int)else 1)=0\/(if lv=0 then (0:Int)else 1)=1;rw[(Jr lv (n2 hk2)).2];exact n2 hk2
    .show _=if lv=0 then (0:Int)else 1;rw[(Jr lv (n2 hk2)).2];exact n3 en v σ ht hv
   .rw[jk hk2]at tg;exact jq tg (by show¬(1:Int)=2;decide)
  |false=>
   rw[hkn]at tg;simp only[aH,cZ]at tg⊢;by_cases hj:((o==19||o==20)&&(l.does.fd.lI (o==20)||r.does.fd.lI (o !=20)))=true
   .rw[jl hj]at tg⊢;obtain⟨q1,q2,_⟩:=h1.DF tg ck p1;obtain⟨⟨_,d2⟩,d3⟩:=PG ck hk hj;exact⟨q1,λen v σ ht hv=>by rw[<-d3 en v σ ht hv];exact q2 en v σ ht hv,by omega⟩
   .rw[jk hj]at tg⊢;by_cases hj2:((o==19||o==20)&&(r.does.fd.lI (o==20)||l.does.fd.lI (o !=20)))=true
    .rw[jl hj2]at tg⊢;obtain⟨q1,q2,_⟩:=k1.DF tg ck p2;obtain⟨⟨_,d2⟩,d3⟩:=PI ck hk hj2;exact⟨q1,λen v σ ht hv=>by rw[<-d3 en v σ ht hv];exact q2 en v σ ht hv,by omega⟩
    .rw[jk hj2]at tg;exact jq tg (by show¬(0:Int)=2;decide)
 .intro tg;rw[hfd]at tg⊢;cases hkn:(l.does.fd.known&&r.does.fd.known)with
  |true=>
   rw[hkn]at tg;simp only[dM]at tg;unfold rZ at tg;by_cases hk2:kind=2
   .rw[jl hk2]at tg;exact jq tg (by show¬(2:Int)=3;decide)
   .rw[jk hk2]at tg;exact jq tg (by show¬(1:Int)=3;decide)
  |false=>
   rw[hkn]at tg;simp only[aH,cZ]at tg⊢;by_cases hj:((o==19||o==20)&&(l.does.fd.lI (o==20)||r.does.fd.lI (o !=20)))=true
   .rw[jl hj]at tg⊢;obtain⟨ff,m1,m2⟩:=h1.NT tg;refine⟨ff,hgr (m1.of λck hk=>(hlk ck hk).1) (ji rfl),λck en v σ hk ht hv=>?_⟩;obtain⟨p1,p2,_⟩:=hlk ck hk;obtain⟨⟨d1,d2⟩,d3⟩:=PG ck hk hj;obtain⟨r1,r2⟩:=m2 ck en v σ p1 ht hv;refine⟨r1,jh ?_⟩;rcases r2 with⟨r3,_⟩|⟨_,r4,r5⟩
    .omega
    .exact⟨d2,r4,by rw[<-d3 en v σ ht hv];exact r5⟩
   .rw[jk hj]at tg⊢;by_cases hj2:((o==19||o==20)&&(r.does.fd.lI (o==20)||l.does.fd.lI (o !=20)))=true
    .rw[jl hj2]at tg⊢;obtain⟨ff,m1,m2⟩:=k1.NT tg;refine⟨ff,hgr (m1.of λck hk=>(hlk ck hk).2.1) (jh rfl),λck en v σ hk ht hv=>?_⟩;obtain⟨p1,p2,_⟩:=hlk ck hk;obtain⟨⟨d1,d2⟩,d3⟩:=PI ck hk hj2;obtain⟨r1,r2⟩:=m2 ck en v σ p2 ht hv;refine⟨r1,jh ?_⟩;rcases r2 with⟨r3,_⟩|⟨_,r4,r5⟩
     .omega
     .exact⟨d2,r4,by rw[<-d3 en v σ ht hv];exact r5⟩
    .rw[jk hj2]at tg;exact jq tg (by show¬(0:Int)=3;decide)
section
variable {w w' w1 w2 w3 wr:jo}{lo hi m b H S:Nat}{u v:jr}{e l r:Ex}{a:Int}{T:jv}{c:Co}{x:Sx}
def yL(fs fs':List (Wd×Ex)):Prop:=fs.map (λb=>(b.1.text,b.2.does.give))=fs'.map (λb=>(b.1.text,b.2.does.give))
theorem ab6{t t':jm}{d d':Dn}(h1:t=t')(h2:d.give=d'.give)(one:Int):c.inside t d one=c.inside t' d' one:=by unfold Co.inside;rw[h1,h2]
theorem ajw{b b':Wd×Ex}(h1:b.1.text=b'.1.text)(h2:b.2.does.give=b'.2.does.give)(one:Int):xG one c b=xG one c b':=by
 unfold xG;rw[ab6 h1 h2]
theorem aaV:∀{fs fs':List (Wd×Ex)},yL fs fs'->∀(one:Int)(c:Co),Co.jF one fs c=Co.jF one fs' c
 |[],[],_,_,_=>rfl
 |[],_::_,h,_,_=>by simp[yL]at h
 |_::_,[],h,_,_=>by simp[yL]at h
 |b::fs,b'::fs',h,one,c=>by
  simp only[yL,dL,iD,Prod.mk.injEq]at h;obtain⟨⟨h1,h2⟩,h3⟩:=h;have e:∀(b:Wd×Ex)(fs:List (Wd×Ex))(c:Co),Co.jF one (b::fs) c=Co.jF one fs (xG one c b):=λ_ _ _=>rfl;rw[e,e,ajw h1 h2,aaV h3]
theorem yL.length{fs fs':List (Wd×Ex)}(h:yL fs fs'):fs.length=fs'.length:=by
 have:=congrArg List.length h;simpa using this
theorem ad1{fs fs':List (Wd×Ex)}(h:yL fs fs')(list:Int):c.jW list fs=c.jW list fs':=by
 unfold Co.jW;rw[aaV h]
theorem aaT{fs fs':List (Wd×Ex)}(h:yL fs fs')(list:Int):c.mW list fs=c.mW list fs':=by
 unfold Co.mW;rw[h.length,ad1 h]
def qI(fs:List (Wd×Ex)):List (Wd×Ex):=(fs.filter λb=>!(b.2.does.fd.lI true)).map λb=>(b.1,{b.2 with does:=b.2.does.fd.dn})
theorem aa1{fs:List (Wd×Ex)}{i:Nat}{b:Wd×Ex}(h:fs[i]? =some b):qI (fs.take (i+1))=qI (fs.take i)++(if b.2.does.fd.lI true then []else [(b.1,{b.2 with does:=b.2.does.fd.dn})]):=by
 have h1:fs.take (i+1)=fs.take i++[b]:=by rw[fU,h];rfl
 rw[h1];unfold qI;rw[List.filter_append,dF]
 congr 1
 cases hb:b.2.does.fd.lI true<;>simp[hb]
def Ba(lo m H:Nat)(w:jo)(own:Option Nat)(Q:jo->Nat->Nat->Prop):Prop:=
 ∃l1 m1 H1 h1,lo<=l1/\m1<=m/\H<=H1/\h1<=w.heap.size/\(∀g,own=some g->g<H1\/h1<=g)/\∀w',o8 w w' l1 m1 H1 h1->Q w' l1 h1
theorem Ba.later{Q:jo->Nat->Nat->Prop}{own own':Option Nat}{m':Nat}(h:Ba lo m H w own Q)(hm:m<=m')(hs:w.heap.size<=w'.heap.size)(h1:∀k,lo<=k->k<m->w'.heap[k]? =w.heap[k]?)(h2:∀k,H<=k->k<w.heap.size->some k≠own->w'.heap[k]? =w.heap[k]?)
 (ho:own'=own\/∃g,own'=some g/\w.heap.size<=g):Ba lo m' H w' own' Q:=by
 obtain⟨l1,m1,H1,e1,k1,k2,k3,k4,k5,k6⟩:=h;refine⟨l1,m1,H1,e1,k1,by omega,k3,by omega,λg hg=>?_,λw2 hw=>k6 w2 λk hk=>?_⟩
 .rcases ho with rfl|⟨g',hg',hl⟩
  .exact k5 g hg
  .rw[hg']at hg;cases hg;exact jh (by omega)
 .refine(hw k hk).trans ?_;rcases hk with hk|hk
  .exact h1 k (by omega) (by omega)
  .refine h2 k (by omega) (by omega) λek=>?_;have:=k5 k ek.symm;omega
theorem aed{base sz n:Nat}{E:jv}{xs:List jr}(h:w.ownsRow base E sz v n xs)(hk:∀g,v.ownBlock=some g->w'.heap[g]? =w.heap[g]?):w'.ownsRow base E sz v n xs:=by
 refine⟨h.1,?_⟩;rcases h.2 with hn|⟨g,cap,cur,rfl,hb,hg,rest⟩
 .exact .inl hn
 .exact .inr ⟨g,cap,cur,rfl,hb,(hk g rfl).trans hg,rest⟩
theorem aeb{base sz n g cap:Nat}{E:jv}{xs:List jr}(h:w.ownsRow base E sz (.slice (some (Ad g 0)) n cap) n xs):∃cur,base<=g/\w.heap[g]? =some (.cells cur E)/\∀(j:Nat)(u:jr),xs[j]? =some u->cur[j]? =some u:=by
 rcases h.2 with⟨h1,_⟩|⟨g',cap',cur,hv,hb,hg,_,_,_,ht⟩
 .cases h1
 .cases hv;refine⟨cur,hb,hg,λj u hu=>?_⟩;rw[<-ht,iZ]at hu;split at hu
  .simpa using hu
  .simp at hu
structure vZ(x:Sx)(S H m:Nat)(wr:jo)(k:Nat)(kv:jr)(fs:List (Wd×Ex))(cells:List jr):Prop where
 row:wr.ownsRow H 361 3 kv fs.length cells
 each:∀(j:Nat)(b:Wd×Ex),fs[j]? =some b->∃u,cells[j * 3]? =some (.string b.1.text)/\cells[j * 3+1]? =some (Im b.1.at')/\cells[j * 3+2]? =some u/\Ba (S+1) m H wr kv.ownBlock λw lo hi=>b.2.here b.2.at' w lo hi u
 all:∀b∈fs,kE b.2
 same:yL fs (qI (x.jF.take k))
 sum:(fs.map λb=>1+b.2.jy).sum<=((x.jF.take k).map λb=>1+b.2.jy).sum
 len:fs.length<=k
theorem vZ.nil(x:Sx)(S H m:Nat)(w:jo):vZ x S H m w 0 (Nl) [] []:=by
 refine⟨fK _ _ _ _,λj b hb=>by simp at hb,λb hb=>by simp at hb,?_,by simp,aj _⟩;simp[yL,qI]
theorem vZ.oV{kv:jr}{fs:List (Wd×Ex)}{cells:List jr}{k m':Nat}(h:vZ x S H m w k kv fs cells)(hm:m<=m')(hs:w.heap.size<=w'.heap.size)(h1:∀j,S<j->j<m->w'.heap[j]? =w.heap[j]?)(h2:∀j,H<=j->j<w.heap.size->w'.heap[j]? =w.heap[j]?):vZ x S H m' w' k kv fs cells:=by
 refine⟨aed h.row λg hg=>h2 g (h.row.lt g hg).1 (h.row.lt g hg).2,λj b hb=>?_,h.all,h.same,h.sum,h.len⟩;obtain⟨u,e1,e2,e3,e4⟩:=h.each j b hb;exact⟨u,e1,e2,e3,e4.later hm hs (λk k1 k2=>h1 k (by omega) k2) (λk k1 k2 _=>h2 k k1 k2) (ji rfl)⟩
theorem vZ.skip{kv:jr}{fs:List (Wd×Ex)}{cells:List jr}{k:Nat}{b:Wd×Ex}(h:vZ x S H m w k kv fs cells)(hb:x.jF[k]? =some b)(hc:0<=b.2.jy)(ht:b.2.does.fd.lI true=true):vZ x S H m w (k+1) kv fs cells:=by
 refine⟨h.row,h.each,h.all,?_,?_,by have:=h.len;omega⟩
 .rw[aa1 hb,ht];simpa using h.same
 .have h1:x.jF.take (k+1)=x.jF.take k++[b]:=by rw[fU,hb];rfl
  rw[h1,dF,List.sum_append];have:=h.sum;simp only[dL,iP,gZ,List.sum_nil];omega
theorem vZ.add{kv:jr}{fs:List (Wd×Ex)}{cells:List jr}{k gg cap Hn:Nat}{b:Wd×Ex}{e':Ex}{u:jr}(h:vZ x S H m w k kv fs cells)(hb:x.jF[k]? =some b)(ht:b.2.does.fd.lI true=false)
 (hg:w.grownBy w' kv.ownBlock)(hH:H<=w.heap.size)(hmH:m<=H)(hown:w'.ownsRow H 361 3 (.slice (some (Ad gg 0)) (fs.length+1) cap) (fs.length+1) (cells++[.string b.1.text,Im b.1.at',u]))(hat:kv.ownBlock=some gg\/gg=Hn)(hn:w.heap.size<=Hn)
 (he:kE e')(hge:e'.does.give=b.2.does.fd.give)(hce:e'.jy<=b.2.jy)(hh:Ba (S+1) m H w kv.ownBlock λw lo hi=>e'.here e'.at' w lo hi u):vZ x S H m w' (k+1) (.slice (some (Ad gg 0)) (fs.length+1) cap) (fs++[(b.1,e')]) (cells++[.string b.1.text,Im b.1.at',u]):=by
 have hcl:cells.length=fs.length * 3:=h.row.1;have L9:∀{Q:jo->Nat->Nat->Prop},Ba (S+1) m H w kv.ownBlock Q->Ba (S+1) m H w' (Value.slice (some (Ad gg 0)) (fs.length+1) cap).ownBlock Q:=λhq=>by
  refine hq.later (aj _) hg.size (λk k1 k2=>hg.block k (by omega) λe=>?_) (λk k1 k2 k3=>hg.block k k2 k3) ?_
  .have:=(h.row.lt k e.symm).1;omega
  .rcases hat with h1|h1
   .exact ji (by rw[h1];rfl)
   .exact jh ⟨gg,rfl,by omega⟩
 refine⟨by rw[aA];exact hown,λj d hd=>?_,λd hd=>?_,?_,?_,?_⟩
 .rcases dG j fs.length with hj|hj
  .rw[aT hj]at hd;obtain⟨u',e1,e2,e3,e4⟩:=h.each j d hd;refine⟨u',?_,?_,?_,L9 e4⟩
   .rw[aT (by omega)];exact e1
   .rw[aT (by omega)];exact e2
   .rw[aT (by omega)];exact e3
  .rw[bW hj]at hd;have hj0:j-fs.length=0:=by
    rcases gJ (j-fs.length)with h0|h0
    .exact h0
    .rw[bV (by simp;omega)]at hd;cases hd
   rw[hj0]at hd;simp only[dw,bJ]at hd;subst hd;have hje:j=fs.length:=by omega
   subst hje;refine⟨u,?_,?_,?_,L9 hh⟩
   .rw[bW (by omega),show fs.length * 3-cells.length=0 by omega];rfl
   .rw[bW (by omega),show fs.length * 3+1-cells.length=1 by omega];rfl
   .rw[bW (by omega),show fs.length * 3+2-cells.length=2 by omega];rfl
 .rcases List.mem_append.1 hd with hd|hd
  .exact h.all d hd
  .rw[cO.1 hd];exact he
 .rw[aa1 hb,ht];have:=h.same;simp only[yL,dF]at this⊢;rw[this];simp only[aH,cZ,dL,iP,List.append_cancel_left_eq,iD,Prod.mk.injEq,true_and,and_true];exact hge
 .have h1:x.jF.take (k+1)=x.jF.take k++[b]:=by rw[fU,hb];rfl
  rw[h1,dF,List.sum_append,dF,List.sum_append];have:=h.sum;simp only[dL,iP,gZ,List.sum_nil];omega
 .have:=h.len;simp only[aA,aF,bg];omega
def DN(x:Sx)(w:jo)(lo m H hi S:Nat):Prop:=
 ∃fs,yL fs x.fold/\(∀b∈fs,kE b.2)/\(fs.map λb=>1+b.2.jy).sum<=(x.jF.map λb=>1+b.2.jy).sum/\fs.length<=x.jF.length/\lo<=S/\S<m/\
  ∀w',o8 w w' lo m H hi->AA {x with jF:=fs} w' lo hi (Pt S 0)
theorem DN.later(h:DN x w lo m H hi S)(ha:o8 w w' lo m H hi):DN x w' lo m H hi S:=by
 obtain⟨fs,h1,h2,h3,h4,h5,h6,h7⟩:=h;exact⟨fs,h1,h2,h3,h4,h5,h6,λw2 hw=>h7 w2 (ha.trans hw)⟩
theorem DN.wide{lo' m' H' hi':Nat}(h:DN x w lo m H hi S)(h1:lo'<=lo)(h2:m<=m')(h3:H'<=H)(h4:hi<=hi'):DN x w lo' m' H' hi' S:=by
 obtain⟨fs,e1,e2,e3,e4,e5,e6,e7⟩:=h;exact⟨fs,e1,e2,e3,e4,by omega,by omega,λw2 hw=>(EL λb hb a=>(e2 b hb).ok.law a).wide _ _ _ _ _ _ (e7 w2 (hw.less h1 h2 h3 h4)) h1 h4⟩
theorem vZ.done{kv fv:jr}{fs:List (Wd×Ex)}{cells:List jr}(h:vZ x S H m wr x.jF.length kv fs cells)(h1:lo<=S)(h2:S<hi)(hm:m<=hi)(hH:hi<=H)(hs:H<=wr.heap.size)(hb:wr.heap[S]? =some (.cells #[Im x.at',Im x.jy,.string x.base,Im x.of,fv] 348)):
 DN x (wr.setCell (Ad S 4) kv) lo hi H (wr.setCell (Ad S 4) kv).heap.size S:=by
 have g:=mX wr S 4 kv;have hb2:(wr.setCell (Ad S 4) kv).heap[S]? =some (.cells #[Im x.at',Im x.jy,.string x.base,Im x.of,kv] 348):=aK _ _ _ _ _ _ hb;have hfull:x.jF.take x.jF.length=x.jF:=eU (aj _);have hsame:=h.same;have hsum:=h.sum;rw[hfull]at hsame hsum;refine⟨fs,hsame,h.all,hsum,h.len,h1,h2,λw' ha=>⟨S,kv,rfl,h1,by have:=g.size;omega,(ha S (ji ⟨h1,h2⟩)).trans hb2,?_⟩⟩;have hag:∀j,j≠S->(lo<=j/\j<hi)\/(H<=j/\j<wr.heap.size)->w'.heap[j]? =wr.heap[j]? :=λj hj hk=>(ha j (by have:=g.size;omega)).trans (qU j hj);obtain⟨ka,kc,hkv⟩:=Wx h.row;cases hka:ka with
 |none=>
  subst hkv hka;refine ji ?_;rcases h.row.2 with⟨h1,h2⟩|⟨_,_,_,h1,_⟩
  .exact⟨dW h2,h1⟩
  .cases h1
 |some ad=>
  subst hkv hka;have hrow:=h.row;obtain⟨gb,hgb⟩:∃gb,ad=(Ad gb 0):=by
   rcases hrow.2 with⟨h1,_⟩|⟨g',_,_,h1,_⟩
   .cases h1
   .cases h1;exact⟨g',rfl⟩
  subst hgb;obtain⟨cur,c1,c2,c3⟩:=aeb hrow;have hlt:=(hrow.lt gb rfl).2;refine jh ⟨gb,kc,cur,rfl,by omega,by have:=g.size;omega,(hag gb (by omega) (jh ⟨c1,hlt⟩)).trans c2,λk d hd=>?_⟩;obtain⟨u,e1,e2,e3,l1,m1,H1,y1,k1,k2,k3,k4,k5,k6⟩:=h.each k d hd;refine⟨u,c3 _ _ e1,c3 _ _ e2,c3 _ _ e3,?_⟩;have hgd:=h.all d (bT hd);have hd2:=k6 w' λj hj=>hag j (by omega) (by omega);exact(hgd.ok.law _).wide _ _ _ _ _ _ hd2 (by omega) (by have:=g.size;omega)
end
end
end Go.Proofs.YthllhabjfchgiaaGreatDoor
