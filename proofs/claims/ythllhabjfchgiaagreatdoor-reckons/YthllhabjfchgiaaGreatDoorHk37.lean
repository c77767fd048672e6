import Derived.Test.YthllhabjfchgiaaGreatDoorHk36
set_option maxRecDepth 100000
set_option maxHeartbeats 8000000
set_option linter.unusedSimpArgs false
namespace Go.Proofs.YthllhabjfchgiaaGreatDoor
open _root_.Go.Proofs.Tryz
section
open Go.RowKit Hx
attribute [local go_sem ↓] Go.wp_at_zero Go.wp_at_succ
attribute [local go_sem] kP
attribute [local simp] aN
section
variable {w w' w1 w2 w3:jk}{lo hi m b H:Nat}{u v:jm}{e l r:Ex}{a:Int}{T:jo}{c:Co}
theorem aps{k o:Int}(h:0<=k/\k<=1000001)(g:0<=o/\o<=1000001):k<=jR [k,o]/\o<=jR [k,o]:=by
 unfold jR lu;simp only[bP,eF];omega
theorem agO(kind:Int)(sign:ji)(l r:oM):CJ kind sign l r=
 if l.known&&r.known then sF kind (if (lF sign.data.toList).2 then two (lF sign.data.toList).1 r.val l.val else two (lF sign.data.toList).1 l.val r.val)
 else if ((lF sign.data.toList).1==19||(lF sign.data.toList).1==20)&&(l.lq ((lF sign.data.toList).1==20)||r.lq ((lF sign.data.toList).1 !=20))then l
 else if ((lF sign.data.toList).1==19||(lF sign.data.toList).1==20)&&(r.lq ((lF sign.data.toList).1==20)||l.lq ((lF sign.data.toList).1 !=20))then r
 else {give:=λc into=>if (lF sign.data.toList).2 then c.two (lF sign.data.toList).1 into r.dn l.dn else c.two (lF sign.data.toList).1 into l.dn r.dn}:=by
 unfold CJ lF;cases h1:(sign.data.toList==[62])
 .cases h2:(sign.data.toList==[62,61])<;>simp
 .simp
theorem atB(hl:nR l)(hr:nR r)(a0 kind:Int)(sign:ji):nR (kK a0 kind sign l r):=by
 have lc:=hl.l7.ok.jw;have rc:=hr.l7.ok.jw;refine⟨agP hl.l7 hr.l7 a0 kind sign,?_⟩;rintro a w lo hi T b ⟨b',us,hv,h1,h2,⟨m,u,v,rfl,hm1,hm2,hu,hv2⟩,hb⟩ hH;cases hv;obtain⟨T1,b1,rfl,hT1,l1,l2,_⟩:=hl.l7.ok.head _ _ _ _ _ hu;obtain⟨T2,b2,rfl,hT2,l3,l4,_⟩:=hr.l7.ok.head _ _ _ _ _ hv2;obtain⟨f1,m1,kM,_⟩:=hl.fold _ _ _ _ _ _ hu (by omega);obtain⟨f2,m2,qp,_⟩:=hr.fold _ _ _ _ _ _ hv2 (by omega);have DW:Hid (∀y,w.drew.grownBy y none->Calls prog f1 #[Pt b1 0] y λen w1=>∃T3 b3,en=.returned (.iface T3 (Pt b3 0))/\Hid (mJ l.does.fd l.jw w1 lo m w.heap.size w1.heap.size (.iface T3 (Pt b3 0))/\Fk w w1 lo m)):=λy hy=>by
  have g0:w.grownBy y none:=(Dj (aN w none)).trans hy;have sy:=g0.size;obtain⟨f,m',_,HC⟩:=hl.fold _ y _ _ _ _ ((hl.l7.ok.law _).loc _ _ _ _ _ hu λk _ k2=>g0.block k (by omega) (by simp)) (by omega);obtain rfl:f=f1:=by
   have h:=(m' w).symm.trans (m1 w);simp only[Result.ok.injEq,Prod.mk.injEq,and_true]at h;exact h
  refine HC.mono ?_;rintro en w1 ⟨v',rfl,hF,hK⟩;obtain⟨T3,b3,hv3⟩:=hF.form;subst hv3;exact⟨T3,b3,rfl,hF.wide (aj _) (aj _) sy (aj _) (aV _),(Fk.grown g0).trans hK⟩
 have HF2:Hid (∀w1 y,Fk w w1 lo m->w1.grownBy y none->Calls prog f2 #[Pt b2 0] y λen w2=>∃T4 b4,en=.returned (.iface T4 (Pt b4 0))/\Hid (mJ r.does.fd r.jw w2 m b w1.heap.size w2.heap.size (.iface T4 (Pt b4 0))/\Fk w1 w2 m b)):=λw1 y hk hy=>by
  have sy:=hy.size;have s1:=hk.size;obtain⟨f,m',_,HC⟩:=hr.fold _ y _ _ _ _ ((hr.l7.ok.law _).loc _ _ _ _ _ hv2 λk k1 k2=>(hy.block k (by omega) (by simp)).trans (hk.keep k (by omega) (by omega))) (by omega);obtain rfl:f=f2:=by
   have h:=(m' w).symm.trans (m2 w);simp only[Result.ok.injEq,Prod.mk.injEq,and_true]at h;exact h
  refine HC.mono ?_;rintro en w2 ⟨v',rfl,hF,hK⟩;obtain⟨T4,b4,hv4⟩:=hF.form;subst hv4;exact⟨T4,b4,rfl,hF.wide (aj _) (aj _) sy (aj _) (aV _),(Fk.grown hy).trans hK⟩
 have kM:∀args w,(callFunc f1 args).run prog w=.ok (.enter f1 args) w:=kM;have qp:∀args w,(callFunc f2 args).run prog w=.ok (.enter f2 args) w:=qp;have c3:w.cell? (Ad b 4)=some (.iface T1 (Pt b1 0)):=jI hb;have c4:w.cell? (Ad b 5)=some (.iface T2 (Pt b2 0)):=jI hb;have HB:=jA hb;have hbw:b<w.heap.size:=by omega
 have HC:Hid (∀w1,Fk w w1 lo m->w1.cell? (Ad b 5)=some (.iface T2 (Pt b2 0))/\w1.cell? (Ad b 4)=some (.iface T1 (Pt b1 0))/\∀j,w1.frozen? (Ad b j)=false):=λw1 hk=>by
  have hb1:=(hk.keep b hbw (by omega)).trans HB.out;exact⟨jI hb1,jI hb1,λj=>oQ hb1⟩
 have HC2:Hid (∀w1 w2,Fk w w1 lo m->Fk w1 w2 m b->w2.cell? (Ad b 5)=some (.iface T2 (Pt b2 0))/\w2.cell? (Ad b 4)=some (.iface T1 (Pt b1 0))/\∀j,w2.frozen? (Ad b j)=false):=λw1 w2 hk hk2=>by
  have s1:=hk.size;have hb1:=(hk2.keep b (by omega) (by omega)).trans ((hk.keep b hbw (by omega)).trans HB.out);exact⟨jI hb1,jI hb1,λj=>oQ hb1⟩
 refine⟨353,λw=>by kernel_rfl,λargs w=>by kernel_rfl,?_⟩;clear hu hv2 hb;go_enter func353,ntmps353;go_upto_region 1 with fail;go_cut [] (λwx=>Hid (∃(w1 w2:jk)(T3:jo)(b3:Nat)(T4:jo)(b4:Nat),(mJ l.does.fd l.jw w1 lo m w.heap.size w1.heap.size (.iface T3 (Pt b3 0))/\Fk w w1 lo m)/\(mJ r.does.fd r.jw w2 m b w1.heap.size w2.heap.size (.iface T4 (Pt b4 0))/\Fk w1 w2 m b)/\wx=((w2.setCell (Ad b 4) (.iface T3 (Pt b3 0))).setCell (Ad b 5) (.iface T4 (Pt b4 0)))))
 case first=>
  refine YT (f:=10) (λ_=>True) [0,1,2,3,4,7,8,9] #[true,true,true,true,true,false,false,true,true,true,false,false,false,false,false,false,false,false] (λl=>l.take 5++(l.drop 7).take 3) (by kernel_rfl) (by kernel_rfl) (by kernel_rfl) (by kernel_rfl) (by kernel_rfl) (by kernel_rfl) trivial (λ_=>?_);simp only[aC,aO,aG,aQ,bZ,dP]
  iterate 8
   (refine yO.cons (v:=?_) (by rfl) (λw hSw=>?_) ?_
    rotate_left
    ·(go_simp;first|done|with_reducible rfl)
    simp only[Act.put,ak,au,ay])
  refine yO.nil ?_;refine aP (rs:=[5,10]) (by kernel_rfl) (by simp) (lV rfl (λK hK=>?a1) (lV rfl (λK hK=>?b1) aJ));all_goals
   go_simp;refine hK.out _ _ trivial (λ_=>?_);clear hK K;try simp only[ak,au,ay]
  case' a1=>refine aP (rs:=[6,10]) (by kernel_rfl) (by simp) (lV rfl (λK hK=>?c1) (lV rfl (λK hK=>?d1) aJ))
  case' b1=>
   refine aP (rs:=[5]) (by kernel_rfl) (by simp) (lV rfl (λK hK=>?_) aJ);go_simp;refine hK.out _ _ trivial (λ_=>?_);clear hK K;try simp only[ak,au,ay]
   refine aP (rs:=[6]) (by kernel_rfl) (by simp) (lV rfl (λK hK=>?_) aJ);go_simp
  case' d1=>
   go_simp;refine hK.out _ _ trivial (λ_=>?_);clear hK K;try simp only[ak,au,ay]
   refine aP (rs:=[6]) (by kernel_rfl) (by simp) (lV rfl (λK hK=>?_) aJ);go_simp
  case' c1=>go_simp
  all_goals
   refine(DW.out _ (aN _ _)).mono ?_;rintro en w1 ⟨T3,b3,rfl,P1⟩;obtain⟨z4,z3,zf⟩:=HC.out w1 P1.out.2;go_wp2_with fail;refine hK.out _ _ trivial (λ_=>?_);clear hK K;try simp only[ak,au,ay]
  case' c1=>
   refine aP (rs:=[10]) (by kernel_rfl) (by simp) (lV rfl (λK hK=>?_) aJ);go_simp;refine hK.out _ _ trivial (λ_=>?_);clear hK K;try simp only[ak,au,ay]
  all_goals
   refine aP (rs:=[11]) (by kernel_rfl) (by simp) (lV rfl (λK hK=>?_) aJ);go_simp;refine(HF2.out w1 _ P1.out.2 (aN _ _)).mono ?_;rintro en w2 ⟨T4,b4,rfl,P2⟩;obtain⟨y4,y3,yf⟩:=HC2.out w1 w2 P1.out.2 P2.out.2;go_wp2_with fail;refine hK.out _ _ trivial (λ_=>?_);clear hK K;try simp only[ak,au,ay]
   refine aP (rs:=[12]) (by kernel_rfl) (by simp) (lV rfl (λK hK=>?_) aJ);go_simp;refine hK.out _ _ trivial (λ_=>?_);clear hK K;try simp only[ak,au,ay]
   refine aP (rs:=[13]) (by kernel_rfl) (by simp) (lV rfl (λK hK=>?_) aJ);go_simp;refine hK.out _ _ trivial (λ_=>?_);clear hK K;try simp only[ak,au,ay]
   refine aP (rs:=[14]) (by kernel_rfl) (by simp) (lV rfl (λK hK=>?_) aJ);go_simp;refine hK.out _ _ trivial (λ_=>?_);clear hK K;try simp only[ak,au,ay]
   refine aP (rs:=[15]) (by kernel_rfl) (by simp) (lV rfl (λK hK=>?_) aJ);go_simp;refine hK.out _ _ trivial (λ_=>?_);clear hK K;try simp only[ak,au,ay]
   refine aP (rs:=[16]) (by kernel_rfl) (by simp) (lV rfl (λK hK=>?_) aJ);go_simp;refine hK.out _ _ trivial (λ_=>?_);clear hK K;try simp only[ak,au,ay]
   refine aP (rs:=[17]) (by kernel_rfl) (by simp) (lV rfl (λK hK=>?_) aJ);go_simp;refine hK.out _ _ trivial (λ_=>?_);clear hK K;try simp only[ak,au,ay]
   refine wpAnyH_done (by kernel_rfl) ?_ _;refine NoPanic.normal ?_;go_wp2_with fail;go_meet;exact⟨w1,w2,T3,b3,T4,b4,P1.out,P2.out,rfl⟩
 case rest=>
  obtain⟨w1,w2,T3,b3,T4,b4,p1,p2,hW⟩:=hcut.out;have s1:=p1.2.size;have s2:=p2.2.size;have hb2:=(p2.2.keep b (by omega) (by omega)).trans ((p1.2.keep b hbw (by omega)).trans HB.out);have hbW:wc.heap[b]? =some (.cells (Im a::Im (jR [l.jw,r.jw])::Im kind::[.string sign,.iface T3 (Pt b3 0),.iface T4 (Pt b4 0)]).toArray 376):=by
   rw[hW];exact aK _ _ _ _ _ _ (aK _ _ _ _ _ _ hb2)
  have hag:∀j,j≠b->wc.heap[j]? =w2.heap[j]? :=λj hj=>by
   rw[hW];exact(qZ j hj).trans (qZ j hj)
  have hsz:w2.heap.size<=wc.heap.size:=by
   rw[hW];exact dH (nK w2 b 4 _).size (nK _ b 5 _).size
  have hB:=Kv.mk' p1.1 p1.2 p2.1 p2.2 hm1 hm2 (by omega);have hKW:Fk w wc lo hi:=by
   rw[hW];exact((hB.fk.wide (aj _) (by omega)).trans (Fk.set h1 h2)).trans (Fk.set h1 h2)
  clear hcut hW DW HF2 HC HC2 p1 p2;obtain⟨wx,F1,F2,t1,t2⟩:=hB.ex;obtain⟨e1,_,_,x1,X1,y1,z1,g1,g2,g3,g4,g5,g8,g6⟩:=id F1;obtain⟨e2,_,_,x2,X2,y2,z2,k1,k2,k3,k4,k5,k8,k6⟩:=id F2;cases z1;cases z2;have HT1:Hid (∀n,BH l.does.fd l.jw (wc.drewN n) lo wx.heap.size T3 b3 x1 X1 y1):=λn=>(g6 (wc.drewN n) λj hj=>hag j (by omega)).2;have HT2:Hid (∀n,BH r.does.fd r.jw (wc.drewN n) m w2.heap.size T4 b4 x2 X2 y2):=λn=>(k6 (wc.drewN n) λj hj=>hag j (by omega)).2;have Bj:Hid (∀n,Calls prog 340 #[.iface T3 (Pt b3 0)] (wc.drewN n) λe w'=>e=.returned (.tuple #[Im (if l.does.fd.known then l.does.fd.val else 0),.bool l.does.fd.known])/\w'=wc.drewN n):=λn=>YR (HT1.out n);have Bl:Hid (∀n,Calls prog 340 #[.iface T4 (Pt b4 0)] (wc.drewN n) λe w'=>e=.returned (.tuple #[Im (if r.does.fd.known then r.does.fd.val else 0),.bool r.does.fd.known])/\w'=wc.drewN n):=λn=>YR (HT2.out n);have HJ:Hid (∀n strong,Calls prog 360 #[Pt b 0,.bool strong] (wc.drewN n) λe w'=>e=.returned (if l.does.fd.lq strong||r.does.fd.lq (!strong)then .iface T3 (Pt b3 0)else if r.does.fd.lq strong||l.does.fd.lq (!strong)then .iface T4 (Pt b4 0)else .iface 374 (Pt b 0))/\w'=wc.drewN n):=λn strong=>amw (w:=wc.drewN n) (by rw[bH];exact jI hbW) (by rw[bH];exact jI hbW) (λwant=>UH (HT1.out n) want) (λwant=>UH (HT2.out n) want) strong
  have D5:Hid (Calls prog 358 #[Pt b 0] wc λen w'=>∃n,en=.returned (.tuple #[.int .u8 (lF sign.data.toList).1,if (lF sign.data.toList).2 then .iface T4 (Pt b4 0)else .iface T3 (Pt b3 0),if (lF sign.data.toList).2 then .iface T3 (Pt b3 0)else .iface T4 (Pt b4 0)])/\w'=wc.drewN n):=(abz hbW).mono λen w' ⟨q1,n,q2⟩=>⟨n,q1,q2⟩;have HL:Hid (∀(y:jk)(is:Int),wc.grownBy y none->Calls prog 359 #[.agg #[Im a,Im (jR [l.jw,r.jw]),Im kind],Im is] y λen w'=>∃T5 b5,en=.returned (.iface T5 (Pt b5 0))/\Hid (mJ (sF kind is) (jR [l.jw,r.jw]) w' lo hi w.heap.size w'.heap.size (.iface T5 (Pt b5 0))/\Fk w w' lo hi)):=λy is g=>by
   refine(ac5 y a (jR [l.jw,r.jw]) kind is (rG lc rc) (lo:=lo) (m:=hi) (H:=w.heap.size) (by omega) (by have:=g.size;omega)).mono ?_;rintro en w' ⟨v',r1,r2,r3⟩;obtain⟨T5,b5,hv5⟩:=r2.form;subst hv5;exact⟨T5,b5,r1,r2,hKW.trans (Fk.grown (g.trans r3))⟩
  have HO:Hid (∀o x y q,Calls prog 158 #[.int .u8 o,Im x,Im y] q λe w'=>e=.returned (Im (two o x y))/\w'=q):=λo x y q=>aem _ _ _ _;have rM:=jA (agO kind sign l.does.fd r.does.fd);have Hd:Hid (∀n,Fk w (wc.drewN n) lo hi/\(mJ l.does.fd (jR [l.jw,r.jw]) (wc.drewN n) lo hi w.heap.size (wc.drewN n).heap.size (.iface T3 (Pt b3 0)))/\(mJ r.does.fd (jR [l.jw,r.jw]) (wc.drewN n) lo hi w.heap.size (wc.drewN n).heap.size (.iface T4 (Pt b4 0)))):=λn=>by
   have g:=lK wc n;have q1:=aps lc rc;refine⟨hKW.trans (Fk.grown g),?_,?_⟩
   .exact(F1.later λj hj=>hag j (by omega)).wide (aj _) (by omega) (aj _) (by have:=g.size;omega) q1.1
   .exact(F2.later λj hj=>hag j (by omega)).wide hm1 (by omega) (by omega) (by have:=g.size;omega) q1.2
  have y0:wc.cell? (Ad b 0)=some (Im a):=jI hbW;have y1':wc.cell? (Ad b 1)=some (Im (jR [l.jw,r.jw])):=jI hbW;have y2':wc.cell? (Ad b 2)=some (Im kind):=jI hbW;have HS:Hid (∀n,CJ kind sign l.does.fd r.does.fd={give:=(λc into=>if (lF sign.data.toList).2 then c.two (lF sign.data.toList).1 into r.does.fd.dn l.does.fd.dn else c.two (lF sign.data.toList).1 into l.does.fd.dn r.does.fd.dn)}->mJ (CJ kind sign l.does.fd r.does.fd) (jR [l.jw,r.jw]) (wc.drewN n) lo hi w.heap.size (wc.drewN n).heap.size (.iface 374 (Pt b 0))):=λn hf=>by
   rw[hf];have g:=lK wc n;refine acU (k:=jR [l.jw,r.jw]) (kind:=kind) (mk:=λus=>.string sign::us) (by simp[lU]) (by unfold yL;decide) h1 h2 hH hm1 hm2 hB (dH hsz g.size) rfl (λj hj=>hag j hj) hbW ?_;intro e3 e4 q1 q2 q3 r1 r2 r3;refine agN q1 r1 a kind sign _ (rG lc rc) (λhk=>by rw[zU lc.1 lc.2 rc.1 rc.2 hk];omega) _ λc into=>?_;show(if (lF sign.data.toList).2 then c.two (lF sign.data.toList).1 into r.does.fd.dn l.does.fd.dn else c.two (lF sign.data.toList).1 into l.does.fd.dn r.does.fd.dn)=(if sign.data.toList==[62]then c.two 15 into e4.does e3.does else if sign.data.toList==[62,61]then c.two 16 into e4.does e3.does else c.two (vC sign.data.toList) into e3.does e4.does);have c1:∀o,c.two o into l.does.fd.dn r.does.fd.dn=c.two o into e3.does e4.does:=λo=>Xf q2.symm r2.symm o into;have c2:∀o,c.two o into r.does.fd.dn l.does.fd.dn=c.two o into e4.does e3.does:=λo=>Xf r2.symm q2.symm o into;rw[c1,c2];unfold lF;cases h1:(sign.data.toList==[62])
   .cases h2:(sign.data.toList==[62,61])<;>simp
   .simp
  clear HT1 HT2 hB F1 F2 g1 g2 g3 g4 g5 g6 g8 k1 k2 k3 k4 k5 k6 k8 hag hsz hKW hbW HB t1 t2 s1 s2 hb2;generalize lF sign.data.toList=wk at *;obtain⟨o,sw⟩:=wk;simp only at D5 rM HS;cases hk:(l.does.fd.known&&r.does.fd.known)with
  |true=>
   obtain⟨hkl,hkr⟩:l.does.fd.known=true/\r.does.fd.known=true:=by simpa using hk
   rw[hkl,hkr]at rM;rw[hkl]at Bj;rw[hkr]at Bl;simp only[Bool.and_self,dM]at Bj Bl rM;clear HJ Hd HS hkl hkr hk;cases sw
   case' false=>have B1:=Bj;have B2:=Bl
   case' true=>have B1:=Bl;have B2:=Bj
   all_goals
    simp only[aH,cZ,dM]at rM;go_wp2_with fail;refine D5.out.mono ?_;rintro en w' ⟨n,rfl,rfl⟩;simp only[aH,cZ,dM];have A1:=jA (B1.out n);have A2:=jA (B2.out n);have AL:Hid (∀(k:Nat)(is:Int),Calls prog 359 #[.agg #[Im a,Im (jR [l.jw,r.jw]),Im kind],Im is] ((wc.drewN n).drewN k) λen w'=>∃T5 b5,en=.returned (.iface T5 (Pt b5 0))/\Hid (mJ (sF kind is) (jR [l.jw,r.jw]) w' lo hi w.heap.size w'.heap.size (.iface T5 (Pt b5 0))/\Fk w w' lo hi)):=λk is=>HL.out _ _ ((lK wc n).trans (lK _ k));have q0:(wc.drewN n).cell? (Ad b 0)=some (Im a):=by rw[bH];exact y0
    have q1:(wc.drewN n).cell? (Ad b 1)=some (Im (jR [l.jw,r.jw])):=by rw[bH];exact y1'
    have q2:(wc.drewN n).cell? (Ad b 2)=some (Im kind):=by rw[bH];exact y2'
    clear Bj Bl B1 B2 HL y0 y1' y2' D5;generalize wc.drewN n=Wn at *;go_wp2_with fail;refine A1.out.mono ?_;rintro e w' ⟨rfl,rfl⟩;go_wp2_with fail;refine A2.out.mono ?_;rintro e w' ⟨rfl,rfl⟩;go_wp2_with fail;refine nP 8 (by kernel_rfl) (by kernel_rfl) ?_;simp only[aC,aO,aG,aQ];repeat (go_big_quiet_step ((go_at_call 158;exact dN (HO.out _ _ _ _))))
    refine bF ?_;intro _ hw';obtain⟨k3,hw''⟩:=hw';subst hw'';go_wp2_with fail;refine(AL.out _ _).mono ?_;rintro en w5 ⟨T5,b5,rfl,HE⟩;go_wp2_with fail;go_ret;refine⟨_,rfl,?_,HE.out.2⟩;show mJ (CJ kind sign l.does.fd r.does.fd) (jR [l.jw,r.jw]) _ _ _ _ _ _;rw[rM.out];exact HE.out.1
  |false=>
   rw[hk]at rM;simp only[aH,cZ]at rM;clear HL y0 y1' y2';cases hkl:l.does.fd.known<;>cases hkr:r.does.fd.known
   case true.true=>rw[hkl,hkr]at hk;cases hk
   all_goals
    rw[hkl]at Bj;rw[hkr]at Bl;clear hkl hkr hk HO;cases sw
    case' false=>have B1:=Bj;have B2:=Bl
    case' true=>have B1:=Bl;have B2:=Bj
    all_goals
     by_cases h19:o=19
     .subst h19;simp only[show((19:Int)==20)=false from rfl,show((19:Int)!=20)=true from rfl]at rM;go_wp2_with fail;refine D5.out.mono ?_;rintro en w' ⟨n,rfl,rfl⟩;simp only[aH,cZ,dM];have A1:=jA (B1.out n);have A2:=jA (B2.out n);have AJ:=jA (HJ.out n false);have AD:=jA (Hd.out n);have AS:=jA (HS.out n);clear HJ Hd HS Bj Bl B1 B2 D5;generalize wc.drewN n=Wn at *;go_wp2_with fail;refine A1.out.mono ?_;rintro e w' ⟨rfl,rfl⟩;go_wp2_with fail;refine A2.out.mono ?_;rintro e w' ⟨rfl,rfl⟩;go_wp2_with fail;simp only[Bool.not_false]at AJ;cases hc1:(l.does.fd.lq false||r.does.fd.lq true)
      .cases hc2:(r.does.fd.lq false||l.does.fd.lq true);all_goals
        rw[hc1,hc2]at AJ rM;simp only[aH,cZ,dM]at AJ rM;clear hc1 hc2;refine AJ.out.mono ?_;rintro e w' ⟨rfl,rfl⟩;go_wp2_with fail;go_ret;refine⟨_,rfl,?_,AD.out.1⟩;show mJ (CJ kind sign l.does.fd r.does.fd) (jR [l.jw,r.jw]) _ _ _ _ _ _;first
         |exact AS.out rM.out
         |(rw[rM.out];exact AD.out.2.2)
      .rw[hc1]at AJ rM;simp only[dM]at AJ rM;clear hc1;refine AJ.out.mono ?_;rintro e w' ⟨rfl,rfl⟩;go_wp2_with fail;go_ret;refine⟨_,rfl,?_,AD.out.1⟩;show mJ (CJ kind sign l.does.fd r.does.fd) (jR [l.jw,r.jw]) _ _ _ _ _ _;rw[rM.out];exact AD.out.2.1
     .by_cases h20:o=20
      .subst h20;simp only[show((20:Int)==20)=true from rfl,show((20:Int)!=20)=false from rfl]at rM;go_wp2_with fail;refine D5.out.mono ?_;rintro en w' ⟨n,rfl,rfl⟩;simp only[aH,cZ,dM];have A1:=jA (B1.out n);have A2:=jA (B2.out n);have AJ:=jA (HJ.out n true);have AD:=jA (Hd.out n);have AS:=jA (HS.out n);clear HJ Hd HS Bj Bl B1 B2 D5;generalize wc.drewN n=Wn at *;go_wp2_with fail;refine A1.out.mono ?_;rintro e w' ⟨rfl,rfl⟩;go_wp2_with fail;refine A2.out.mono ?_;rintro e w' ⟨rfl,rfl⟩;go_wp2_with fail;simp only[jc]at AJ;cases hc1:(l.does.fd.lq true||r.does.fd.lq false)
       .cases hc2:(r.does.fd.lq true||l.does.fd.lq false);all_goals
         rw[hc1,hc2]at AJ rM;simp only[aH,cZ,dM]at AJ rM;clear hc1 hc2;refine AJ.out.mono ?_;rintro e w' ⟨rfl,rfl⟩;go_wp2_with fail;go_ret;refine⟨_,rfl,?_,AD.out.1⟩;show mJ (CJ kind sign l.does.fd r.does.fd) (jR [l.jw,r.jw]) _ _ _ _ _ _;first
          |exact AS.out rM.out
          |(rw[rM.out];exact AD.out.2.2)
       .rw[hc1]at AJ rM;simp only[dM]at AJ rM;clear hc1;refine AJ.out.mono ?_;rintro e w' ⟨rfl,rfl⟩;go_wp2_with fail;go_ret;refine⟨_,rfl,?_,AD.out.1⟩;show mJ (CJ kind sign l.does.fd r.does.fd) (jR [l.jw,r.jw]) _ _ _ _ _ _;rw[rM.out];exact AD.out.2.1
      .have n19:(o==19)=false:=by simpa using h19
       have n20:(o==20)=false:=by simpa using h20
       simp only[n19,n20,Bool.or_self,gK,aH,cZ]at rM;go_wp2_with fail;refine D5.out.mono ?_;rintro en w' ⟨n,rfl,rfl⟩;simp only[aH,cZ,dM];have A1:=jA (B1.out n);have A2:=jA (B2.out n);have AD:=jA (Hd.out n);have AS:=jA (HS.out n);clear HJ Hd HS Bj Bl B1 B2 D5;generalize wc.drewN n=Wn at *;go_wp2_with fail;refine A1.out.mono ?_;rintro e w' ⟨rfl,rfl⟩;go_wp2_with fail;refine A2.out.mono ?_;rintro e w' ⟨rfl,rfl⟩;go_wp2_with fail;go_ret;refine⟨_,rfl,?_,AD.out.1⟩;exact AS.out rM.out
end
end
section
open Go.RowKit Hx
theorem afZ(u:List UInt8):(10<=(lF u).1/\(lF u).1<=20)/\((kE u).2=1\/(kE u).2=2)/\((kE u).1=0\/(kE u).1=1\/(kE u).1=2)/\
 ((kE u).2=2->15<=(lF u).1)/\((kE u).2=2->(lF u).1=19\/(lF u).1=20->(kE u).1=2)/\((kE u).1=2->(kE u).2=2/\((lF u).1=19\/(lF u).1=20))/\((lF u).1=19\/(lF u).1=20->(lF u).2=false)/\((kE u).1=0->(lF u).1=17\/(lF u).1=18):=by
 unfold lF kE vC;by_cases h0:(u==[124,124])=true
 .have:u=[124,124]:=by simpa using h0
  subst this
  decide
 by_cases h1:(u==[38,38])=true
 .have:u=[38,38]:=by simpa using h1
  subst this
  decide
 by_cases h2:(u==[61,61])=true
 .have:u=[61,61]:=by simpa using h2
  subst this
  decide
 by_cases h3:(u==[33,61])=true
 .have:u=[33,61]:=by simpa using h3
  subst this
  decide
 by_cases h4:(u==[60])=true
 .have:u=[60]:=by simpa using h4
  subst this
  decide
 by_cases h5:(u==[60,61])=true
 .have:u=[60,61]:=by simpa using h5
  subst this
  decide
 by_cases h6:(u==[62])=true
 .have:u=[62]:=by simpa using h6
  subst this
  decide
 by_cases h7:(u==[62,61])=true
 .have:u=[62,61]:=by simpa using h7
  subst this
  decide
 simp only[h0,h1,h2,h3,h4,h5,h6,h7,aH,cZ];repeat' split
 all_goals simp
theorem aek(v:Vw)(o a b:Int)(ho:10<=o/\o<=20):outcome v o a b=two o a b:=by
 unfold outcome;rw[jg (by omega),jg (by omega),jg (by omega),jg (by omega),jg (by omega),jg (by omega),jg (by omega),jg (by omega),jg (by omega)]
theorem Lc:∀a b:Int,a=0\/a=1->b=0\/b=1->(bits .and .i64 a b=0\/bits .and .i64 a b=1)/\(bits .or .i64 a b=0\/bits .or .i64 a b=1)/\bits .and .i64 0 b=0/\bits .and .i64 a 1=a/\bits .and .i64 1 b=b/\bits .and .i64 a 0=0/\bits .or .i64 1 b=1/\bits .or .i64 a 0=a/\bits .or .i64 0 b=b/\bits .or .i64 a 1=1:=by
 intro a b ha hb;rcases ha with rfl|rfl<;>rcases hb with rfl|rfl<;>decide
theorem Rq(o a b:Int)(h15:15<=o/\o<=20)(h:o=19\/o=20->(a=0\/a=1)/\(b=0\/b=1)):two o a b=0\/two o a b=1:=by
 unfold two;rw[jg (by omega),jg (by omega),jg (by omega),jg (by omega),jg (by omega)];split
 .exact EK _
 .split
  .exact EK _
  .split
   .exact EK _
   .split
    .exact EK _
    .split
     .rename_i h19;obtain⟨h1,h2⟩:=h (jf h19);exact(Lc a b h1 h2).1
     .split
      .rename_i h20;obtain⟨h1,h2⟩:=h (je h20);exact(Lc a b h1 h2).2.1
      .exact jf rfl
theorem atD{a kind:Int}{sign:ji}{l r:Ex}{z z':Sz}{f f':Val}(hl:MX l z f)(hr:MX r z' f'){ck:Ck}(hk:lg (kK a kind sign l r) ck):lg l ck/\lg r ck/\l.does.jW ck.jy=ra sign (l.does.jW ck.jy)/\r.does.jW ck.jy=ra sign (l.does.jW ck.jy)/\(kK a kind sign l r).does.look ck=ck:=by
 have hk:=hk;have e0:(kK a kind sign l r).does.look ck=(r.does.look ((l.does.look ck).want (l.does.jW ck.jy) l.at' (ra sign (l.does.jW ck.jy)))).want (r.does.jW ((l.does.look ck).want (l.does.jW ck.jy) l.at' (ra sign (l.does.jW ck.jy))).jy) r.at' (ra sign (l.does.jW ck.jy)):=rfl;obtain⟨q1,q2,q3⟩:=Aa hk;have q4:=hr.look _ q3;have q5:((l.does.look ck).want (l.does.jW ck.jy) l.at' (ra sign (l.does.jW ck.jy))).en=0:=by
  have q3':=q3;rw[q4]at q3';exact q3'
 obtain⟨q0,q6,q7⟩:=Aa q5;have q8:=hl.look ck q7;rw[q6,q8]at q3 q4 q1;rw[e0,q2,q6,q8];exact⟨q7,q3,q0,q1,q4⟩
theorem asD(sign:ji)(left:Int):ra sign left=1\/ra sign left=2:=by
 obtain⟨_,_,h3,_⟩:=afZ sign.data.toList;unfold ra;split
 .split<;>omega
 .omega
theorem UZ{e:Ex}{z:Sz}{f:Val}(h:MX e z f)(hk:e.does.fd.known=true){ck:Ck}(hl:lg e ck):jJ e.does.fd.val/\(∀en v σ,qC ck en σ->nM v->f en v σ=e.does.fd.val)/\(e.does.jW ck.jy=2->e.does.fd.val=0\/e.does.fd.val=1):=by
 have hk:e.does.fd.tag=1\/e.does.fd.tag=2:=by simpa [Hx.oM.known]using hk
 rcases hk with hk|hk
 .obtain⟨q1,q2,q3⟩:=h.EJ hk ck hl;exact⟨q1,q2,λh=>by omega⟩
 .obtain⟨q1,q2,q3⟩:=h.DJ hk ck hl;refine⟨?_,q2,λ_=>q1⟩;rcases q1 with q1|q1<;>rw[q1]<;>(unfold jJ;omega)
theorem zO{e:Ex}{z:Sz}{f:Val}(h:MX e z f){b:Bool}(hk:e.does.fd.lq b=true){ck:Ck}(hl:lg e ck):(∀en v σ,qC ck en σ->nM v->f en v σ=if b then 1 else 0)/\e.does.jW ck.jy≠1:=by
 have hk:e.does.fd.tag=2/\e.does.fd.val=if b then 1 else 0:=by simpa [Hx.oM.lq]using hk
 obtain⟨q1,q2,q3⟩:=h.DJ hk.1 ck hl;exact⟨λen v σ ht hv=>by rw[q2 en v σ ht hv,hk.2],q3⟩
theorem qL{t t':Int}{l r:Ex}{f:Val}(hl:QF t l f){f':Val}(hr:QF t' r f')(a:Int)(sign:ji):QF (t+1+t') (kK a (kE sign.data.toList).2 sign l r) (λen v σ=>if (lF sign.data.toList).2 then outcome v (lF sign.data.toList).1 (f' en v σ) (f en v σ)else outcome v (lF sign.data.toList).1 (f en v σ) (f' en v σ)):=by
 obtain⟨z,h1,h2⟩:=hl;obtain⟨z',k1,k2⟩:=hr;obtain⟨s1,s2,s3,s4,s5,s6,s7,s8⟩:=afZ sign.data.toList;have Az:(kK a (kE sign.data.toList).2 sign l r).does.give=λc into=>if (lF sign.data.toList).2 then c.two (lF sign.data.toList).1 into r.does l.does else c.two (lF sign.data.toList).1 into l.does r.does:=by
  funext c into
  show(if sign.data.toList==[62]then c.two 15 into r.does l.does else if sign.data.toList==[62,61]then c.two 16 into r.does l.does else c.two (vC sign.data.toList) into l.does r.does)=_;unfold lF;split
  .rfl
  .split<;>rfl
 have hfd:(kK a (kE sign.data.toList).2 sign l r).does.fd=CJ (kE sign.data.toList).2 sign l.does.fd r.does.fd:=rfl;rw[agO]at hfd;have hkind:∀ck:Ck,(kK a (kE sign.data.toList).2 sign l r).does.jW ck.jy=(kE sign.data.toList).2:=λ_=>rfl;have hlk:=λck (hk:lg (kK a (kE sign.data.toList).2 sign l r) ck)=>atD h1 k1 hk;have hside:∀ck,lg (kK a (kE sign.data.toList).2 sign l r) ck->((lF sign.data.toList).1=19\/(lF sign.data.toList).1=20)->(l.does.jW ck.jy≠1\/r.does.jW ck.jy≠1)->l.does.jW ck.jy=2/\r.does.jW ck.jy=2/\(kE sign.data.toList).2=2:=λck hk ho hne=>by
  obtain⟨_,_,q3,q4,_⟩:=hlk ck hk;have q5:=asD sign (l.does.jW ck.jy);have q6:ra sign (l.does.jW ck.jy)=2:=by omega
  refine⟨by omega,by omega,?_⟩;rcases s2 with h|h
  .exfalso
   have h3:(kE sign.data.toList).1≠2:=λe=>by have:=(s6 e).1;omega
   have h4:(kE sign.data.toList).1≠0:=λe=>by have:=s8 e;omega
   unfold ra at q6;rw[jg h4]at q6;omega
  .exact h
 generalize hwk:lF sign.data.toList=wk at *;obtain⟨o,sw⟩:=wk;simp only at s1 s4 s5 s6 s7 s8 Az hfd hside;have ho:Ah o:=jf s1;generalize hkd:(kE sign.data.toList).2=kind at *;have g4:=h2.jC;have g5:=h2.jL;have g6:=k2.jC;have g7:=k2.jL;have g8:=h2.wide;have g9:=k2.wide;have hF:∀en v σ,(if sw then outcome v o (f' en v σ) (f en v σ)else outcome v o (f en v σ) (f' en v σ))=if sw then two o (f' en v σ) (f en v σ)else two o (f en v σ) (f' en v σ):=λen v σ=>by
  rw[aek v o _ _ s1,aek v o _ _ s1]
 have hcg:uy (λen v σ=>if sw then outcome v o (f' en v σ) (f en v σ)else outcome v o (f en v σ) (f' en v σ)):=λen v σ τ hh=>by
  show(if sw then outcome v o (f' en v σ) (f en v σ)else outcome v o (f en v σ) (f' en v σ))=if sw then outcome v o (f' en v τ) (f en v τ)else outcome v o (f en v τ) (f' en v τ);rw[h1.give.pJ en v σ τ hh,k1.give.pJ en v σ τ hh]
 have hcode:∀{g g':Co->Int->Co×Int},Mx (lg (kK a kind sign l r)) g z f->Mx (lg (kK a kind sign l r)) g' z' f'->Mx (lg (kK a kind sign l r)) (λc into=>if sw then c.two o into {give:=g'} {give:=g}else c.two o into {give:=g} {give:=g'}) ⟨max (max (max z.wide (1+z'.wide)) (max z'.wide (1+z.wide))) 1,max z.deep z'.deep,z.jC+z'.jC+1,z.jL+z'.jL+13⟩ (λen v σ=>if sw then outcome v o (f' en v σ) (f en v σ)else outcome v o (f en v σ) (f' en v σ)):=λ{g g'} m1 m2=>by
  cases sw with
  |true=>
   simp only[dM];exact(Qh m2 m1 ho).grow (by show max (max z'.wide (1+z.wide)) 1<=max (max (max z.wide (1+z'.wide)) (max z'.wide (1+z.wide))) 1;omega) (by show max z'.deep z.deep<=max z.deep z'.deep;omega) (by show z'.jC+z.jC+1<=z.jC+z'.jC+1;omega) (by show z'.jL+z.jL+13<=z.jL+z'.jL+13;omega)
  |false=>
   simp only[aH,cZ];exact(Qh m1 m2 ho).grow (by show max (max z.wide (1+z'.wide)) 1<=max (max (max z.wide (1+z'.wide)) (max z'.wide (1+z.wide))) 1;omega) (aj _) (aV _) (aV _)
 have hgr:∀{P:Ck->Prop}{g:Co->Int->Co×Int}{zz:Sz}{ff:Val},Mx P g zz ff->(zz=z\/zz=z')->Mx P g ⟨max (max (max z.wide (1+z'.wide)) (max z'.wide (1+z.wide))) 1,max z.deep z'.deep,z.jC+z'.jC+1,z.jL+z'.jL+13⟩ ff:=λ{P g zz ff} m hz=>by
  rcases hz with rfl|rfl
  .exact m.grow (by show zz.wide<=max (max (max zz.wide (1+z'.wide)) (max z'.wide (1+zz.wide))) 1;omega) (by show zz.deep<=max zz.deep z'.deep;omega) (by show zz.jC<=zz.jC+z'.jC+1;omega) (by show zz.jL<=zz.jL+z'.jL+13;omega)
  .exact m.grow (by show zz.wide<=max (max (max z.wide (1+zz.wide)) (max zz.wide (1+z.wide))) 1;omega) (by show zz.deep<=max z.deep zz.deep;omega) (by show zz.jC<=z.jC+zz.jC+1;omega) (by show zz.jL<=z.jL+zz.jL+13;omega)
 have hty:∀ck en v σ,lg (kK a kind sign l r) ck->qC ck en σ->nM v->jJ (if sw then outcome v o (f' en v σ) (f en v σ)else outcome v o (f en v σ) (f' en v σ))/\(kind=2->(if sw then outcome v o (f' en v σ) (f en v σ)else outcome v o (f en v σ) (f' en v σ))=0\/(if sw then outcome v o (f' en v σ) (f en v σ)else outcome v o (f en v σ) (f' en v σ))=1):=λck en v σ hk ht hv=>by
  obtain⟨p1,p2,p3,p4,_⟩:=hlk ck hk;obtain⟨y1,y2⟩:=h1.ty ck en v σ p1 ht hv;obtain⟨x1,x2⟩:=k1.ty ck en v σ p2 ht hv;rw[hF];refine⟨by split<;>exact UA _ _ _ (by assumption),λhkk=>?_⟩;have G7:o=19\/o=20->(f en v σ=0\/f en v σ=1)/\(f' en v σ=0\/f' en v σ=1):=λUo=>by
   have h5:=s5 hkk Uo;have hs:ra sign (l.does.jW ck.jy)=2:=by unfold ra;rw[jg (by omega)];exact h5
   exact⟨y2 (by omega),x2 (by omega)⟩
  split
  .exact Rq o _ _ ⟨s4 hkk,s1.2⟩ λh=>⟨(G7 h).2,(G7 h).1⟩
  .exact Rq o _ _ ⟨s4 hkk,s1.2⟩ G7
 have Pv:∀ck,lg (kK a kind sign l r) ck->(((o==19||o==20)&&(l.does.fd.lq (o==20)||r.does.fd.lq (o !=20)))=true)->(l.does.jW ck.jy=2/\kind=2)/\∀en v σ,qC ck en σ->nM v->f en v σ=if sw then outcome v o (f' en v σ) (f en v σ)else outcome v o (f en v σ) (f' en v σ):=λck hk hj=>by
  obtain⟨p1,p2,_⟩:=hlk ck hk;simp only[dD,iU]at hj;have ho2:o=19\/o=20:=by simpa using hj.1
  have hsw:=s7 ho2;have hne:=hj.2.elim (λh=>jf (zO h1 h p1).2) (λh=>je (zO k1 h p2).2);obtain⟨d1,d2,d3⟩:=hside ck hk ho2 hne;refine⟨⟨d1,d3⟩,λen v σ ht hv=>?_⟩;have yb:=(h1.ty ck en v σ p1 ht hv).2 d1;have xb:=(k1.ty ck en v σ p2 ht hv).2 d2;obtain⟨w1,w2,w3,w4,w5,w6,w7,w8,w9,w10⟩:=Lc _ _ yb xb;rw[hF,hsw];simp only[aH,cZ];rcases ho2 with rfl|rfl
  .have e2:two 19 (f en v σ) (f' en v σ)=bits .and .i64 (f en v σ) (f' en v σ):=by simp[two]
   rw[e2];rcases hj.2 with h|h
   .have hv0:f en v σ=0:=by simpa using (zO h1 h p1).1 en v σ ht hv
    rw[hv0,w3]
   .have hv0:f' en v σ=1:=by simpa using (zO k1 h p2).1 en v σ ht hv
    rw[hv0,w4]
  .have e2:two 20 (f en v σ) (f' en v σ)=bits .or .i64 (f en v σ) (f' en v σ):=by simp[two]
   rw[e2];rcases hj.2 with h|h
   .have hv0:f en v σ=1:=by simpa using (zO h1 h p1).1 en v σ ht hv
    rw[hv0,w7]
   .have hv0:f' en v σ=0:=by simpa using (zO k1 h p2).1 en v σ ht hv
    rw[hv0,w8]
 have Px:∀ck,lg (kK a kind sign l r) ck->(((o==19||o==20)&&(r.does.fd.lq (o==20)||l.does.fd.lq (o !=20)))=true)->(r.does.jW ck.jy=2/\kind=2)/\∀en v σ,qC ck en σ->nM v->f' en v σ=if sw then outcome v o (f' en v σ) (f en v σ)else outcome v o (f en v σ) (f' en v σ):=λck hk hj=>by
  obtain⟨p1,p2,_⟩:=hlk ck hk;simp only[dD,iU]at hj;have ho2:o=19\/o=20:=by simpa using hj.1
  have hsw:=s7 ho2;have hne:=hj.2.elim (λh=>je (zO k1 h p2).2) (λh=>jf (zO h1 h p1).2);obtain⟨d1,d2,d3⟩:=hside ck hk ho2 hne;refine⟨⟨d2,d3⟩,λen v σ ht hv=>?_⟩;have yb:=(h1.ty ck en v σ p1 ht hv).2 d1;have xb:=(k1.ty ck en v σ p2 ht hv).2 d2;obtain⟨w1,w2,w3,w4,w5,w6,w7,w8,w9,w10⟩:=Lc _ _ yb xb;rw[hF,hsw];simp only[aH,cZ];rcases ho2 with rfl|rfl
  .have e2:two 19 (f en v σ) (f' en v σ)=bits .and .i64 (f en v σ) (f' en v σ):=by simp[two]
   rw[e2];rcases hj.2 with h|h
   .have hv0:f' en v σ=0:=by simpa using (zO k1 h p2).1 en v σ ht hv
    rw[hv0,w6]
   .have hv0:f en v σ=1:=by simpa using (zO h1 h p1).1 en v σ ht hv
    rw[hv0,w5]
  .have e2:two 20 (f en v σ) (f' en v σ)=bits .or .i64 (f en v σ) (f' en v σ):=by simp[two]
   rw[e2];rcases hj.2 with h|h
   .have hv0:f' en v σ=1:=by simpa using (zO k1 h p2).1 en v σ ht hv
    rw[hv0,w10]
   .have hv0:f en v σ=0:=by simpa using (zO h1 h p1).1 en v σ ht hv
    rw[hv0,w9]
 have Uj:∀ck,lg (kK a kind sign l r) ck->(l.does.fd.known&&r.does.fd.known)=true->jJ (if sw then two o r.does.fd.val l.does.fd.val else two o l.does.fd.val r.does.fd.val)/\(kind=2->(if sw then two o r.does.fd.val l.does.fd.val else two o l.does.fd.val r.does.fd.val)=0\/(if sw then two o r.does.fd.val l.does.fd.val else two o l.does.fd.val r.does.fd.val)=1)/\∀en v σ,qC ck en σ->nM v->(if sw then outcome v o (f' en v σ) (f en v σ)else outcome v o (f en v σ) (f' en v σ))=if sw then two o r.does.fd.val l.does.fd.val else two o l.does.fd.val r.does.fd.val:=λck hk hkn=>by
  obtain⟨p1,p2,p3,p4,_⟩:=hlk ck hk;simp only[dD]at hkn;obtain⟨y1,y2,y3⟩:=UZ h1 hkn.1 p1;obtain⟨x1,x2,x3⟩:=UZ k1 hkn.2 p2;refine⟨by split<;>exact UA _ _ _ (by assumption),λhkk=>?_,λen v σ ht hv=>by rw[hF,y2 en v σ ht hv,x2 en v σ ht hv]⟩;have G7:o=19\/o=20->(l.does.fd.val=0\/l.does.fd.val=1)/\(r.does.fd.val=0\/r.does.fd.val=1):=λUo=>by
   have h5:=s5 hkk Uo;have hs:ra sign (l.does.jW ck.jy)=2:=by unfold ra;rw[jg (by omega)];exact h5
   exact⟨y3 (by omega),x3 (by omega)⟩
  split
  .exact Rq o _ _ ⟨s4 hkk,s1.2⟩ λh=>⟨(G7 h).2,(G7 h).1⟩
  .exact Rq o _ _ ⟨s4 hkk,s1.2⟩ G7
 generalize hlv:(if sw then two o r.does.fd.val l.does.fd.val else two o l.does.fd.val r.does.fd.val)=lv at *;have hsz:BG (t+1+t') (kK a kind sign l r) ⟨max (max (max z.wide (1+z'.wide)) (max z'.wide (1+z.wide))) 1,max z.deep z'.deep,z.jC+z'.jC+1,z.jL+z'.jL+13⟩:=by
  have hb:=agB (q:=kK a kind sign l r) h2 k2 rfl;have c3:=h2.tok;have c4:=k2.tok;exact⟨hb.tok,⟨by show 0<=max (max (max z.wide (1+z'.wide)) (max z'.wide (1+z.wide))) 1;omega,by show 2 * max (max (max z.wide (1+z'.wide)) (max z'.wide (1+z.wide))) 1<=t+1+t'+1;omega⟩,hb.jL,hb.jC,hb.jw,hb.all⟩
 have Jr:∀x:Int,x=0\/x=1->Gm (decide (x≠0))=wO x/\(if x=0 then (0:Int)else 1)=x:=λx hx=>by rcases hx with rfl|rfl<;>exact⟨rfl,rfl⟩
 refine⟨_,⟨λck hk=>(hlk ck hk).2.2.2.2,?_,?_,hty,?_,?_,?_⟩,hsz⟩
 .rw[Az];exact hcode (h1.give.of λck hk=>(hlk ck hk).1) (k1.give.of λck hk=>(hlk ck hk).2.1)
 .rw[hfd];cases hkn:(l.does.fd.known&&r.does.fd.known)with
  |true=>
   simp only[dM];refine⟨hcg,λck c into hf hP hw hi=>?_⟩;obtain⟨n1,n2,n3⟩:=Uj ck hP hkn;have hm:Mx (λq=>q=ck) (wO lv) ⟨max (max (max z.wide (1+z'.wide)) (max z'.wide (1+z.wide))) 1,max z.deep z'.deep,z.jC+z'.jC+1,z.jL+z'.jL+13⟩ (λen v σ=>if sw then outcome v o (f' en v σ) (f en v σ)else outcome v o (f en v σ) (f' en v σ)):=U2 hcg ⟨by show 1<=max (max (max z.wide (1+z'.wide)) (max z'.wide (1+z.wide))) 1;omega,by show 1<=z.jC+z'.jC+1;omega,by show 13<=z.jL+z'.jL+13;omega⟩ λwI e'=>by
    subst e';exact⟨n1,n3⟩
   unfold sF;by_cases hk2:kind=2
   .rw[jh hk2];rw[(Jr lv (n2 hk2)).1];exact hm.lay ck c into hf rfl hw hi
   .rw[jg hk2];exact hm.lay ck c into hf rfl hw hi
  |false=>
   simp only[aH,cZ];by_cases hj:((o==19||o==20)&&(l.does.fd.lq (o==20)||r.does.fd.lq (o !=20)))=true
   .rw[jh hj];exact hgr ((h1.fold.of λck hk=>(hlk ck hk).1).eq hcg λck en v σ hk ht hv=>(Pv ck hk hj).2 en v σ ht hv) (jf rfl)
   .rw[jg hj];by_cases hj2:((o==19||o==20)&&(r.does.fd.lq (o==20)||l.does.fd.lq (o !=20)))=true
    .rw[jh hj2];exact hgr ((k1.fold.of λck hk=>(hlk ck hk).2.1).eq hcg λck en v σ hk ht hv=>(Px ck hk hj2).2 en v σ ht hv) (je rfl)
    .rw[jg hj2];exact hcode (h1.fold.of λck hk=>(hlk ck hk).1) (k1.fold.of λck hk=>(hlk ck hk).2.1)
 .intro tg ck hk;obtain⟨p1,p2,_⟩:=hlk ck hk;rw[hkind ck];rw[hfd]at tg⊢;cases hkn:(l.does.fd.known&&r.does.fd.known)with
  |true=>
   rw[hkn]at tg;simp only[dM]at tg⊢;obtain⟨n1,n2,n3⟩:=Uj ck hk hkn;unfold sF at tg⊢;by_cases hk2:kind=2
   .rw[jh hk2]at tg;exact jl tg (by show¬(2:Int)=1;decide)
   .rw[jg hk2];exact⟨n1,n3,by omega⟩
  |false=>
   rw[hkn]at tg;simp only[aH,cZ]at tg⊢;by_cases hj:((o==19||o==20)&&(l.does.fd.lq (o==20)||r.does.fd.lq (o !=20)))=true
   .rw[jh hj]at tg;have:=(h1.EJ tg ck p1).2.2;have:=(Pv ck hk hj).1;omega
   .rw[jg hj]at tg;by_cases hj2:((o==19||o==20)&&(r.does.fd.lq (o==20)||l.does.fd.lq (o !=20)))=true
    .rw[jh hj2]at tg;have:=(k1.EJ tg ck p2).2.2;have:=(Px ck hk hj2).1;omega
    .rw[jg hj2]at tg;exact jl tg (by show¬(0:Int)=1;decide)
 .intro tg ck hk;obtain⟨p1,p2,_⟩:=hlk ck hk;rw[hkind ck];rw[hfd]at tg⊢;cases hkn:(l.does.fd.known&&r.does.fd.known)with
  |true=>
   rw[hkn]at tg;simp only[dM]at tg⊢;obtain⟨n1,n2,n3⟩:=Uj ck hk hkn;unfold sF at tg⊢;by_cases hk2:kind=2
   .rw[jh hk2];refine⟨?_,λen v σ ht hv=>?_,by omega⟩
    .show(if lv=0 then (0:Int)else 1)=0\/(if lv=0 then (0:Int)else 1)=1;rw[(Jr lv (n2 hk2)).2];exact n2 hk2
    .show _=if lv=0 then (0:Int)else 1;rw[(Jr lv (n2 hk2)).2];exact n3 en v σ ht hv
   .rw[jg hk2]at tg;exact jl tg (by show¬(1:Int)=2;decide)
  |false=>
   rw[hkn]at tg;simp only[aH,cZ]at tg⊢;by_cases hj:((o==19||o==20)&&(l.does.fd.lq (o==20)||r.does.fd.lq (o !=20)))=true
   .rw[jh hj]at tg⊢;obtain⟨q1,q2,_⟩:=h1.DJ tg ck p1;obtain⟨⟨_,d2⟩,d3⟩:=Pv ck hk hj;exact⟨q1,λen v σ ht hv=>by rw[<-d3 en v σ ht hv];exact q2 en v σ ht hv,by omega⟩
   .rw[jg hj]at tg⊢;by_cases hj2:((o==19||o==20)&&(r.does.fd.lq (o==20)||l.does.fd.lq (o !=20)))=true
    .rw[jh hj2]at tg⊢;obtain⟨q1,q2,_⟩:=k1.DJ tg ck p2;obtain⟨⟨_,d2⟩,d3⟩:=Px ck hk hj2;exact⟨q1,λen v σ ht hv=>by rw[<-d3 en v σ ht hv];exact q2 en v σ ht hv,by omega⟩
    .rw[jg hj2]at tg;exact jl tg (by show¬(0:Int)=2;decide)
 .intro tg;rw[hfd]at tg⊢;cases hkn:(l.does.fd.known&&r.does.fd.known)with
  |true=>
   rw[hkn]at tg;simp only[dM]at tg;unfold sF at tg;by_cases hk2:kind=2
   .rw[jh hk2]at tg;exact jl tg (by show¬(2:Int)=3;decide)
   .rw[jg hk2]at tg;exact jl tg (by show¬(1:Int)=3;decide)
  |false=>
   rw[hkn]at tg;simp only[aH,cZ]at tg⊢;by_cases hj:((o==19||o==20)&&(l.does.fd.lq (o==20)||r.does.fd.lq (o !=20)))=true
   .rw[jh hj]at tg⊢;obtain⟨ff,m1,m2⟩:=h1.NR tg;refine⟨ff,hgr (m1.of λck hk=>(hlk ck hk).1) (jf rfl),λck en v σ hk ht hv=>?_⟩;obtain⟨p1,p2,_⟩:=hlk ck hk;obtain⟨⟨d1,d2⟩,d3⟩:=Pv ck hk hj;obtain⟨r1,r2⟩:=m2 ck en v σ p1 ht hv;refine⟨r1,je ?_⟩;rcases r2 with⟨r3,_⟩|⟨_,r4,r5⟩
    .omega
    .exact⟨d2,r4,by rw[<-d3 en v σ ht hv];exact r5⟩
   .rw[jg hj]at tg⊢;by_cases hj2:((o==19||o==20)&&(r.does.fd.lq (o==20)||l.does.fd.lq (o !=20)))=true
    .rw[jh hj2]at tg⊢;obtain⟨ff,m1,m2⟩:=k1.NR tg;refine⟨ff,hgr (m1.of λck hk=>(hlk ck hk).2.1) (je rfl),λck en v σ hk ht hv=>?_⟩;obtain⟨p1,p2,_⟩:=hlk ck hk;obtain⟨⟨d1,d2⟩,d3⟩:=Px ck hk hj2;obtain⟨r1,r2⟩:=m2 ck en v σ p2 ht hv;refine⟨r1,je ?_⟩;rcases r2 with⟨r3,_⟩|⟨_,r4,r5⟩
     .omega
     .exact⟨d2,r4,by rw[<-d3 en v σ ht hv];exact r5⟩
    .rw[jg hj2]at tg;exact jl tg (by show¬(0:Int)=3;decide)
theorem atF{t t':Int}{l r:Ex}(hl:QX t l)(hr:QX t' r)(a:Int)(sign:ji):QX (t+1+t') (kK a (kE sign.data.toList).2 sign l r):=by
 obtain⟨z,f,h1,h2⟩:=hl;obtain⟨z',f',k1,k2⟩:=hr;obtain⟨y,q⟩:=qL ⟨z,h1,h2⟩ ⟨z',k1,k2⟩ a sign;exact⟨y,_,q⟩
end
end Go.Proofs.YthllhabjfchgiaaGreatDoor
