import Derived.Test.YthllhabjfchgiaaGreatDoorHk42
import Derived.WideShapes
set_option maxRecDepth 100000
set_option maxHeartbeats 8000000
set_option linter.unusedSimpArgs false
namespace Go.Proofs.YthllhabjfchgiaaGreatDoor
open _root_.Go.Proofs.Tryz
section
open Go.RowKit Hx
attribute [local go_sem ↓] Go.wp_at_zero Go.wp_at_succ
attribute [local go_sem] kP
attribute [local simp] aN
section
variable {w w' w1 w2 w3:jk}{lo hi m q b H:Nat}{u v:jm}{e:Ex}{a:Int}{T:jo}{c:Co}{y n:List jG}
theorem ajE(he:nR e)(hy:Bh y)(hn:Bh n)(a0:Int):CW (nY a0 e y n):=by
 have ec:=he.l7.ok.jw;have yc:=rH hy.wK.ok;have nc:=rH hn.wK.ok;refine⟨aat he.l7 hy.wK hn.wK a0,?_⟩;rintro w lo hi T b ⟨b',us,hv,h1,h2,⟨m,q,u,yv,nv,rfl,hm1,hm2,Ul,hu,hyv,Un⟩,hb⟩ hH hk;cases hv;have hk:jR [e.jw,sumOf y,sumOf n]<=1000000:=hk;have hkp:=VN ec.1 ec.2 yc.1 yc.2 nc.1 nc.2 hk;have hk1:1<=jR [e.jw,sumOf y,sumOf n]/\jR [e.jw,sumOf y,sumOf n]<=1000001:=⟨yh (by simp;exact⟨ec,yc,nc⟩),(Ib ec yc nc).2⟩;obtain⟨T1,b1,rfl,hT1,l1,l2,_⟩:=he.l7.ok.head _ _ _ _ _ hu;obtain⟨ya,CP,ML⟩:=FU (hy.wK.flat hyv);obtain⟨na,Np,hnf⟩:=FU (hn.wK.flat Un);obtain⟨yl,hyl⟩:∃yl,y.length=yl:=⟨_,rfl⟩;obtain⟨nl,hnl⟩:∃nl,n.length=nl:=⟨_,rfl⟩;rw[hyl]at ML;rw[hnl]at hnf;clear hyl hnl;subst ML hnf;obtain⟨f1,F5,kM,H1⟩:=he.fold _ _ _ _ _ _ hu (by omega);have kM:∀args w,(callFunc f1 args).run prog w=.ok (.enter f1 args) w:=kM;have H1:=jA H1;have c2:w.cell? (Ad b 2)=some (.iface T1 (Pt b1 0)):=jI hb;have HB:=jA hb;have HV:=jA (jd hyv Un);have hbw:b<w.heap.size:=by omega
 refine⟨335,λw=>by kernel_rfl,λargs w=>by kernel_rfl,?_⟩;clear hu hb hyv Un;go_enter func335,ntmps335;go_upto_region 1 with fail;refine H1.out.mono ?_;rintro en w1 ⟨v',rfl,hF,hK⟩;have s1:=hK.size;have hb1:=(hK.keep b hbw (je (by omega))).trans HB.out;have d2:w1.cell? (Ad b 2)=some (.iface T1 (Pt b1 0)):=jI hb1;have fz:∀j,w1.frozen? (Ad b j)=false:=λj=>oQ hb1;obtain⟨T3,b3,hv3⟩:=hF.form;subst hv3;have hb2:=aK w1 _ 2 _ _ (.iface T3 (Pt b3 0)) hb1;have sz1:(w1.setCell (Ad b 2) (.iface T3 (Pt b3 0))).heap.size=w1.heap.size:=dI ..;have abT:Fk w (w1.setCell (Ad b 2) (.iface T3 (Pt b3 0))) lo hi:=(hK.wide (aj _) (by omega)).trans (Fk.set h1 h2);have hF1:mJ e.does.fd e.jw (w1.setCell (Ad b 2) (.iface T3 (Pt b3 0))) lo m w.heap.size (w1.setCell (Ad b 2) (.iface T3 (Pt b3 0))).heap.size (.iface T3 (Pt b3 0)):=by
  rw[sz1];exact hF.later λj hj=>qZ j (by omega)
 have RZ:Hid (mW y (w1.setCell (Ad b 2) (.iface T3 (Pt b3 0))) m q (.slice ya yl CP)/\mW n (w1.setCell (Ad b 2) (.iface T3 (Pt b3 0))) q b (.slice na nl Np)):=⟨hy.wK.law.loc _ _ _ _ _ HV.out.1 λj j1 j2=>(qZ j (by omega)).trans (hK.keep j (by omega) (je j1)),hn.wK.law.loc _ _ _ _ _ HV.out.2 λj j1 j2=>(qZ j (by omega)).trans (hK.keep j (by omega) (je (by omega)))⟩;have IJ:=jA (jd abT (jd hb2 hF1));clear hF hK hb1 hb2 abT hF1 H1 HB HV kM F5;go_upto_region 1 with fail;generalize hW1:w1.setCell (Ad b 2) (.iface T3 (Pt b3 0))=W1 at *;clear hW1 d2 fz c2;have sW:w.heap.size<=W1.heap.size:=by omega
 have c3:W1.cell? (Ad b 3)=some (.slice ya yl CP):=jI IJ.out.2.1;have c4:W1.cell? (Ad b 4)=some (.slice na nl Np):=jI IJ.out.2.1;have DW:Hid (∀y',W1.drew.grownBy y' none->Calls prog 45 #[.slice ya yl CP] y' λen w2=>∃a3 n3 c3,en=.returned (.slice a3 n3 c3)/\Hid (uP y w2 m q W1.heap.size w2.heap.size (.slice a3 n3 c3)/\Fk W1 w2 m q)):=λy' hy'=>by
  have g0:W1.grownBy y' none:=(Dj (aN W1 none)).trans hy';have sy:=g0.size;refine(hy.fold y' m q _ (hy.wK.law.loc _ _ _ _ _ RZ.out.1 λk _ k2=>g0.block k (by omega) (by simp)) (by omega) (by omega)).mono ?_;rintro en w2 ⟨v',rfl,hF,hK⟩;obtain⟨_,_,_,_,⟨a3,c3,hv3⟩,_⟩:=id hF;subst hv3;exact⟨a3,_,c3,rfl,hF.wide (aj _) (aj _) sy (aj _),(Fk.grown g0).trans hK⟩
 have HF2:Hid (∀w2 y',Fk W1 w2 m q->w2.grownBy y' none->Calls prog 45 #[.slice na nl Np] y' λen w3=>∃a4 n4 c4,en=.returned (.slice a4 n4 c4)/\Hid (uP n w3 q b w2.heap.size w3.heap.size (.slice a4 n4 c4)/\Fk w2 w3 q b)):=λw2 y' hk2 hy'=>by
  have sy:=hy'.size;have s2:=hk2.size;refine(hn.fold y' q b _ (hn.wK.law.loc _ _ _ _ _ RZ.out.2 λk k1 k2=>(hy'.block k (by omega) (by simp)).trans (hk2.keep k (by omega) (by omega))) (by omega) (by omega)).mono ?_;rintro en w3 ⟨v',rfl,hF,hK⟩;obtain⟨_,_,_,_,⟨a4,c4,hv4⟩,_⟩:=id hF;subst hv4;exact⟨a4,_,c4,rfl,hF.wide (aj _) (aj _) sy (aj _),(Fk.grown hy').trans hK⟩
 have HC:Hid (∀w2,Fk W1 w2 m q->w2.cell? (Ad b 4)=some (.slice na nl Np)/\w2.cell? (Ad b 3)=some (.slice ya yl CP)/\∀j,w2.frozen? (Ad b j)=false):=λw2 hk=>by
  have hb1:=(hk.keep b (by omega) (by omega)).trans IJ.out.2.1;exact⟨jI hb1,jI hb1,λj=>oQ hb1⟩
 have HC2:Hid (∀w2 w3,Fk W1 w2 m q->Fk w2 w3 q b->w3.cell? (Ad b 4)=some (.slice na nl Np)/\w3.cell? (Ad b 3)=some (.slice ya yl CP)/\∀j,w3.frozen? (Ad b j)=false):=λw2 w3 hk hk2=>by
  have s1:=hk.size;have hb1:=(hk2.keep b (by omega) (by omega)).trans ((hk.keep b (by omega) (by omega)).trans IJ.out.2.1);exact⟨jI hb1,jI hb1,λj=>oQ hb1⟩
 have hbW1:b<W1.heap.size:=by omega
 go_cut [] (λwx=>Hid (∃(w2 w3:jk)(a3:Option Addr)(n3 c3:Nat)(a4:Option Addr)(n4 c4:Nat),(uP y w2 m q W1.heap.size w2.heap.size (.slice a3 n3 c3)/\Fk W1 w2 m q)/\(uP n w3 q b w2.heap.size w3.heap.size (.slice a4 n4 c4)/\Fk w2 w3 q b)/\wx=((w3.setCell (Ad b 3) (.slice a3 n3 c3)).setCell (Ad b 4) (.slice a4 n4 c4))))
 case first=>
  refine YT (f:=10) (λ_=>True) [0,1,2,3,4,7,8,9] #[true,true,true,true,true,false,false,true,true,true,false,false,false,false,false,false,false,false] (λl=>l.take 5++(l.drop 7).take 3) (by kernel_rfl) (by kernel_rfl) (by kernel_rfl) (by kernel_rfl) (by kernel_rfl) (by kernel_rfl) trivial (λ_=>?_);simp only[aC,aO,aG,aQ,bZ,dP]
  iterate 8
   (refine yO.cons (v:=?_) (by rfl) (λw hSw=>?_) ?_
    rotate_left
    ·(go_simp;first|done|with_reducible rfl)
    simp only[Act.put,ak,au,ay])
  refine yO.nil ?_;refine aP (rs:=[5,10]) (by kernel_rfl) (by simp) (lV rfl (λK hK=>?_) (lV rfl (λK hK=>?_) aJ))
  .go_simp;refine hK.out _ _ trivial (λ_=>?_);clear hK K;try simp only[ak,au,ay]
   refine aP (rs:=[6,10]) (by kernel_rfl) (by simp) (lV rfl (λK hK=>?_) (lV rfl (λK hK=>?_) aJ))
   .go_simp;refine(DW.out _ (aN _ _)).mono ?_;rintro en w2 ⟨a3,n3,c3,rfl,P1⟩;obtain⟨z4,z3,zf⟩:=HC.out w2 P1.out.2;go_wp2_with fail;refine hK.out _ _ trivial (λ_=>?_);clear hK K;try simp only[ak,au,ay]
    refine aP (rs:=[10]) (by kernel_rfl) (by simp) (lV rfl (λK hK=>?_) aJ);go_simp;refine hK.out _ _ trivial (λ_=>?_);clear hK K;try simp only[ak,au,ay]
    refine aP (rs:=[11]) (by kernel_rfl) (by simp) (lV rfl (λK hK=>?_) aJ);go_simp;refine(HF2.out w2 _ P1.out.2 (aN _ _)).mono ?_;rintro en w3 ⟨a4,n4,c4,rfl,P2⟩;obtain⟨y4,y3,yf⟩:=HC2.out w2 w3 P1.out.2 P2.out.2;go_wp2_with fail;refine hK.out _ _ trivial (λ_=>?_);clear hK K;try simp only[ak,au,ay]
    refine aP (rs:=[12]) (by kernel_rfl) (by simp) (lV rfl (λK hK=>?_) aJ);go_simp;refine hK.out _ _ trivial (λ_=>?_);clear hK K;try simp only[ak,au,ay]
    refine aP (rs:=[13]) (by kernel_rfl) (by simp) (lV rfl (λK hK=>?_) aJ);go_simp;refine hK.out _ _ trivial (λ_=>?_);clear hK K;try simp only[ak,au,ay]
    refine aP (rs:=[14]) (by kernel_rfl) (by simp) (lV rfl (λK hK=>?_) aJ);go_simp;refine hK.out _ _ trivial (λ_=>?_);clear hK K;try simp only[ak,au,ay]
    refine aP (rs:=[15]) (by kernel_rfl) (by simp) (lV rfl (λK hK=>?_) aJ);go_simp;refine hK.out _ _ trivial (λ_=>?_);clear hK K;try simp only[ak,au,ay]
    refine aP (rs:=[16]) (by kernel_rfl) (by simp) (lV rfl (λK hK=>?_) aJ);go_simp;refine hK.out _ _ trivial (λ_=>?_);clear hK K;try simp only[ak,au,ay]
    refine aP (rs:=[17]) (by kernel_rfl) (by simp) (lV rfl (λK hK=>?_) aJ);go_simp;refine hK.out _ _ trivial (λ_=>?_);clear hK K;try simp only[ak,au,ay]
    refine wpAnyH_done (by kernel_rfl) ?_ _;refine NoPanic.normal ?_;go_wp2_with fail;go_meet;exact⟨w2,w3,a3,n3,c3,a4,n4,c4,P1.out,P2.out,rfl⟩
   .go_simp;refine hK.out _ _ trivial (λ_=>?_);clear hK K;try simp only[ak,au,ay]
    refine aP (rs:=[6]) (by kernel_rfl) (by simp) (lV rfl (λK hK=>?_) aJ);go_simp;refine(DW.out _ (aN _ _)).mono ?_;rintro en w2 ⟨a3,n3,c3,rfl,P1⟩;obtain⟨z4,z3,zf⟩:=HC.out w2 P1.out.2;go_wp2_with fail;refine hK.out _ _ trivial (λ_=>?_);clear hK K;try simp only[ak,au,ay]
    refine aP (rs:=[11]) (by kernel_rfl) (by simp) (lV rfl (λK hK=>?_) aJ);go_simp;refine(HF2.out w2 _ P1.out.2 (aN _ _)).mono ?_;rintro en w3 ⟨a4,n4,c4,rfl,P2⟩;obtain⟨y4,y3,yf⟩:=HC2.out w2 w3 P1.out.2 P2.out.2;go_wp2_with fail;refine hK.out _ _ trivial (λ_=>?_);clear hK K;try simp only[ak,au,ay]
    refine aP (rs:=[12]) (by kernel_rfl) (by simp) (lV rfl (λK hK=>?_) aJ);go_simp;refine hK.out _ _ trivial (λ_=>?_);clear hK K;try simp only[ak,au,ay]
    refine aP (rs:=[13]) (by kernel_rfl) (by simp) (lV rfl (λK hK=>?_) aJ);go_simp;refine hK.out _ _ trivial (λ_=>?_);clear hK K;try simp only[ak,au,ay]
    refine aP (rs:=[14]) (by kernel_rfl) (by simp) (lV rfl (λK hK=>?_) aJ);go_simp;refine hK.out _ _ trivial (λ_=>?_);clear hK K;try simp only[ak,au,ay]
    refine aP (rs:=[15]) (by kernel_rfl) (by simp) (lV rfl (λK hK=>?_) aJ);go_simp;refine hK.out _ _ trivial (λ_=>?_);clear hK K;try simp only[ak,au,ay]
    refine aP (rs:=[16]) (by kernel_rfl) (by simp) (lV rfl (λK hK=>?_) aJ);go_simp;refine hK.out _ _ trivial (λ_=>?_);clear hK K;try simp only[ak,au,ay]
    refine aP (rs:=[17]) (by kernel_rfl) (by simp) (lV rfl (λK hK=>?_) aJ);go_simp;refine hK.out _ _ trivial (λ_=>?_);clear hK K;try simp only[ak,au,ay]
    refine wpAnyH_done (by kernel_rfl) ?_ _;refine NoPanic.normal ?_;go_wp2_with fail;go_meet;exact⟨w2,w3,a3,n3,c3,a4,n4,c4,P1.out,P2.out,rfl⟩
  .go_simp;refine hK.out _ _ trivial (λ_=>?_);clear hK K;try simp only[ak,au,ay]
   refine aP (rs:=[5]) (by kernel_rfl) (by simp) (lV rfl (λK hK=>?_) aJ);go_simp;refine hK.out _ _ trivial (λ_=>?_);clear hK K;try simp only[ak,au,ay]
   refine aP (rs:=[6]) (by kernel_rfl) (by simp) (lV rfl (λK hK=>?_) aJ);go_simp;refine(DW.out _ (aN _ _)).mono ?_;rintro en w2 ⟨a3,n3,c3,rfl,P1⟩;obtain⟨z4,z3,zf⟩:=HC.out w2 P1.out.2;go_wp2_with fail;refine hK.out _ _ trivial (λ_=>?_);clear hK K;try simp only[ak,au,ay]
   refine aP (rs:=[11]) (by kernel_rfl) (by simp) (lV rfl (λK hK=>?_) aJ);go_simp;refine(HF2.out w2 _ P1.out.2 (aN _ _)).mono ?_;rintro en w3 ⟨a4,n4,c4,rfl,P2⟩;obtain⟨y4,y3,yf⟩:=HC2.out w2 w3 P1.out.2 P2.out.2;go_wp2_with fail;refine hK.out _ _ trivial (λ_=>?_);clear hK K;try simp only[ak,au,ay]
   refine aP (rs:=[12]) (by kernel_rfl) (by simp) (lV rfl (λK hK=>?_) aJ);go_simp;refine hK.out _ _ trivial (λ_=>?_);clear hK K;try simp only[ak,au,ay]
   refine aP (rs:=[13]) (by kernel_rfl) (by simp) (lV rfl (λK hK=>?_) aJ);go_simp;refine hK.out _ _ trivial (λ_=>?_);clear hK K;try simp only[ak,au,ay]
   refine aP (rs:=[14]) (by kernel_rfl) (by simp) (lV rfl (λK hK=>?_) aJ);go_simp;refine hK.out _ _ trivial (λ_=>?_);clear hK K;try simp only[ak,au,ay]
   refine aP (rs:=[15]) (by kernel_rfl) (by simp) (lV rfl (λK hK=>?_) aJ);go_simp;refine hK.out _ _ trivial (λ_=>?_);clear hK K;try simp only[ak,au,ay]
   refine aP (rs:=[16]) (by kernel_rfl) (by simp) (lV rfl (λK hK=>?_) aJ);go_simp;refine hK.out _ _ trivial (λ_=>?_);clear hK K;try simp only[ak,au,ay]
   refine aP (rs:=[17]) (by kernel_rfl) (by simp) (lV rfl (λK hK=>?_) aJ);go_simp;refine hK.out _ _ trivial (λ_=>?_);clear hK K;try simp only[ak,au,ay]
   refine wpAnyH_done (by kernel_rfl) ?_ _;refine NoPanic.normal ?_;go_wp2_with fail;go_meet;exact⟨w2,w3,a3,n3,c3,a4,n4,c4,P1.out,P2.out,rfl⟩
 case rest=>
  obtain⟨w2,w3,a3,n3,cp3,a4,n4,cp4,p1,p2,hW⟩:=hcut.out;have s2:=p1.2.size;have s3:=p2.2.size;obtain⟨hkw,abK,hF1⟩:=IJ.out;have hb2:=(p2.2.keep b (by omega) (by omega)).trans ((p1.2.keep b (by omega) (by omega)).trans abK);have hbW:wc.heap[b]? =some (.cells ([Im a0,Im (jR [e.jw,sumOf y,sumOf n]),.iface T3 (Pt b3 0),.slice a3 n3 cp3,.slice a4 n4 cp4,.bool false]:List jm).toArray 341):=by
   rw[hW];exact aK _ _ _ _ _ _ (aK _ _ _ _ _ _ hb2)
  have hag:∀j,j≠b->wc.heap[j]? =w3.heap[j]? :=λj hj=>by
   rw[hW];exact(qZ j hj).trans (qZ j hj)
  have hsz:wc.heap.size=w3.heap.size:=by rw[hW,dI,dI]
  have hKW:Fk w wc lo hi:=by
   rw[hW];exact(((hkw.trans (p1.2.wide (by omega) (by omega))).trans (p2.2.wide (by omega) (by omega))).trans (Fk.set h1 h2)).trans (Fk.set h1 h2)
  have F1:mJ e.does.fd e.jw wc lo b w.heap.size wc.heap.size (.iface T3 (Pt b3 0)):=(hF1.later λj hj=>(hag j (by omega)).trans ((p2.2.keep j (by omega) (by omega)).trans (p1.2.keep j (by omega) (by omega)))).wide (aj _) (by omega) (aj _) (by omega) (aV _);have F2:uP y wc lo b w.heap.size wc.heap.size (.slice a3 n3 cp3):=(p1.1.later λj hj=>(hag j (by omega)).trans (p2.2.keep j (by omega) (by omega))).wide (by omega) (by omega) (by omega) (by omega);have F3:uP n wc lo b w.heap.size wc.heap.size (.slice a4 n4 cp4):=(p2.1.later λj hj=>hag j (by omega)).wide (by omega) (by omega) (by omega) (by omega);clear hcut hW DW HF2 HC HC2 p1 p2 hb2 abK hkw hF1 IJ RZ hag c3 c4;obtain⟨e1,_,_,x1,X1,y1,z1,_,_,_,_,_,_,g6⟩:=id F1;cases z1;have Hw:=jA (YR (g6 wc (qm.refl _ _ _ _ _)).2);have d2:wc.cell? (Ad b 2)=some (.iface T3 (Pt b3 0)):=jI hbW;have d4:wc.cell? (Ad b 4)=some (.slice a4 n4 cp4):=jI hbW;have fz:∀j,wc.frozen? (Ad b j)=false:=λj=>oQ hbW;have auR:w.heap.size<=wc.heap.size:=by omega
  have FN:(nY a0 e y n).does.fs=(zI e y n).fs:=rfl;cases hkn:e.does.fd.known with
  |false=>
   rw[hkn]at Hw;have HE:Hid (zo (nY a0 e y n).does.fs (nY a0 e y n).jw wc lo hi w.heap.size wc.heap.size 339 b/\Fk w wc lo hi):=by
    refine⟨ajI h1 h2 (by omega) hbW F1 F2 F3 hk1 (λ_=>by show 1+(e.jw+sumOf y+sumOf n)<=jR [e.jw,sumOf y,sumOf n];omega) ?_,hKW⟩;rw[FN];simp only[zI];rw[hkn]
    rfl
   clear F1 F2 F3 hKW hbW g6 FN;go_wp2_with fail;refine Hw.out.mono ?_;rintro en wz ⟨rfl,rfl⟩;go_wp2_with fail;exact cu (v:=.tuple #[]) (by simp[results,Tryz.results335,go_sem]) rfl ⟨rfl,HE.out⟩
  |true=>
   rw[hkn]at Hw;simp only[dM]at Hw;have d5:wc.cell? (Ad b 5)=some (.bool false):=jI hbW;have d3:wc.cell? (Ad b 3)=some (.slice a3 n3 cp3):=jI hbW;by_cases hz:e.does.fd.val=0
   .rw[hz]at Hw;have HE:Hid (zo (nY a0 e y n).does.fs (nY a0 e y n).jw (((wc.setCell (Ad b 5) (.bool true)).setCell (Ad b 3) (.slice a4 n4 cp4)).setCell (Ad b 4) (Nl)) lo hi w.heap.size (((wc.setCell (Ad b 5) (.bool true)).setCell (Ad b 3) (.slice a4 n4 cp4)).setCell (Ad b 4) (Nl)).heap.size 339 b/\Fk w (((wc.setCell (Ad b 5) (.bool true)).setCell (Ad b 3) (.slice a4 n4 cp4)).setCell (Ad b 4) (Nl)) lo hi):=by
     have hb3:=aK _ _ 4 _ _ (Nl) (aK _ _ 3 _ _ (.slice a4 n4 cp4) (aK _ _ 5 _ _ (.bool true) hbW));have hs3:(((wc.setCell (Ad b 5) (.bool true)).setCell (Ad b 3) (.slice a4 n4 cp4)).setCell (Ad b 4) (Nl)).heap.size=wc.heap.size:=by rw[dI,dI,dI]
     refine⟨agA (u0:=.iface T3 (Pt b3 0)) h1 h2 (by omega) hb3 (y:=n) ?_ hk1 (λ_=>by show sumOf n<=jR [e.jw,sumOf y,sumOf n];omega) ?_,((hKW.trans (Fk.set h1 h2)).trans (Fk.set h1 h2)).trans (Fk.set h1 h2)⟩
     .rw[hs3];exact F3.later λj hj=>(qZ j (by omega)).trans ((qZ j (by omega)).trans (qZ j (by omega)))
     .rw[FN];simp only[zI];rw[hkn,hz]
      rfl
    clear F1 F2 F3 hKW hbW g6 FN;go_wp2_with fail;refine Hw.out.mono ?_;rintro en wz ⟨rfl,rfl⟩;go_wp2_with fail;go_end0;exact⟨rfl,HE.out⟩
   .have hzb:(e.does.fd.val==0)=false:=by rw[beq_eq_false_iff_ne];exact hz
    have HE:Hid (zo (nY a0 e y n).does.fs (nY a0 e y n).jw ((wc.setCell (Ad b 5) (.bool true)).setCell (Ad b 4) (Nl)) lo hi w.heap.size ((wc.setCell (Ad b 5) (.bool true)).setCell (Ad b 4) (Nl)).heap.size 339 b/\Fk w ((wc.setCell (Ad b 5) (.bool true)).setCell (Ad b 4) (Nl)) lo hi):=by
     have hb3:=aK _ _ 4 _ _ (Nl) (aK _ _ 5 _ _ (.bool true) hbW);have hs3:((wc.setCell (Ad b 5) (.bool true)).setCell (Ad b 4) (Nl)).heap.size=wc.heap.size:=by rw[dI,dI]
     refine⟨agA (u0:=.iface T3 (Pt b3 0)) h1 h2 (by omega) hb3 (y:=y) ?_ hk1 (λ_=>by show sumOf y<=jR [e.jw,sumOf y,sumOf n];omega) ?_,(hKW.trans (Fk.set h1 h2)).trans (Fk.set h1 h2)⟩
     .rw[hs3];exact F2.later λj hj=>(qZ j (by omega)).trans (qZ j (by omega))
     .rw[FN];simp only[zI];rw[hkn];simp only[dM,jg hz]
    clear F1 F2 F3 hKW hbW g6 FN hz;generalize e.does.fd.val=ev at *;go_wp2_with fail;refine Hw.out.mono ?_;rintro en wz ⟨rfl,rfl⟩;go_wp2_with fail;go_end0;exact⟨rfl,HE.out⟩
end
end
section
open Go.RowKit Hx
attribute [local go_sem ↓] Go.wp_at_zero Go.wp_at_succ
attribute [local go_sem] kP
section
variable {w w' w1 w2 w3:jk}{lo hi m q b H:Nat}{u v:jm}{e:Ex}{a:Int}{T:jo}{c:Co}{l:List jG}{x:Sx}
theorem anf{ya:Option Addr}{yn yc:Nat}(d5:w.cell? (Ad b 5)=some (.slice ya yn yc)):Calls prog 344 #[Pt b 0] w λen w'=>en=.returned (.bool (decide (yn=0)))/\w'=w:=by
 by_cases hy:yn=0
 .subst hy;go_enter func344,ntmps344;go_wp2_with fail;go_ret;exact⟨rfl,rfl⟩
 .have e1:((yn:Int)==0)=false:=by rw[beq_eq_false_iff_ne];omega
  rw[dO hy];clear hy;go_enter func344,ntmps344;go_wp2_with fail;go_ret;exact⟨rfl,rfl⟩
theorem am7{N:Nat}(hN:N<=100000)(hx:rD N nR x)(hl:Bh l)(a0:Int)(t:Wd):CW (sG a0 t x l):=by
 have lc:=rH hl.wK.ok;have xc:=hx.jw;have rc:=uo (x:=x) lc;refine⟨adg hN (TV hx) hl.wK a0 t,?_⟩;rintro w lo hi T b ⟨b',us,hv,h1,h2,⟨m,u,v,rfl,m1,m2,hu,hv2⟩,hb⟩ hH hk;cases hv;have hk:jR [x.jw,x.round (sumOf l)]<=1000000:=hk;have hkp:=zU xc.1 xc.2 rc.1 rc.2 hk;have hg:=NG (x:=x) lc.1 (by omega);have hk1:1<=jR [x.jw,x.round (sumOf l)]/\jR [x.jw,x.round (sumOf l)]<=1000001:=⟨yh (by simp;exact⟨xc,rc⟩),(rG xc rc).2⟩;obtain⟨S,fv,rfl,_⟩:=id hu;obtain⟨ya,CP,ML⟩:=FU (hl.wK.flat hv2);obtain⟨yl,hyl⟩:∃yl,l.length=yl:=⟨_,rfl⟩;rw[hyl]at ML;clear hyl;subst ML;obtain⟨tt,ta⟩:=t;have c4:w.cell? (Ad b 4)=some (Pt S 0):=jI hb;have H1:=jA (WL hx.all (by have:=hx.len;omega) hu (by omega));have HB:=jA hb;have HV:=jA hv2;refine⟨343,λw=>by kernel_rfl,λargs w=>by kernel_rfl,?_⟩;have hbw:b<w.heap.size:=by omega
 clear hu hb hv2;go_enter func343,ntmps343;go_wp2_with fail;refine H1.out.mono ?_;rintro en w1 ⟨rfl,hF,hK⟩;have s1:=hK.size;have hb1:=(hK.keep b hbw (je (by omega))).trans HB.out;have d5:w1.cell? (Ad b 5)=some (.slice ya yl CP):=jI hb1;have H2:=jA (hl.fold w1 m b _ (hl.wK.law.loc _ _ _ _ _ HV.out λj j1 j2=>hK.keep j (by omega) (je j1)) (by omega) (by omega));have HS:=jA (jd hF (jd hK hb1));clear hF hK hb1 HB HV H1;go_wp2_with fail;refine H2.out.mono ?_;rintro en w2 ⟨v',rfl,hF2,hK2⟩;obtain⟨hF,hK,hb1⟩:=HS.out;have s2:=hK2.size;have hb2:=(hK2.keep b (by omega) (je (aj _))).trans hb1;have e5:w2.cell? (Ad b 5)=some (.slice ya yl CP):=jI hb2;have fz:∀j,w2.frozen? (Ad b j)=false:=λj=>oQ hb2;obtain⟨l',q3,q4,q5,⟨a4,Lp,hv4⟩,q6⟩:=hF2;subst hv4;have HE:Hid (zo (sG a0 ⟨tt,ta⟩ x l).does.fs (sG a0 ⟨tt,ta⟩ x l).jw (w2.setCell (Ad b 5) (.slice a4 l'.length Lp)) lo hi w.heap.size (w2.setCell (Ad b 5) (.slice a4 l'.length Lp)).heap.size 349 b/\Fk w (w2.setCell (Ad b 5) (.slice a4 l'.length Lp)) lo hi):=by
  have hb3:=aK w2 _ 5 _ _ (.slice a4 l'.length Lp) hb2;have s3:(w2.setCell (Ad b 5) (.slice a4 l'.length Lp)).heap.size=w2.heap.size:=dI ..;obtain⟨fs,e1,e2,e3,e4,e5,e6,e7⟩:=hF;refine⟨⟨_,(adf (x:={x with jE:=fs}) e2 xc q3 a0 ⟨tt,ta⟩ hk1 (λhk=>?_)).does (ds:={lay:=(sG a0 ⟨tt,ta⟩ x l).does.fs.lay,fs:=(sG a0 ⟨tt,ta⟩ x l).does.fs}) ?_,rfl,rfl,λw' ha=>?_⟩,((hK.wide (aj _) (by omega)).trans (hK2.wide (by omega) (by omega))).trans (Fk.set h1 h2)⟩
  .exact⟨TN hN hx (by omega) e2 e3 e4,by omega,by show 2+x.jw+_<=_;omega⟩
  .funext c
   simp only[Nh,sG,yF,wM];rw[aa4 e1,MR q4]
  .have hag:∀j,j≠b->(lo<=j/\j<hi)\/(w.heap.size<=j/\j<w2.heap.size)->w'.heap[j]? =w2.heap[j]? :=λj hj hk=>(ha j (by omega)).trans (qZ j hj);have hb':=(ha b (jf ⟨h1,h2⟩)).trans hb3;refine⟨⟨b,_,rfl,h1,by omega,⟨_,_,rfl,?_,?_⟩,hb'⟩,⟨344,λw=>by kernel_rfl,λargs w=>by kernel_rfl,?_⟩,VP (by simp[Fb]) b w'⟩
   .refine(Gf λb hb a=>(e2 b hb).ok.law a).wide _ _ _ _ _ _ (e7 w' λj hj=>?_) (aj _) (by omega);exact(hag j (by omega) (by omega)).trans (hK2.keep j (by omega) (by omega))
   .exact q3.zQ.wide _ _ _ _ _ _ (q6 w' λj hj=>hag j (by omega) (by omega)).1 (by omega) (by omega)
   .have h:=anf (w:=w') (b:=b) (jI hb');rw[Na q4]at h;exact h
 clear hF hK hb1 hb2 hK2 q3 q4 q5 q6 H2 HS;go_wp2_with fail;go_end0;exact⟨rfl,HE.out⟩
theorem akC(N:Nat)(hN:N<=100000):KX N nR nR Bh CW where
 jw:=λ_ h=>h.l7.ok.jw
 Qe:=λa t _ h=>anS h a t
 QY:=λt _ h=>asq h t
 Rh:=λa i _ h=>as8 h a i
 QD:=λa _ _ h k=>apV h k a
 returning:=λa=>aq6 a
 choice:=λa _ _ _ h hy hn=>ajE h hy hn a
 loop:=λa t _ _ hx hl=>am7 hN hx hl a t
theorem as5(s:ji)(hs:s.size<=4000)(d:Nat)(p:Ps):Bh (lZ s d p).1:=
 Q9 s (λ_=>nR) (λ_=>CW) (λ_=>Bh) (akt s hs) (λ_=>akC (s.size+1) (by omega)) (λ_=>P8 (by simp)) (λ_ _ _ h=>P8 h) d p
theorem apl(s:ji):Bh (oC s).1:=by
 unfold oC;split
 .exact P8 (by simp)
 .have hs:s.size<=4000:=by omega
  unfold xB;split
  .exact as5 s hs 21 _
  .exact P8 (by simp)
theorem ajC(s:ji)(h:(mO s).2.1=0):Bh (mO s).1:=by
 unfold mO at h⊢;split at h
 .contradiction
 split at h
 .contradiction
 split at h
 .exact jl h (by decide)
 .rename_i h1 h2 h3;rw[jg h1,jg h2,jg h3];exact apl s
def BL(s:ji):ji×Int×Int:=if (mO s).2.1≠0 then (⟨#[]⟩,(mO s).2.1,(mO s).2.2)else (strOfNums (xU (kU (mO s).1)),0,0)
theorem ajU(s:ji)(w:jk):Calls prog 12 #[.string s,.bool true] w λe w'=>e=.returned (.tuple #[.string (BL s).1,Im (BL s).2.1,Im (BL s).2.2])/\w.grownBy w' none:=by
 have HC:Hid (Calls prog 44 #[.string s] w λe w'=>∃v,e=.returned (.tuple #[v,.agg #[Im (mO s).2.1,Im (mO s).2.2]])/\mW (mO s).1 w' w.heap.size w'.heap.size v/\w.grownBy w' none):=aaq s w;have DX:Hid ((mO s).2.1=0->Bh (mO s).1/\sumOf (mO s).1<=1000000):=λh=>⟨ajC s h,(aar s h).2⟩;unfold BL;generalize mO s=R at *;obtain⟨L,en,ea⟩:=R;simp only at HC DX⊢;by_cases he:en=0
 .subst he;obtain⟨hL,hk⟩:=DX.out rfl;have HL:Hid (Bh L/\sumOf L<=1000000):=⟨hL,hk⟩;clear DX hL hk;simp only[ne_eq,not_true_eq_false,cZ];generalize hcs:strOfNums (xU (kU L))=cs at *;have RF:=jA hcs;clear hcs;go_enter func12,ntmps12;go_wp2_with fail;refine HC.out.mono ?_;rintro e w1 ⟨v,rfl,h1,g1⟩;obtain⟨va,vn,vc,rfl⟩:=Jz h1;have HK:Hid (∀o,Calls prog 45 #[.slice va vn vc] (w1.alloc o) λe w'=>∃a3 n3 c3,e=.returned (.slice a3 n3 c3)/\Hid (Calls prog 46 #[.slice a3 n3 c3] w' λe w2=>e=.returned (.string cs)/\w.grownBy w2 none)):=λo=>by
   have g0:=ah w1 o none;have s1:=g1.size;have s0:=g0.size;refine(HL.out.1.fold (w1.alloc o) w.heap.size w1.heap.size _ (HL.out.1.wK.law.loc _ _ _ _ _ h1 λb _ b2=>g0.block b (by omega) (by simp)) s0 HL.out.2).mono ?_;rintro e w' ⟨v',e1,hF,hK⟩;obtain⟨l',q1,q2,q3,⟨a3,c3,hv3⟩,q4⟩:=hF;subst hv3;refine⟨a3,_,c3,e1,?_⟩;have hn:xU l'=xU (kU L):=by unfold xU;rw[MR q2]
   have s2:=hK.size;have h2:=(q4 w' (qm.refl _ _ _ _ _)).1;have hk:=HL.out.2;refine(aaC q1 h2 (aj _) (by omega)).mono ?_;rintro e w2 ⟨r1,r2⟩;refine⟨by rw[r1,hn,RF.out],?_⟩;have g2:=g1.trans g0;exact⟨r2.os.trans (hK.os.trans g2.os),r2.tape.trans (hK.tape.trans g2.tape),r2.output.trans (hK.output.trans g2.output),by have:=r2.size;omega,λk hk _=>(r2.block k (by omega) (by simp)).trans ((hK.keep k (by omega) (jf hk)).trans (g2.block k hk (by simp)))⟩
  clear h1 g1 HC HL;go_wp2_with fail;refine(HK.out _).mono ?_;rintro e w2 ⟨a3,n3,c3,rfl,HQ⟩;clear HK;go_wp2_with fail;refine HQ.out.mono ?_;rintro e w3 ⟨rfl,g3⟩;have HG:Hid (w.grownBy w3 none):=g3;clear g3 HQ;go_wp2_with fail;exact cu (by simp[results,Tryz.results12,go_sem]) rfl ⟨rfl,HG.out⟩
 .have hb:(en !=0)=true:=by simp[he]
  clear DX;rw[jh he];go_enter func12,ntmps12;go_wp2_with fail;refine HC.out.mono ?_;rintro e w1 ⟨v,rfl,h1,g1⟩;have HG:Hid (w.grownBy w1 none):=g1;clear h1 g1 HC;go_wp2_with fail;go_quiet (fail);go_wp2_with fail;exact cu (by simp[results,Tryz.results12,go_sem]) rfl ⟨rfl,HG.out.trans ((ah _ _ none).trans (lK _ _))⟩
end
end
section
open Go.RowKit Hx
def TK:Option oH⊕oH->Option oH
 | .inl r=>r
 | .inr p=>some p
def A8(l:List Int):Int->Int:=λi=>l.getD i.toNat 0
theorem apE{d:Nat}(h:((8^d:Nat):Int)<=1000001):d<=6:=by
 rcases dG d 7 with h1|h1
 .omega
 .have h2:8^7<=8^d:=Nat.pow_le_pow_right (by omega) h1;have h3:(8^7:Nat)=2097152:=by decide
  omega
theorem Tn{l g:List jG}{zs:List (Sz×lQ)}{t:Int}(h:qB l zs t)(ht:t<=4000)(hk:(oh l ⟨[],0,0⟩).en=0)(hc:lM l<=1000000)(hg:g=l\/g=kU l):
 wU (strOfNums (xU g)).data.toList=true/\∀(v:Vw)(x0 x1 x2 x3 x4 x5 x6 x7:Int),nM v->zZ v=true->(∀x∈[x0,x1,x2,x3,x4,x5,x6,x7],jJ x)->
  DT [x0,x1,x2,x3,x4,x5,x6,x7] (TK (qh (oL (zs.map λq:Sz×lQ=>q.2)) v ⟨[],A8 [x0,x1,x2,x3,x4,x5,x6,x7],[]⟩)) (vX v (strOfNums (xU g)).data.toList (mG (strOfNums (xU g)).data.toList).jC x0 x1 x2 x3 x4 x5 x6 x7):=by
 have q:=H6 h;have qw:=q.wide;have ql:=q.jL;obtain⟨a1,a2⟩:=q.all hc;have hfit:Fit ⟨[],0,0⟩ vM:=⟨rfl,rfl,(λn hn=>by cases hn),by show(8:Int)<=8;omega⟩;have L6:Ctx vM:=⟨rfl,(λj n hn=>by cases hn)⟩;obtain⟨b1,b2⟩:=Ol h;have hfr:∃fr:Fr,kZ g vM=⟨vM.code++jU fr.is,vM.jy,vM.free⟩/\Xt vM (ku zs) fr/\Bg ⟨[],0,0⟩ vM ⟨vM.code++jU fr.is,vM.jy,vM.free⟩ fr (qh (oL (zs.map λq:Sz×lQ=>q.2))):=by
  rcases hg with rfl|rfl
  .exact b1 _ _ hfit L6 hk (by show(8:Int)+_<=2008;omega)
  .exact b2 _ _ hfit L6 hk (by show(8:Int)+_<=2008;omega)
 obtain⟨fr,e1,e2,e3⟩:=hfr;have xn:=e2.jC;have xd:=e2.deep;have xl:=e2.jL;have x0n:=e2.ok.jC;have hcode:xU g=jU (fr.is++[⟨0,[]⟩]):=by
  unfold xU;rw[e1];show[]++jU fr.is++enc ⟨0,[]⟩=_;rw[nN,ny,mF,aX,dP]
 have hbytes:(strOfNums (xU g)).data.toList=Hx.bytes (jU (fr.is++[⟨0,[]⟩])):=by rw[hcode];rfl
 have ak2:=apE (d:=(ku zs).deep) (by omega);have hlen:(jU (fr.is++[(⟨0,[]⟩:I)])).length<=100000:=by
  have:=OH;rw[nN,aA,ny,mF,aX];omega
 obtain⟨t1,t2,t3,t4⟩:=am0 e2.ok (by omega) (by omega) hlen;rw[hbytes];refine⟨t1,λv x0 x1 x2 x3 x4 x5 x6 x7 hv MK hx=>?_⟩;have rW:=(ao8 v MK _ t1 0 x0 x1 x2 x3 x4 x5 x6 x7).2.1;have hout:∀f:Int,vX v (Hx.bytes (jU (fr.is++[⟨0,[]⟩]))) f x0 x1 x2 x3 x4 x5 x6 x7=Hx.runs v (fr.jB 0 []++[⟨1,0,0,0,0,0,0⟩]) [x0,x1,x2,x3,x4,x5,x6,x7] f.toNat 0 (sH x0 x1 x2 x3 x4 x5 x6 x7 (sQ fr.is 8).toNat):=λf=>by
  rw[vX,Cj,jh MK,t2,t3]
 rw[t4]at rW⊢;rw[hout]at rW⊢;have h8:=WM fr.is 8;generalize hm:sH x0 x1 x2 x3 x4 x5 x6 x7 (sQ fr.is 8).toNat=m0 at *;have hml:m0.jD.length=(sQ fr.is 8).toNat:=by
  rw[<-hm];simp[sH];omega
 have alC:m0.left.length=8:=by rw[<-hm];simp[sH]
 have hmr:∀i:Int,0<=i->i<8->m0.get i=A8 [x0,x1,x2,x3,x4,x5,x6,x7] i:=λi i0 i1=>by
  rw[<-hm];unfold sH Mc.get A8;simp only;have:i.toNat<[x0,x1,x2,x3,x4,x5,x6,x7].length:=by simp;omega
  rw[aU,aU,aT this]
 have hlow:lG fr.is m0.jD.length:=by
  rw[hml,iF (by omega)];exact ado fr.is 8
 have hrep:vI vM m0 ⟨[],A8 [x0,x1,x2,x3,x4,x5,x6,x7],[]⟩:=⟨rfl,hmr,by rw[<-hm];rfl⟩;have hty:nV ⟨[],0,0⟩ ⟨[],A8 [x0,x1,x2,x3,x4,x5,x6,x7],[]⟩:=by
  refine⟨λi i0 i1=>?_,rfl,λj k n hj=>by cases hj⟩;show jJ (A8 [x0,x1,x2,x3,x4,x5,x6,x7] i);unfold A8;have:i.toNat<[x0,x1,x2,x3,x4,x5,x6,x7].length:=by simp;omega
  rw[aU,bU this];exact hx _ (fG this)
 have alH:uz (fr.jB 0 []++[⟨1,0,0,0,0,0,0⟩]) 0 (fr.jB 0 []):=λj s hj=>by
  rw[gW,aT (List.getElem?_eq_some_iff.1 hj).1];exact hj
 have Py:=e3 v (fr.jB 0 []++[⟨1,0,0,0,0,0,0⟩]) [x0,x1,x2,x3,x4,x5,x6,x7] 0 [] m0 _ hv alH (by show 0+fr.deep<=8;omega) alC hlow hrep hty;have hstop:∃o,C9 v (fr.jB 0 []++[⟨1,0,0,0,0,0,0⟩]) [x0,x1,x2,x3,x4,x5,x6,x7] 0 m0 o/\DT [x0,x1,x2,x3,x4,x5,x6,x7] (TK (qh (oL (zs.map λq:Sz×lQ=>q.2)) v ⟨[],A8 [x0,x1,x2,x3,x4,x5,x6,x7],[]⟩)) o:=by
  cases hR:qh (oL (zs.map λq:Sz×lQ=>q.2)) v ⟨[],A8 [x0,x1,x2,x3,x4,x5,x6,x7],[]⟩with
  |inl r=>
   rw[hR]at Py;exact U0.1 Py
  |inr p=>
   rw[hR]at Py;obtain⟨m',g1,g2,g3,g4,g5⟩:=Py;have hend:(fr.jB 0 []++[(⟨1,0,0,0,0,0,0⟩:St)])[0+fr.size]? =some ⟨1,0,0,0,0,0,0⟩:=by
    rw[gW,bW (by rw[e2.ok.size];exact aj _),e2.ok.size];simp
   refine⟨⟨0,m'.jD,m'.jO⟩,g1.stops (WT hend ?_),rfl,λi hi=>?_,g2.jO⟩
   .unfold Hx.step;rw[jh (by rfl)]
   .have:=g2.jF (i:Int) (by omega) (by omega);rw[<-this];unfold Mc.get;rw[bK]
 obtain⟨o,⟨n,hn⟩,ho⟩:=hstop;have hmore:=QM (fr.jC+1).toNat ((fr.jC+1).toNat+n) 0 m0 (by omega) rW;have:=hn (fr.jC+1).toNat;rw[show((0:Nat):Int)=0 from rfl,hmore]at this;rw[this];exact ho
def zK(s:ji)(b:Bool):ji×Int×Int:=if b then BL s else BN s
theorem ajR(s:ji)(b:Bool):(zK s b).2.1=(mO s).2.1:=by
 by_cases h:(mO s).2.1=0
 .have hn:¬((mO s).2.1≠0):=λhh=>hh h;cases b with
  |true=>show(BL s).2.1=_;unfold BL;rw[jg hn,h]
  |false=>show(BN s).2.1=_;unfold BN;rw[jg hn,h]
 .cases b with
  |true=>show(BL s).2.1=_;unfold BL;rw[jh h]
  |false=>show(BN s).2.1=_;unfold BN;rw[jh h]
theorem Tm(s:ji)(b:Bool)(h:(mO s).2.1=0):zK s b=(strOfNums (xU (if b then kU (mO s).1 else (mO s).1)),0,0):=by
 have hn:¬((mO s).2.1≠0):=λhh=>hh h;cases b with
 |true=>show BL s=_;unfold BL;rw[jg hn];rfl
 |false=>show BN s=_;unfold BN;rw[jg hn];rfl
def o8(s:ji)(b:Bool)(v:Vw)(x0 x1 x2 x3 x4 x5 x6 x7:Int):Out:=
 vX v (zK s b).1.data.toList (mG (zK s b).1.data.toList).jC x0 x1 x2 x3 x4 x5 x6 x7
structure IV(o o':Out):Prop where
 status:o.status=o'.status
 jF:∀i:Nat,i<8->o.jF.getD i 0=o'.jF.getD i 0
 jO:o.jO=o'.jO
theorem IV.refl(o:Out):IV o o:=⟨rfl,λ_ _=>rfl,rfl⟩
theorem akp{jF:List Int}{r:Option oH}{o o':Out}(h:DT jF r o)(h':DT jF r o'):IV o o':=by
 cases r with
 |none=>
  have e:o=⟨1,jF,[]⟩:=h;have e':o'=⟨1,jF,[]⟩:=h';rw[e,e'];exact IV.refl _
 |some p=>
  obtain⟨a,b,c⟩:=h;obtain⟨a',b',c'⟩:=h';exact⟨a.trans a'.symm,λi hi=>(b i hi).trans (b' i hi).symm,c.trans c'.symm⟩
theorem akq{jF:List Int}{r:Option oH}{o:Out}(h:DT jF r o):o.status=0\/o.status=1:=by
 cases r with
 |none=>
  have e:o=⟨1,jF,[]⟩:=h;rw[e];exact je rfl
 |some p=>exact jf h.1
theorem YM{v:Vw}(hr:v.Dt)(hv:zZ v=true):nM v:=by
 have hg:=YL hv;exact⟨hr,hg.JF,hg.JE,hg.JD⟩
theorem aqr(s:ji)(h:(mO s).2.1=0):(∀b,wU (zK s b).1.data.toList=true)/\∀(v:Vw)(x0 x1 x2 x3 x4 x5 x6 x7:Int),v.Dt->(∀x∈[x0,x1,x2,x3,x4,x5,x6,x7],jJ x)->
 IV (o8 s false v x0 x1 x2 x3 x4 x5 x6 x7) (o8 s true v x0 x1 x2 x3 x4 x5 x6 x7)/\((o8 s false v x0 x1 x2 x3 x4 x5 x6 x7).status=0\/(o8 s false v x0 x1 x2 x3 x4 x5 x6 x7).status=1\/(o8 s false v x0 x1 x2 x3 x4 x5 x6 x7).status=3):=by
 obtain⟨zs,t,hm,ht,hk,hc⟩:=ajD s h;obtain⟨a1,a2⟩:=Tn hm ht hk hc (jf rfl);obtain⟨b1,b2⟩:=Tn hm ht hk hc (je rfl);have e1:=Tm s false h;have e2:=Tm s true h;refine⟨λb=>?_,λv x0 x1 x2 x3 x4 x5 x6 x7 hr hx=>?_⟩
 .cases b with
  |false=>rw[e1];exact a1
  |true=>rw[e2];exact b1
 .unfold o8;rw[e1,e2];cases hv:zZ v with
  |true=>
   have c1:=a2 v x0 x1 x2 x3 x4 x5 x6 x7 (YM hr hv) hv hx;have c2:=b2 v x0 x1 x2 x3 x4 x5 x6 x7 (YM hr hv) hv hx;refine⟨akp c1 c2,?_⟩;rcases akq c1 with e|e
   .exact jf e
   .exact je (jf e)
  |false=>
   have f:∀bs fu,vX v bs fu x0 x1 x2 x3 x4 x5 x6 x7=⟨3,[x0,x1,x2,x3,x4,x5,x6,x7],[]⟩:=λbs fu=>by
    unfold vX Cj;rw[hv,jg (by simp)]
   rw[f,f];exact⟨IV.refl _,je (je rfl)⟩
def kH:ji:=⟨#[118,97,114,32,97,32,61,32,82,48,59,32,118,97,114,32,98,32,61,32,82,55,59,32,82,48,32,61,32,97,32,43,32,98,59,32,82,49,32,61,32,97,32,45,32,98,59,32,82,50,32,61,32,97,32,42,32,98,59,32,82,51,32,61,32,97,32,47,32,98,59,32,82,52,32,61,32,97,32,37,32,98,59,32,82,53,32,61,32,45,97,59,32,82,54,32,61,32,48,59,32,105,102,32,97,32,60,32,98,32,123,32,82,54,32,61,32,82,54,32,43,32,49,59,32,125,32,105,102,32,97,32,60,61,32,98,32,123,32,82,54,32,61,32,82,54,32,43,32,50,59,32,125,32,105,102,32,97,32,61,61,32,98,32,123,32,82,54,32,61,32,82,54,32,43,32,52,59,32,125,32,105,102,32,97,32,62,32,98,32,123,32,82,54,32,61,32,82,54,32,43,32,56,59,32,125,32,105,102,32,97,32,62,61,32,98,32,123,32,82,54,32,61,32,82,54,32,43,32,49,54,59,32,125,32,105,102,32,97,32,33,61,32,98,32,123,32,82,54,32,61,32,82,54,32,43,32,51,50,59,32,125]⟩
def V8:jG:=sJ 0 ⟨⟨#[97]⟩,4⟩ (wQ 8 0)
def V9:jG:=sJ 12 ⟨⟨#[98]⟩,16⟩ (wQ 20 7)
def Ws:jG:=mY 24 0 (kK 29 (kE [43]).2 ⟨#[43]⟩ (oZ 29 ⟨⟨#[97]⟩,29⟩) (oZ 33 ⟨⟨#[98]⟩,33⟩))
def Wu:jG:=mY 36 1 (kK 41 (kE [45]).2 ⟨#[45]⟩ (oZ 41 ⟨⟨#[97]⟩,41⟩) (oZ 45 ⟨⟨#[98]⟩,45⟩))
def Wv:jG:=mY 48 2 (kK 53 (kE [42]).2 ⟨#[42]⟩ (oZ 53 ⟨⟨#[97]⟩,53⟩) (oZ 57 ⟨⟨#[98]⟩,57⟩))
def Wx:jG:=mY 60 3 (kK 65 (kE [47]).2 ⟨#[47]⟩ (oZ 65 ⟨⟨#[97]⟩,65⟩) (oZ 69 ⟨⟨#[98]⟩,69⟩))
def Wy:jG:=mY 72 4 (kK 77 (kE [37]).2 ⟨#[37]⟩ (oZ 77 ⟨⟨#[97]⟩,77⟩) (oZ 81 ⟨⟨#[98]⟩,81⟩))
def WA:jG:=mY 84 5 (oV 89 1 ⟨#[45]⟩ (oZ 90 ⟨⟨#[97]⟩,90⟩))
def WB:jG:=mY 93 6 (kN 98 0)
def WC:jG:=nY 101 (kK 104 (kE [60]).2 ⟨#[60]⟩ (oZ 104 ⟨⟨#[97]⟩,104⟩) (oZ 108 ⟨⟨#[98]⟩,108⟩)) [mY 112 6 (kK 117 (kE [43]).2 ⟨#[43]⟩ (wQ 117 6) (kN 122 1))] []
def Wh:jG:=nY 127 (kK 130 (kE [60,61]).2 ⟨#[60,61]⟩ (oZ 130 ⟨⟨#[97]⟩,130⟩) (oZ 135 ⟨⟨#[98]⟩,135⟩)) [mY 139 6 (kK 144 (kE [43]).2 ⟨#[43]⟩ (wQ 144 6) (kN 149 2))] []
def Wi:jG:=nY 154 (kK 157 (kE [61,61]).2 ⟨#[61,61]⟩ (oZ 157 ⟨⟨#[97]⟩,157⟩) (oZ 162 ⟨⟨#[98]⟩,162⟩)) [mY 166 6 (kK 171 (kE [43]).2 ⟨#[43]⟩ (wQ 171 6) (kN 176 4))] []
def Wj:jG:=nY 181 (kK 184 (kE [62]).2 ⟨#[62]⟩ (oZ 184 ⟨⟨#[97]⟩,184⟩) (oZ 188 ⟨⟨#[98]⟩,188⟩)) [mY 192 6 (kK 197 (kE [43]).2 ⟨#[43]⟩ (wQ 197 6) (kN 202 8))] []
def Wp:jG:=nY 207 (kK 210 (kE [62,61]).2 ⟨#[62,61]⟩ (oZ 210 ⟨⟨#[97]⟩,210⟩) (oZ 215 ⟨⟨#[98]⟩,215⟩)) [mY 219 6 (kK 224 (kE [43]).2 ⟨#[43]⟩ (wQ 224 6) (kN 229 16))] []
def Wq:jG:=nY 235 (kK 238 (kE [33,61]).2 ⟨#[33,61]⟩ (oZ 238 ⟨⟨#[97]⟩,238⟩) (oZ 243 ⟨⟨#[98]⟩,243⟩)) [mY 247 6 (kK 252 (kE [43]).2 ⟨#[43]⟩ (wQ 252 6) (kN 257 32))] []
def QK:Ps:=⟨⟨5,⟨#[118,97,114]⟩,0⟩,0,0,0⟩
def rp1:Ps:=⟨⟨5,⟨#[118,97,114]⟩,12⟩,0,0,0⟩
def rp2:Ps:=⟨⟨4,⟨#[82,48]⟩,24⟩,0,0,0⟩
def rp3:Ps:=⟨⟨4,⟨#[82,49]⟩,36⟩,0,0,0⟩
def rp4:Ps:=⟨⟨4,⟨#[82,50]⟩,48⟩,0,0,0⟩
def rp5:Ps:=⟨⟨4,⟨#[82,51]⟩,60⟩,0,0,0⟩
def rp6:Ps:=⟨⟨4,⟨#[82,52]⟩,72⟩,0,0,0⟩
def rp7:Ps:=⟨⟨4,⟨#[82,53]⟩,84⟩,0,0,0⟩
def rp8:Ps:=⟨⟨4,⟨#[82,54]⟩,93⟩,0,0,0⟩
def rp9:Ps:=⟨⟨5,⟨#[105,102]⟩,101⟩,0,0,0⟩
def afl:Ps:=⟨⟨5,⟨#[105,102]⟩,127⟩,0,0,0⟩
def afm:Ps:=⟨⟨5,⟨#[105,102]⟩,154⟩,0,0,0⟩
def afn:Ps:=⟨⟨5,⟨#[105,102]⟩,181⟩,0,0,0⟩
def afo:Ps:=⟨⟨5,⟨#[105,102]⟩,207⟩,0,0,0⟩
def afp:Ps:=⟨⟨5,⟨#[105,102]⟩,235⟩,0,0,0⟩
def NH:Ps:=⟨⟨1,⟨#[]⟩,262⟩,0,0,0⟩
def Ii:List jG:=[V8,V9,Ws,Wu,Wv,Wx,Wy,WA,WB,WC,Wh,Wi,Wj,Wp,Wq]
theorem arD:nD kH (kT kH 21) (oJ kH (lZ kH 20)) (kT kH 20) (kH.size+1) QK=(some V8,rp1):=by kernel_rfl
theorem arE:nD kH (kT kH 21) (oJ kH (lZ kH 20)) (kT kH 20) (kH.size+1) rp1=(some V9,rp2):=by kernel_rfl
theorem arK:nD kH (kT kH 21) (oJ kH (lZ kH 20)) (kT kH 20) (kH.size+1) rp2=(some Ws,rp3):=by kernel_rfl
theorem arL:nD kH (kT kH 21) (oJ kH (lZ kH 20)) (kT kH 20) (kH.size+1) rp3=(some Wu,rp4):=by kernel_rfl
theorem arM:nD kH (kT kH 21) (oJ kH (lZ kH 20)) (kT kH 20) (kH.size+1) rp4=(some Wv,rp5):=by kernel_rfl
theorem arN:nD kH (kT kH 21) (oJ kH (lZ kH 20)) (kT kH 20) (kH.size+1) rp5=(some Wx,rp6):=by kernel_rfl
theorem arO:nD kH (kT kH 21) (oJ kH (lZ kH 20)) (kT kH 20) (kH.size+1) rp6=(some Wy,rp7):=by kernel_rfl
theorem arP:nD kH (kT kH 21) (oJ kH (lZ kH 20)) (kT kH 20) (kH.size+1) rp7=(some WA,rp8):=by kernel_rfl
theorem arQ:nD kH (kT kH 21) (oJ kH (lZ kH 20)) (kT kH 20) (kH.size+1) rp8=(some WB,rp9):=by kernel_rfl
theorem arR:nD kH (kT kH 21) (oJ kH (lZ kH 20)) (kT kH 20) (kH.size+1) rp9=(some WC,afl):=by kernel_rfl
theorem arF:nD kH (kT kH 21) (oJ kH (lZ kH 20)) (kT kH 20) (kH.size+1) afl=(some Wh,afm):=by kernel_rfl
theorem arG:nD kH (kT kH 21) (oJ kH (lZ kH 20)) (kT kH 20) (kH.size+1) afm=(some Wi,afn):=by kernel_rfl
theorem arH:nD kH (kT kH 21) (oJ kH (lZ kH 20)) (kT kH 20) (kH.size+1) afn=(some Wj,afo):=by kernel_rfl
theorem arI:nD kH (kT kH 21) (oJ kH (lZ kH 20)) (kT kH 20) (kH.size+1) afo=(some Wp,afp):=by kernel_rfl
theorem arJ:nD kH (kT kH 21) (oJ kH (lZ kH 20)) (kT kH 20) (kH.size+1) afp=(some Wq,NH):=by kernel_rfl
theorem arS:nD kH (kT kH 21) (oJ kH (lZ kH 20)) (kT kH 20) (kH.size+1) NH=(none,NH):=by kernel_rfl
theorem arj:xE kH=QK:=by kernel_rfl
theorem QE.eq{t:Int}{s:jG}{F F':lQ}(h:QE t s F)(he:∀v p,F v p=F' v p):QE t s F':=by
 obtain rfl:F=F':=funext λv=>funext λp=>he v p;exact h
def wB(i:Int)(g:List (ji×Int)->Int):lQ:=λ_ p=>.inr {p with jF:=sS p.jF i (g p.env)}
def bump(c:Bool)(k:Int)(σ:Int->Int):Int->Int:=if c then sS σ 6 (wrap64 (σ 6+k))else σ
def yS(c:List (ji×Int)->Bool)(k:Int):lQ:=λ_ p=>.inr {p with jF:=bump (c p.env) k p.jF}
def Ql(n:ji)(i:Int):lQ:=λ_ p=>.inr {p with env:=p.env++[(n,p.jF i)]}
def nA(en:List (ji×Int)):Int:=lookup ⟨#[97]⟩ en
def nB(en:List (ji×Int)):Int:=lookup ⟨#[98]⟩ en
theorem I9{c:Bool}{k j:Int}{σ:Int->Int}(h:¬j=6):bump c k σ j=σ j:=by
 unfold bump sS;cases c
 .rfl
 .simp[h]
theorem Ja{c:Bool}{k:Int}{σ:Int->Int}:bump c k σ 6=if c then wrap64 (σ 6+k)else σ 6:=by
 unfold bump sS;cases c<;>simp
theorem Jc{f:Val}{Y:lQ}{c:List (ji×Int)->Bool}{k:Int}(hf:∀en v σ,f en v σ=kW (c en))(hY:∀v p,Y v p=.inr {p with jF:=sS p.jF 6 (wrap64 (p.jF 6+k))})(v:Vw)(p:oH):
 zJ f (qh (oL [Y])) (qh (oL [])) v p=yS c k v p:=by
 unfold zJ yS bump;rw[hf];cases c p.env
 .simp[kW,qh,oL]
 .simp[kW,qh,oL,hY]
theorem Gq:lF [43]=(10,false):=by kernel_rfl
theorem YQ:lF [45]=(11,false):=by kernel_rfl
theorem ag7:lF [42]=(12,false):=by kernel_rfl
theorem ag8:lF [47]=(13,false):=by kernel_rfl
theorem ag9:lF [37]=(14,false):=by kernel_rfl
theorem aha:lF [60]=(15,false):=by kernel_rfl
theorem at1:lF [60,61]=(16,false):=by kernel_rfl
theorem ahb:lF [61,61]=(17,false):=by kernel_rfl
theorem at6:lF [33,61]=(18,false):=by kernel_rfl
theorem at7:lF [62]=(15,true):=by kernel_rfl
theorem ag6:lF [62,61]=(16,true):=by kernel_rfl
theorem rq0:∃t,t<=20/\QE t V8 (Ql ⟨#[97]⟩ 0):=⟨_,by decide,QE.eq (Va (ED 8 0 (by omega)) 0 ⟨⟨#[97]⟩,4⟩) λv p=>rfl⟩
theorem rq1:∃t,t<=20/\QE t V9 (Ql ⟨#[98]⟩ 7):=⟨_,by decide,QE.eq (Va (ED 20 7 (by omega)) 12 ⟨⟨#[98]⟩,16⟩) λv p=>rfl⟩
theorem rq2:∃t,t<=20/\QE t Ws (wB 0 λen=>wrap64 (nA en+nB en)):=⟨_,by decide,QE.eq (wC (qL (sU 29 ⟨⟨#[97]⟩,29⟩) (sU 33 ⟨⟨#[98]⟩,33⟩) 29 ⟨#[43]⟩) 24 0 (by omega)) λv p=>by simp[wB,outcome,two,nA,nB,Gq]⟩
theorem rq3:∃t,t<=20/\QE t Wu (wB 1 λen=>wrap64 (nA en-nB en)):=⟨_,by decide,QE.eq (wC (qL (sU 41 ⟨⟨#[97]⟩,41⟩) (sU 45 ⟨⟨#[98]⟩,45⟩) 41 ⟨#[45]⟩) 36 1 (by omega)) λv p=>by simp[wB,outcome,two,nA,nB,YQ]⟩
theorem rq4:∃t,t<=20/\QE t Wv (wB 2 λen=>wrap64 (nA en * nB en)):=⟨_,by decide,QE.eq (wC (qL (sU 53 ⟨⟨#[97]⟩,53⟩) (sU 57 ⟨⟨#[98]⟩,57⟩) 53 ⟨#[42]⟩) 48 2 (by omega)) λv p=>by simp[wB,outcome,two,nA,nB,ag7]⟩
theorem rq5:∃t,t<=20/\QE t Wx (wB 3 λen=>quot (nA en) (nB en)):=⟨_,by decide,QE.eq (wC (qL (sU 65 ⟨⟨#[97]⟩,65⟩) (sU 69 ⟨⟨#[98]⟩,69⟩) 65 ⟨#[47]⟩) 60 3 (by omega)) λv p=>by simp[wB,outcome,two,nA,nB,ag8]⟩
theorem rq6:∃t,t<=20/\QE t Wy (wB 4 λen=>rest (nA en) (nB en)):=⟨_,by decide,QE.eq (wC (qL (sU 77 ⟨⟨#[97]⟩,77⟩) (sU 81 ⟨⟨#[98]⟩,81⟩) 77 ⟨#[37]⟩) 72 4 (by omega)) λv p=>by simp[wB,outcome,two,nA,nB,ag9]⟩
theorem rq7:∃t,t<=20/\QE t WA (wB 5 λen=>wrap64 (-nA en)):=⟨_,by decide,QE.eq (wC (Qk (sU 90 ⟨⟨#[97]⟩,90⟩) 89 ⟨#[45]⟩ rfl) 84 5 (by omega)) λv p=>rfl⟩
theorem rq8:∃t,t<=20/\QE t WB (wB 6 λ_=>0):=⟨_,by decide,QE.eq (wC (rX 98 0 (by unfold jJ;omega)) 93 6 (by omega)) λv p=>rfl⟩
theorem rq9:∃t,t<=20/\QE t WC (yS (λen=>decide (nA en<nB en)) 1):=⟨_,by decide,QE.eq (GU (qL (sU 104 ⟨⟨#[97]⟩,104⟩) (sU 108 ⟨⟨#[98]⟩,108⟩) 104 ⟨#[60]⟩) (qY (wC (qL (ED 117 6 (by omega)) (rX 122 1 (by unfold jJ;omega)) 117 ⟨#[43]⟩) 112 6 (by omega)) (xZ)) (xZ) 101) λv p=>Jc (λen v σ=>by simp[outcome,two,nA,nB,aha]<;>rfl) (λv p=>by simp[outcome,two,Gq]) v p⟩
theorem arn:∃t,t<=20/\QE t Wh (yS (λen=>decide (nA en<=nB en)) 2):=⟨_,by decide,QE.eq (GU (qL (sU 130 ⟨⟨#[97]⟩,130⟩) (sU 135 ⟨⟨#[98]⟩,135⟩) 130 ⟨#[60,61]⟩) (qY (wC (qL (ED 144 6 (by omega)) (rX 149 2 (by unfold jJ;omega)) 144 ⟨#[43]⟩) 139 6 (by omega)) (xZ)) (xZ) 127) λv p=>Jc (λen v σ=>by simp[outcome,two,nA,nB,at1]<;>rfl) (λv p=>by simp[outcome,two,Gq]) v p⟩
theorem aro:∃t,t<=20/\QE t Wi (yS (λen=>nA en==nB en) 4):=⟨_,by decide,QE.eq (GU (qL (sU 157 ⟨⟨#[97]⟩,157⟩) (sU 162 ⟨⟨#[98]⟩,162⟩) 157 ⟨#[61,61]⟩) (qY (wC (qL (ED 171 6 (by omega)) (rX 176 4 (by unfold jJ;omega)) 171 ⟨#[43]⟩) 166 6 (by omega)) (xZ)) (xZ) 154) λv p=>Jc (λen v σ=>by simp[outcome,two,nA,nB,ahb]<;>rfl) (λv p=>by simp[outcome,two,Gq]) v p⟩
theorem arp:∃t,t<=20/\QE t Wj (yS (λen=>decide (nB en<nA en)) 8):=⟨_,by decide,QE.eq (GU (qL (sU 184 ⟨⟨#[97]⟩,184⟩) (sU 188 ⟨⟨#[98]⟩,188⟩) 184 ⟨#[62]⟩) (qY (wC (qL (ED 197 6 (by omega)) (rX 202 8 (by unfold jJ;omega)) 197 ⟨#[43]⟩) 192 6 (by omega)) (xZ)) (xZ) 181) λv p=>Jc (λen v σ=>by simp[outcome,two,nA,nB,at7]<;>rfl) (λv p=>by simp[outcome,two,Gq]) v p⟩
theorem arq:∃t,t<=20/\QE t Wp (yS (λen=>decide (nB en<=nA en)) 16):=⟨_,by decide,QE.eq (GU (qL (sU 210 ⟨⟨#[97]⟩,210⟩) (sU 215 ⟨⟨#[98]⟩,215⟩) 210 ⟨#[62,61]⟩) (qY (wC (qL (ED 224 6 (by omega)) (rX 229 16 (by unfold jJ;omega)) 224 ⟨#[43]⟩) 219 6 (by omega)) (xZ)) (xZ) 207) λv p=>Jc (λen v σ=>by simp[outcome,two,nA,nB,ag6]<;>rfl) (λv p=>by simp[outcome,two,Gq]) v p⟩
theorem ars:∃t,t<=20/\QE t Wq (yS (λen=>nA en !=nB en) 32):=⟨_,by decide,QE.eq (GU (qL (sU 238 ⟨⟨#[97]⟩,238⟩) (sU 243 ⟨⟨#[98]⟩,243⟩) 238 ⟨#[33,61]⟩) (qY (wC (qL (ED 252 6 (by omega)) (rX 257 32 (by unfold jJ;omega)) 252 ⟨#[43]⟩) 247 6 (by omega)) (xZ)) (xZ) 235) λv p=>Jc (λen v σ=>by simp[outcome,two,nA,nB,at6]<;>rfl) (λv p=>by simp[outcome,two,Gq]) v p⟩
end
end Go.Proofs.YthllhabjfchgiaaGreatDoor
