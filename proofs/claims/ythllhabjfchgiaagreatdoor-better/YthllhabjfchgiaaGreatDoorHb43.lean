import Derived.Test.YthllhabjfchgiaaGreatDoorHb42
import Derived.WideShapes
set_option maxRecDepth 100000
set_option maxHeartbeats 8000000
set_option linter.unusedSimpArgs false
namespace Go.Proofs.YthllhabjfchgiaaGreatDoor
open _root_.Go.Proofs.Tryz
section
open Go.RowKit Hx
attribute [local go_sem ↓] Go.wp_at_zero Go.wp_at_succ
attribute [local go_sem] kL
attribute [local simp] aN
section
variable {w w' w1 w2 w3:jo}{lo hi m q b H:Nat}{u v:jr}{e:Ex}{a:Int}{T:jv}{c:Co}{y n:List jK}
theorem aiJ(he:nN e)(hy:AU y)(hn:AU n)(a0:Int):Cj (rY a0 e y n):=by
 have ec:=he.lW.ok.jy;have yc:=rD hy.wE.ok;have nc:=rD hn.wE.ok;refine⟨aaf he.lW hy.wE hn.wE a0,?_⟩;rintro w lo hi T b ⟨b',us,hv,h1,h2,⟨m,q,u,yv,nv,rfl,hm1,hm2,UD,hu,hyv,UF⟩,hb⟩ hH hk;cases hv;have hk:jS [e.jy,kN y,kN n]<=1000000:=hk;have hkp:=V4 ec.1 ec.2 yc.1 yc.2 nc.1 nc.2 hk;have hk1:1<=jS [e.jy,kN y,kN n]/\jS [e.jy,kN y,kN n]<=1000001:=⟨xK (by simp;exact⟨ec,yc,nc⟩),(Io ec yc nc).2⟩;obtain⟨T1,b1,rfl,hT1,l1,l2,_⟩:=he.lW.ok.head _ _ _ _ _ hu;obtain⟨ya,BU,MG⟩:=F7 (hy.wE.flat hyv);obtain⟨na,Nh,hnf⟩:=F7 (hn.wE.flat UF);obtain⟨yl,hyl⟩:∃yl,y.length=yl:=⟨_,rfl⟩;obtain⟨nl,hnl⟩:∃nl,n.length=nl:=⟨_,rfl⟩;rw[hyl]at MG;rw[hnl]at hnf;clear hyl hnl;subst MG hnf;obtain⟨f1,Gh,kK,H1⟩:=he.fold _ _ _ _ _ _ hu (by omega);have kK:∀args w,(callFunc f1 args).run prog w=.ok (.enter f1 args) w:=kK;have H1:=jB H1;have c2:w.cell? (Ad b 2)=some (.iface T1 (Pt b1 0)):=jH hb;have HB:=jB hb;have HV:=jB (jg hyv UF);have hbw:b<w.heap.size:=by omega
 refine⟨335,λw=>by kernel_rfl,λargs w=>by kernel_rfl,?_⟩;clear hu hb hyv UF;go_enter func335,ntmps335;go_upto_region 1 with fail;refine H1.out.mono ?_;rintro en w1 ⟨v',rfl,hF,hK⟩;have s1:=hK.size;have hb1:=(hK.keep b hbw (jh (by omega))).trans HB.out;have d2:w1.cell? (Ad b 2)=some (.iface T1 (Pt b1 0)):=jH hb1;have fz:∀j,w1.frozen? (Ad b j)=false:=λj=>oh hb1;obtain⟨T3,b3,hv3⟩:=hF.form;subst hv3;have hb2:=aK w1 _ 2 _ _ (.iface T3 (Pt b3 0)) hb1;have sz1:(w1.setCell (Ad b 2) (.iface T3 (Pt b3 0))).heap.size=w1.heap.size:=dI ..;have abK:Fk w (w1.setCell (Ad b 2) (.iface T3 (Pt b3 0))) lo hi:=(hK.wide (aj _) (by omega)).trans (Fk.set h1 h2);have hF1:mQ e.does.fd e.jy (w1.setCell (Ad b 2) (.iface T3 (Pt b3 0))) lo m w.heap.size (w1.setCell (Ad b 2) (.iface T3 (Pt b3 0))).heap.size (.iface T3 (Pt b3 0)):=by
  rw[sz1];exact hF.later λj hj=>qU j (by omega)
 have SA:Hid (mO y (w1.setCell (Ad b 2) (.iface T3 (Pt b3 0))) m q (.slice ya yl BU)/\mO n (w1.setCell (Ad b 2) (.iface T3 (Pt b3 0))) q b (.slice na nl Nh)):=⟨hy.wE.law.loc _ _ _ _ _ HV.out.1 λj j1 j2=>(qU j (by omega)).trans (hK.keep j (by omega) (jh j1)),hn.wE.law.loc _ _ _ _ _ HV.out.2 λj j1 j2=>(qU j (by omega)).trans (hK.keep j (by omega) (jh (by omega)))⟩;have IY:=jB (jg abK (jg hb2 hF1));clear hF hK hb1 hb2 abK hF1 H1 HB HV kK Gh;go_upto_region 1 with fail;generalize hW1:w1.setCell (Ad b 2) (.iface T3 (Pt b3 0))=W1 at *;clear hW1 d2 fz c2;have sW:w.heap.size<=W1.heap.size:=by omega
 have c3:W1.cell? (Ad b 3)=some (.slice ya yl BU):=jH IY.out.2.1;have c4:W1.cell? (Ad b 4)=some (.slice na nl Nh):=jH IY.out.2.1;have DU:Hid (∀y',W1.drew.grownBy y' none->Calls prog 45 #[.slice ya yl BU] y' λen w2=>∃a3 n3 c3,en=.returned (.slice a3 n3 c3)/\Hid (uM y w2 m q W1.heap.size w2.heap.size (.slice a3 n3 c3)/\Fk W1 w2 m q)):=λy' hy'=>by
  have g0:W1.grownBy y' none:=(CY (aN W1 none)).trans hy';have sy:=g0.size;refine(hy.fold y' m q _ (hy.wE.law.loc _ _ _ _ _ SA.out.1 λk _ k2=>g0.block k (by omega) (by simp)) (by omega) (by omega)).mono ?_;rintro en w2 ⟨v',rfl,hF,hK⟩;obtain⟨_,_,_,_,⟨a3,c3,hv3⟩,_⟩:=id hF;subst hv3;exact⟨a3,_,c3,rfl,hF.wide (aj _) (aj _) sy (aj _),(Fk.grown g0).trans hK⟩
 have HF2:Hid (∀w2 y',Fk W1 w2 m q->w2.grownBy y' none->Calls prog 45 #[.slice na nl Nh] y' λen w3=>∃a4 n4 c4,en=.returned (.slice a4 n4 c4)/\Hid (uM n w3 q b w2.heap.size w3.heap.size (.slice a4 n4 c4)/\Fk w2 w3 q b)):=λw2 y' hk2 hy'=>by
  have sy:=hy'.size;have s2:=hk2.size;refine(hn.fold y' q b _ (hn.wE.law.loc _ _ _ _ _ SA.out.2 λk k1 k2=>(hy'.block k (by omega) (by simp)).trans (hk2.keep k (by omega) (by omega))) (by omega) (by omega)).mono ?_;rintro en w3 ⟨v',rfl,hF,hK⟩;obtain⟨_,_,_,_,⟨a4,c4,hv4⟩,_⟩:=id hF;subst hv4;exact⟨a4,_,c4,rfl,hF.wide (aj _) (aj _) sy (aj _),(Fk.grown hy').trans hK⟩
 have HC:Hid (∀w2,Fk W1 w2 m q->w2.cell? (Ad b 4)=some (.slice na nl Nh)/\w2.cell? (Ad b 3)=some (.slice ya yl BU)/\∀j,w2.frozen? (Ad b j)=false):=λw2 hk=>by
  have hb1:=(hk.keep b (by omega) (by omega)).trans IY.out.2.1;exact⟨jH hb1,jH hb1,λj=>oh hb1⟩
 have HC2:Hid (∀w2 w3,Fk W1 w2 m q->Fk w2 w3 q b->w3.cell? (Ad b 4)=some (.slice na nl Nh)/\w3.cell? (Ad b 3)=some (.slice ya yl BU)/\∀j,w3.frozen? (Ad b j)=false):=λw2 w3 hk hk2=>by
  have s1:=hk.size;have hb1:=(hk2.keep b (by omega) (by omega)).trans ((hk.keep b (by omega) (by omega)).trans IY.out.2.1);exact⟨jH hb1,jH hb1,λj=>oh hb1⟩
 have hbW1:b<W1.heap.size:=by omega
 go_cut [] (λwx=>Hid (∃(w2 w3:jo)(a3:Option Addr)(n3 c3:Nat)(a4:Option Addr)(n4 c4:Nat),(uM y w2 m q W1.heap.size w2.heap.size (.slice a3 n3 c3)/\Fk W1 w2 m q)/\(uM n w3 q b w2.heap.size w3.heap.size (.slice a4 n4 c4)/\Fk w2 w3 q b)/\wx=((w3.setCell (Ad b 3) (.slice a3 n3 c3)).setCell (Ad b 4) (.slice a4 n4 c4))))
 case first=>
  refine YL (f:=10) (λ_=>True) [0,1,2,3,4,7,8,9] #[true,true,true,true,true,false,false,true,true,true,false,false,false,false,false,false,false,false] (λl=>l.take 5++(l.drop 7).take 3) (by kernel_rfl) (by kernel_rfl) (by kernel_rfl) (by kernel_rfl) (by kernel_rfl) (by kernel_rfl) trivial (λ_=>?_);simp only[aC,aO,aG,aQ,bZ,dP]
  iterate 8
   (refine yM.cons (v:=?_) (by rfl) (λw hSw=>?_) ?_
    rotate_left
    ·(go_simp;first|done|with_reducible rfl)
    simp only[Act.put,ak,au,ay])
  refine yM.nil ?_;refine aP (rs:=[5,10]) (by kernel_rfl) (by simp) (lS rfl (λK hK=>?_) (lS rfl (λK hK=>?_) aJ))
  .go_simp;refine hK.out _ _ trivial (λ_=>?_);clear hK K;try simp only[ak,au,ay]
   refine aP (rs:=[6,10]) (by kernel_rfl) (by simp) (lS rfl (λK hK=>?_) (lS rfl (λK hK=>?_) aJ))
   .go_simp;refine(DU.out _ (aN _ _)).mono ?_;rintro en w2 ⟨a3,n3,c3,rfl,P1⟩;obtain⟨z4,z3,zf⟩:=HC.out w2 P1.out.2;go_wp2_with fail;refine hK.out _ _ trivial (λ_=>?_);clear hK K;try simp only[ak,au,ay]
    refine aP (rs:=[10]) (by kernel_rfl) (by simp) (lS rfl (λK hK=>?_) aJ);go_simp;refine hK.out _ _ trivial (λ_=>?_);clear hK K;try simp only[ak,au,ay]
    refine aP (rs:=[11]) (by kernel_rfl) (by simp) (lS rfl (λK hK=>?_) aJ);go_simp;refine(HF2.out w2 _ P1.out.2 (aN _ _)).mono ?_;rintro en w3 ⟨a4,n4,c4,rfl,P2⟩;obtain⟨y4,y3,yf⟩:=HC2.out w2 w3 P1.out.2 P2.out.2;go_wp2_with fail;refine hK.out _ _ trivial (λ_=>?_);clear hK K;try simp only[ak,au,ay]
    refine aP (rs:=[12]) (by kernel_rfl) (by simp) (lS rfl (λK hK=>?_) aJ);go_simp;refine hK.out _ _ trivial (λ_=>?_);clear hK K;try simp only[ak,au,ay]
    refine aP (rs:=[13]) (by kernel_rfl) (by simp) (lS rfl (λK hK=>?_) aJ);go_simp;refine hK.out _ _ trivial (λ_=>?_);clear hK K;try simp only[ak,au,ay]
    refine aP (rs:=[14]) (by kernel_rfl) (by simp) (lS rfl (λK hK=>?_) aJ);go_simp;refine hK.out _ _ trivial (λ_=>?_);clear hK K;try simp only[ak,au,ay]
    refine aP (rs:=[15]) (by kernel_rfl) (by simp) (lS rfl (λK hK=>?_) aJ);go_simp;refine hK.out _ _ trivial (λ_=>?_);clear hK K;try simp only[ak,au,ay]
    refine aP (rs:=[16]) (by kernel_rfl) (by simp) (lS rfl (λK hK=>?_) aJ);go_simp;refine hK.out _ _ trivial (λ_=>?_);clear hK K;try simp only[ak,au,ay]
    refine aP (rs:=[17]) (by kernel_rfl) (by simp) (lS rfl (λK hK=>?_) aJ);go_simp;refine hK.out _ _ trivial (λ_=>?_);clear hK K;try simp only[ak,au,ay]
    refine wpAnyH_done (by kernel_rfl) ?_ _;refine NoPanic.normal ?_;go_wp2_with fail;go_meet;exact⟨w2,w3,a3,n3,c3,a4,n4,c4,P1.out,P2.out,rfl⟩
   .go_simp;refine hK.out _ _ trivial (λ_=>?_);clear hK K;try simp only[ak,au,ay]
    refine aP (rs:=[6]) (by kernel_rfl) (by simp) (lS rfl (λK hK=>?_) aJ);go_simp;refine(DU.out _ (aN _ _)).mono ?_;rintro en w2 ⟨a3,n3,c3,rfl,P1⟩;obtain⟨z4,z3,zf⟩:=HC.out w2 P1.out.2;go_wp2_with fail;refine hK.out _ _ trivial (λ_=>?_);clear hK K;try simp only[ak,au,ay]
    refine aP (rs:=[11]) (by kernel_rfl) (by simp) (lS rfl (λK hK=>?_) aJ);go_simp;refine(HF2.out w2 _ P1.out.2 (aN _ _)).mono ?_;rintro en w3 ⟨a4,n4,c4,rfl,P2⟩;obtain⟨y4,y3,yf⟩:=HC2.out w2 w3 P1.out.2 P2.out.2;go_wp2_with fail;refine hK.out _ _ trivial (λ_=>?_);clear hK K;try simp only[ak,au,ay]
    refine aP (rs:=[12]) (by kernel_rfl) (by simp) (lS rfl (λK hK=>?_) aJ);go_simp;refine hK.out _ _ trivial (λ_=>?_);clear hK K;try simp only[ak,au,ay]
    refine aP (rs:=[13]) (by kernel_rfl) (by simp) (lS rfl (λK hK=>?_) aJ);go_simp;refine hK.out _ _ trivial (λ_=>?_);clear hK K;try simp only[ak,au,ay]
    refine aP (rs:=[14]) (by kernel_rfl) (by simp) (lS rfl (λK hK=>?_) aJ);go_simp;refine hK.out _ _ trivial (λ_=>?_);clear hK K;try simp only[ak,au,ay]
    refine aP (rs:=[15]) (by kernel_rfl) (by simp) (lS rfl (λK hK=>?_) aJ);go_simp;refine hK.out _ _ trivial (λ_=>?_);clear hK K;try simp only[ak,au,ay]
    refine aP (rs:=[16]) (by kernel_rfl) (by simp) (lS rfl (λK hK=>?_) aJ);go_simp;refine hK.out _ _ trivial (λ_=>?_);clear hK K;try simp only[ak,au,ay]
    refine aP (rs:=[17]) (by kernel_rfl) (by simp) (lS rfl (λK hK=>?_) aJ);go_simp;refine hK.out _ _ trivial (λ_=>?_);clear hK K;try simp only[ak,au,ay]
    refine wpAnyH_done (by kernel_rfl) ?_ _;refine NoPanic.normal ?_;go_wp2_with fail;go_meet;exact⟨w2,w3,a3,n3,c3,a4,n4,c4,P1.out,P2.out,rfl⟩
  .go_simp;refine hK.out _ _ trivial (λ_=>?_);clear hK K;try simp only[ak,au,ay]
   refine aP (rs:=[5]) (by kernel_rfl) (by simp) (lS rfl (λK hK=>?_) aJ);go_simp;refine hK.out _ _ trivial (λ_=>?_);clear hK K;try simp only[ak,au,ay]
   refine aP (rs:=[6]) (by kernel_rfl) (by simp) (lS rfl (λK hK=>?_) aJ);go_simp;refine(DU.out _ (aN _ _)).mono ?_;rintro en w2 ⟨a3,n3,c3,rfl,P1⟩;obtain⟨z4,z3,zf⟩:=HC.out w2 P1.out.2;go_wp2_with fail;refine hK.out _ _ trivial (λ_=>?_);clear hK K;try simp only[ak,au,ay]
   refine aP (rs:=[11]) (by kernel_rfl) (by simp) (lS rfl (λK hK=>?_) aJ);go_simp;refine(HF2.out w2 _ P1.out.2 (aN _ _)).mono ?_;rintro en w3 ⟨a4,n4,c4,rfl,P2⟩;obtain⟨y4,y3,yf⟩:=HC2.out w2 w3 P1.out.2 P2.out.2;go_wp2_with fail;refine hK.out _ _ trivial (λ_=>?_);clear hK K;try simp only[ak,au,ay]
   refine aP (rs:=[12]) (by kernel_rfl) (by simp) (lS rfl (λK hK=>?_) aJ);go_simp;refine hK.out _ _ trivial (λ_=>?_);clear hK K;try simp only[ak,au,ay]
   refine aP (rs:=[13]) (by kernel_rfl) (by simp) (lS rfl (λK hK=>?_) aJ);go_simp;refine hK.out _ _ trivial (λ_=>?_);clear hK K;try simp only[ak,au,ay]
   refine aP (rs:=[14]) (by kernel_rfl) (by simp) (lS rfl (λK hK=>?_) aJ);go_simp;refine hK.out _ _ trivial (λ_=>?_);clear hK K;try simp only[ak,au,ay]
   refine aP (rs:=[15]) (by kernel_rfl) (by simp) (lS rfl (λK hK=>?_) aJ);go_simp;refine hK.out _ _ trivial (λ_=>?_);clear hK K;try simp only[ak,au,ay]
   refine aP (rs:=[16]) (by kernel_rfl) (by simp) (lS rfl (λK hK=>?_) aJ);go_simp;refine hK.out _ _ trivial (λ_=>?_);clear hK K;try simp only[ak,au,ay]
   refine aP (rs:=[17]) (by kernel_rfl) (by simp) (lS rfl (λK hK=>?_) aJ);go_simp;refine hK.out _ _ trivial (λ_=>?_);clear hK K;try simp only[ak,au,ay]
   refine wpAnyH_done (by kernel_rfl) ?_ _;refine NoPanic.normal ?_;go_wp2_with fail;go_meet;exact⟨w2,w3,a3,n3,c3,a4,n4,c4,P1.out,P2.out,rfl⟩
 case rest=>
  obtain⟨w2,w3,a3,n3,cp3,a4,n4,cp4,p1,p2,hW⟩:=hcut.out;have s2:=p1.2.size;have s3:=p2.2.size;obtain⟨hkw,abz,hF1⟩:=IY.out;have hb2:=(p2.2.keep b (by omega) (by omega)).trans ((p1.2.keep b (by omega) (by omega)).trans abz);have hbW:wc.heap[b]? =some (.cells ([Im a0,Im (jS [e.jy,kN y,kN n]),.iface T3 (Pt b3 0),.slice a3 n3 cp3,.slice a4 n4 cp4,.bool false]:List jr).toArray 341):=by
   rw[hW];exact aK _ _ _ _ _ _ (aK _ _ _ _ _ _ hb2)
  have hag:∀j,j≠b->wc.heap[j]? =w3.heap[j]? :=λj hj=>by
   rw[hW];exact(qU j hj).trans (qU j hj)
  have hsz:wc.heap.size=w3.heap.size:=by rw[hW,dI,dI]
  have hKW:Fk w wc lo hi:=by
   rw[hW];exact(((hkw.trans (p1.2.wide (by omega) (by omega))).trans (p2.2.wide (by omega) (by omega))).trans (Fk.set h1 h2)).trans (Fk.set h1 h2)
  have F1:mQ e.does.fd e.jy wc lo b w.heap.size wc.heap.size (.iface T3 (Pt b3 0)):=(hF1.later λj hj=>(hag j (by omega)).trans ((p2.2.keep j (by omega) (by omega)).trans (p1.2.keep j (by omega) (by omega)))).wide (aj _) (by omega) (aj _) (by omega) (aV _);have F2:uM y wc lo b w.heap.size wc.heap.size (.slice a3 n3 cp3):=(p1.1.later λj hj=>(hag j (by omega)).trans (p2.2.keep j (by omega) (by omega))).wide (by omega) (by omega) (by omega) (by omega);have F3:uM n wc lo b w.heap.size wc.heap.size (.slice a4 n4 cp4):=(p2.1.later λj hj=>hag j (by omega)).wide (by omega) (by omega) (by omega) (by omega);clear hcut hW DU HF2 HC HC2 p1 p2 hb2 abz hkw hF1 IY SA hag c3 c4;obtain⟨e1,_,_,x1,X1,y1,z1,_,_,_,_,_,_,g6⟩:=id F1;cases z1;have Hw:=jB (YJ (g6 wc (o8.refl _ _ _ _ _)).2);have d2:wc.cell? (Ad b 2)=some (.iface T3 (Pt b3 0)):=jH hbW;have d4:wc.cell? (Ad b 4)=some (.slice a4 n4 cp4):=jH hbW;have fz:∀j,wc.frozen? (Ad b j)=false:=λj=>oh hbW;have asC:w.heap.size<=wc.heap.size:=by omega
  have FV:(rY a0 e y n).does.fs=(zB e y n).fs:=rfl;cases hkn:e.does.fd.known with
  |false=>
   rw[hkn]at Hw;have HE:Hid (GK (rY a0 e y n).does.fs (rY a0 e y n).jy wc lo hi w.heap.size wc.heap.size 339 b/\Fk w wc lo hi):=by
    refine⟨aiN h1 h2 (by omega) hbW F1 F2 F3 hk1 (λ_=>by show 1+(e.jy+kN y+kN n)<=jS [e.jy,kN y,kN n];omega) ?_,hKW⟩;rw[FV];simp only[zB];rw[hkn]
    rfl
   clear F1 F2 F3 hKW hbW g6 FV;go_wp2_with fail;refine Hw.out.mono ?_;rintro en wz ⟨rfl,rfl⟩;go_wp2_with fail;exact cu (v:=.tuple #[]) (by simp[results,Tryz.results335,go_sem]) rfl ⟨rfl,HE.out⟩
  |true=>
   rw[hkn]at Hw;simp only[dM]at Hw;have d5:wc.cell? (Ad b 5)=some (.bool false):=jH hbW;have d3:wc.cell? (Ad b 3)=some (.slice a3 n3 cp3):=jH hbW;by_cases hz:e.does.fd.val=0
   .rw[hz]at Hw;have HE:Hid (GK (rY a0 e y n).does.fs (rY a0 e y n).jy (((wc.setCell (Ad b 5) (.bool true)).setCell (Ad b 3) (.slice a4 n4 cp4)).setCell (Ad b 4) (Nl)) lo hi w.heap.size (((wc.setCell (Ad b 5) (.bool true)).setCell (Ad b 3) (.slice a4 n4 cp4)).setCell (Ad b 4) (Nl)).heap.size 339 b/\Fk w (((wc.setCell (Ad b 5) (.bool true)).setCell (Ad b 3) (.slice a4 n4 cp4)).setCell (Ad b 4) (Nl)) lo hi):=by
     have hb3:=aK _ _ 4 _ _ (Nl) (aK _ _ 3 _ _ (.slice a4 n4 cp4) (aK _ _ 5 _ _ (.bool true) hbW));have hs3:(((wc.setCell (Ad b 5) (.bool true)).setCell (Ad b 3) (.slice a4 n4 cp4)).setCell (Ad b 4) (Nl)).heap.size=wc.heap.size:=by rw[dI,dI,dI]
     refine⟨af0 (u0:=.iface T3 (Pt b3 0)) h1 h2 (by omega) hb3 (y:=n) ?_ hk1 (λ_=>by show kN n<=jS [e.jy,kN y,kN n];omega) ?_,((hKW.trans (Fk.set h1 h2)).trans (Fk.set h1 h2)).trans (Fk.set h1 h2)⟩
     .rw[hs3];exact F3.later λj hj=>(qU j (by omega)).trans ((qU j (by omega)).trans (qU j (by omega)))
     .rw[FV];simp only[zB];rw[hkn,hz]
      rfl
    clear F1 F2 F3 hKW hbW g6 FV;go_wp2_with fail;refine Hw.out.mono ?_;rintro en wz ⟨rfl,rfl⟩;go_wp2_with fail;go_end0;exact⟨rfl,HE.out⟩
   .have hzb:(e.does.fd.val==0)=false:=by rw[beq_eq_false_iff_ne];exact hz
    have HE:Hid (GK (rY a0 e y n).does.fs (rY a0 e y n).jy ((wc.setCell (Ad b 5) (.bool true)).setCell (Ad b 4) (Nl)) lo hi w.heap.size ((wc.setCell (Ad b 5) (.bool true)).setCell (Ad b 4) (Nl)).heap.size 339 b/\Fk w ((wc.setCell (Ad b 5) (.bool true)).setCell (Ad b 4) (Nl)) lo hi):=by
     have hb3:=aK _ _ 4 _ _ (Nl) (aK _ _ 5 _ _ (.bool true) hbW);have hs3:((wc.setCell (Ad b 5) (.bool true)).setCell (Ad b 4) (Nl)).heap.size=wc.heap.size:=by rw[dI,dI]
     refine⟨af0 (u0:=.iface T3 (Pt b3 0)) h1 h2 (by omega) hb3 (y:=y) ?_ hk1 (λ_=>by show kN y<=jS [e.jy,kN y,kN n];omega) ?_,(hKW.trans (Fk.set h1 h2)).trans (Fk.set h1 h2)⟩
     .rw[hs3];exact F2.later λj hj=>(qU j (by omega)).trans (qU j (by omega))
     .rw[FV];simp only[zB];rw[hkn];simp only[dM,jk hz]
    clear F1 F2 F3 hKW hbW g6 FV hz;generalize e.does.fd.val=ev at *;go_wp2_with fail;refine Hw.out.mono ?_;rintro en wz ⟨rfl,rfl⟩;go_wp2_with fail;go_end0;exact⟨rfl,HE.out⟩
end
end
section
open Go.RowKit Hx
attribute [local go_sem ↓] Go.wp_at_zero Go.wp_at_succ
attribute [local go_sem] kL
section
variable {w w' w1 w2 w3:jo}{lo hi m q b H:Nat}{u v:jr}{e:Ex}{a:Int}{T:jv}{c:Co}{l:List jK}{x:Sx}
theorem amJ{ya:Option Addr}{yn yc:Nat}(d5:w.cell? (Ad b 5)=some (.slice ya yn yc)):Calls prog 344 #[Pt b 0] w λen w'=>en=.returned (.bool (decide (yn=0)))/\w'=w:=by
 by_cases hy:yn=0
 .subst hy;go_enter func344,ntmps344;go_wp2_with fail;go_ret;exact⟨rfl,rfl⟩
 .have e1:((yn:Int)==0)=false:=by rw[beq_eq_false_iff_ne];omega
  rw[dO hy];clear hy;go_enter func344,ntmps344;go_wp2_with fail;go_ret;exact⟨rfl,rfl⟩
theorem amC{N:Nat}(hN:N<=100000)(hx:qY N nN x)(hl:AU l)(a0:Int)(t:Wd):Cj (tK a0 t x l):=by
 have lc:=rD hl.wE.ok;have xc:=hx.jy;have rc:=uf (x:=x) lc;refine⟨acV hN (Uk hx) hl.wE a0 t,?_⟩;rintro w lo hi T b ⟨b',us,hv,h1,h2,⟨m,u,v,rfl,m1,m2,hu,hv2⟩,hb⟩ hH hk;cases hv;have hk:jS [x.jy,x.round (kN l)]<=1000000:=hk;have hkp:=zJ xc.1 xc.2 rc.1 rc.2 hk;have hg:=NH (x:=x) lc.1 (by omega);have hk1:1<=jS [x.jy,x.round (kN l)]/\jS [x.jy,x.round (kN l)]<=1000001:=⟨xK (by simp;exact⟨xc,rc⟩),(rC xc rc).2⟩;obtain⟨S,fv,rfl,_⟩:=id hu;obtain⟨ya,BU,MG⟩:=F7 (hl.wE.flat hv2);obtain⟨yl,hyl⟩:∃yl,l.length=yl:=⟨_,rfl⟩;rw[hyl]at MG;clear hyl;subst MG;obtain⟨tt,ta⟩:=t;have c4:w.cell? (Ad b 4)=some (Pt S 0):=jH hb;have H1:=jB (WG hx.all (by have:=hx.len;omega) hu (by omega));have HB:=jB hb;have HV:=jB hv2;refine⟨343,λw=>by kernel_rfl,λargs w=>by kernel_rfl,?_⟩;have hbw:b<w.heap.size:=by omega
 clear hu hb hv2;go_enter func343,ntmps343;go_wp2_with fail;refine H1.out.mono ?_;rintro en w1 ⟨rfl,hF,hK⟩;have s1:=hK.size;have hb1:=(hK.keep b hbw (jh (by omega))).trans HB.out;have d5:w1.cell? (Ad b 5)=some (.slice ya yl BU):=jH hb1;have H2:=jB (hl.fold w1 m b _ (hl.wE.law.loc _ _ _ _ _ HV.out λj j1 j2=>hK.keep j (by omega) (jh j1)) (by omega) (by omega));have HS:=jB (jg hF (jg hK hb1));clear hF hK hb1 HB HV H1;go_wp2_with fail;refine H2.out.mono ?_;rintro en w2 ⟨v',rfl,hF2,hK2⟩;obtain⟨hF,hK,hb1⟩:=HS.out;have s2:=hK2.size;have hb2:=(hK2.keep b (by omega) (jh (aj _))).trans hb1;have e5:w2.cell? (Ad b 5)=some (.slice ya yl BU):=jH hb2;have fz:∀j,w2.frozen? (Ad b j)=false:=λj=>oh hb2;obtain⟨l',q3,q4,q5,⟨a4,Z9,hv4⟩,q6⟩:=hF2;subst hv4;have HE:Hid (GK (tK a0 ⟨tt,ta⟩ x l).does.fs (tK a0 ⟨tt,ta⟩ x l).jy (w2.setCell (Ad b 5) (.slice a4 l'.length Z9)) lo hi w.heap.size (w2.setCell (Ad b 5) (.slice a4 l'.length Z9)).heap.size 349 b/\Fk w (w2.setCell (Ad b 5) (.slice a4 l'.length Z9)) lo hi):=by
  have hb3:=aK w2 _ 5 _ _ (.slice a4 l'.length Z9) hb2;have s3:(w2.setCell (Ad b 5) (.slice a4 l'.length Z9)).heap.size=w2.heap.size:=dI ..;obtain⟨fs,e1,e2,e3,e4,e5,e6,e7⟩:=hF;refine⟨⟨_,(acT (x:={x with jF:=fs}) e2 xc q3 a0 ⟨tt,ta⟩ hk1 (λhk=>?_)).does (ds:={lay:=(tK a0 ⟨tt,ta⟩ x l).does.fs.lay,fs:=(tK a0 ⟨tt,ta⟩ x l).does.fs}) ?_,rfl,rfl,λw' ha=>?_⟩,((hK.wide (aj _) (by omega)).trans (hK2.wide (by omega) (by omega))).trans (Fk.set h1 h2)⟩
  .exact⟨Uc hN hx (by omega) e2 e3 e4,by omega,by show 2+x.jy+_<=_;omega⟩
  .funext c
   simp only[MZ,tK,yw,wG];rw[aaT e1,MN q4]
  .have hag:∀j,j≠b->(lo<=j/\j<hi)\/(w.heap.size<=j/\j<w2.heap.size)->w'.heap[j]? =w2.heap[j]? :=λj hj hk=>(ha j (by omega)).trans (qU j hj);have hb':=(ha b (ji ⟨h1,h2⟩)).trans hb3;refine⟨⟨b,_,rfl,h1,by omega,⟨_,_,rfl,?_,?_⟩,hb'⟩,⟨344,λw=>by kernel_rfl,λargs w=>by kernel_rfl,?_⟩,V5 (by simp[Fv]) b w'⟩
   .refine(EL λb hb a=>(e2 b hb).ok.law a).wide _ _ _ _ _ _ (e7 w' λj hj=>?_) (aj _) (by omega);exact(hag j (by omega) (by omega)).trans (hK2.keep j (by omega) (by omega))
   .exact q3.zG.wide _ _ _ _ _ _ (q6 w' λj hj=>hag j (by omega) (by omega)).1 (by omega) (by omega)
   .have h:=amJ (w:=w') (b:=b) (jH hb');rw[MR q4]at h;exact h
 clear hF hK hb1 hb2 hK2 q3 q4 q5 q6 H2 HS;go_wp2_with fail;go_end0;exact⟨rfl,HE.out⟩
theorem ajC(N:Nat)(hN:N<=100000):KW N nN nN AU Cj where
 jy:=λ_ h=>h.lW.ok.jy
 Qm:=λa t _ h=>amR h a t
 Ri:=λt _ h=>aqm h t
 Ru:=λa i _ h=>aqZ h a i
 QJ:=λa _ _ h k=>aoU h k a
 returning:=λa=>apL a
 choice:=λa _ _ _ h hy hn=>aiJ h hy hn a
 loop:=λa t _ _ hx hl=>amC hN hx hl a t
theorem aqW(s:jm)(hs:s.size<=4000)(d:Nat)(p:Ps):AU (oH s d p).1:=
 Rq s (λ_=>nN) (λ_=>Cj) (λ_=>AU) (ajt s hs) (λ_=>ajC (s.size+1) (by omega)) (λ_=>Qe (by simp)) (λ_ _ _ h=>Qe h) d p
theorem aow(s:jm):AU (mY s).1:=by
 unfold mY;split
 .exact Qe (by simp)
 .have hs:s.size<=4000:=by omega
  unfold uI;split
  .exact aqW s hs 21 _
  .exact Qe (by simp)
theorem aiG(s:jm)(h:(lV s).2.1=0):AU (lV s).1:=by
 unfold lV at h⊢;split at h
 .contradiction
 split at h
 .contradiction
 split at h
 .exact jq h (by decide)
 .rename_i h1 h2 h3;rw[jk h1,jk h2,jk h3];exact aow s
def Bo(s:jm):jm×Int×Int:=if (lV s).2.1≠0 then (⟨#[]⟩,(lV s).2.1,(lV s).2.2)else (strOfNums (xE (kS (lV s).1)),0,0)
theorem aiY(s:jm)(w:jo):Calls prog 12 #[.string s,.bool true] w λe w'=>e=.returned (.tuple #[.string (Bo s).1,Im (Bo s).2.1,Im (Bo s).2.2])/\w.grownBy w' none:=by
 have HC:Hid (Calls prog 44 #[.string s] w λe w'=>∃v,e=.returned (.tuple #[v,.agg #[Im (lV s).2.1,Im (lV s).2.2]])/\mO (lV s).1 w' w.heap.size w'.heap.size v/\w.grownBy w' none):=aac s w;have DV:Hid ((lV s).2.1=0->AU (lV s).1/\kN (lV s).1<=1000000):=λh=>⟨aiG s h,(aad s h).2⟩;unfold Bo;generalize lV s=R at *;obtain⟨L,en,ea⟩:=R;simp only at HC DV⊢;by_cases he:en=0
 .subst he;obtain⟨hL,hk⟩:=DV.out rfl;have HL:Hid (AU L/\kN L<=1000000):=⟨hL,hk⟩;clear DV hL hk;simp only[ne_eq,not_true_eq_false,cZ];generalize hcs:strOfNums (xE (kS L))=cs at *;have RQ:=jB hcs;clear hcs;go_enter func12,ntmps12;go_wp2_with fail;refine HC.out.mono ?_;rintro e w1 ⟨v,rfl,h1,g1⟩;obtain⟨va,vn,vc,rfl⟩:=Jz h1;have HK:Hid (∀o,Calls prog 45 #[.slice va vn vc] (w1.alloc o) λe w'=>∃a3 n3 c3,e=.returned (.slice a3 n3 c3)/\Hid (Calls prog 46 #[.slice a3 n3 c3] w' λe w2=>e=.returned (.string cs)/\w.grownBy w2 none)):=λo=>by
   have g0:=ah w1 o none;have s1:=g1.size;have s0:=g0.size;refine(HL.out.1.fold (w1.alloc o) w.heap.size w1.heap.size _ (HL.out.1.wE.law.loc _ _ _ _ _ h1 λb _ b2=>g0.block b (by omega) (by simp)) s0 HL.out.2).mono ?_;rintro e w' ⟨v',e1,hF,hK⟩;obtain⟨l',q1,q2,q3,⟨a3,c3,hv3⟩,q4⟩:=hF;subst hv3;refine⟨a3,_,c3,e1,?_⟩;have hn:xE l'=xE (kS L):=by unfold xE;rw[MN q2]
   have s2:=hK.size;have h2:=(q4 w' (o8.refl _ _ _ _ _)).1;have hk:=HL.out.2;refine(aan q1 h2 (aj _) (by omega)).mono ?_;rintro e w2 ⟨r1,r2⟩;refine⟨by rw[r1,hn,RQ.out],?_⟩;have g2:=g1.trans g0;exact⟨r2.os.trans (hK.os.trans g2.os),r2.tape.trans (hK.tape.trans g2.tape),r2.output.trans (hK.output.trans g2.output),by have:=r2.size;omega,λk hk _=>(r2.block k (by omega) (by simp)).trans ((hK.keep k (by omega) (ji hk)).trans (g2.block k hk (by simp)))⟩
  clear h1 g1 HC HL;go_wp2_with fail;refine(HK.out _).mono ?_;rintro e w2 ⟨a3,n3,c3,rfl,HQ⟩;clear HK;go_wp2_with fail;refine HQ.out.mono ?_;rintro e w3 ⟨rfl,g3⟩;have HG:Hid (w.grownBy w3 none):=g3;clear g3 HQ;go_wp2_with fail;exact cu (by simp[results,Tryz.results12,go_sem]) rfl ⟨rfl,HG.out⟩
 .have hb:(en !=0)=true:=by simp[he]
  clear DV;rw[jl he];go_enter func12,ntmps12;go_wp2_with fail;refine HC.out.mono ?_;rintro e w1 ⟨v,rfl,h1,g1⟩;have HG:Hid (w.grownBy w1 none):=g1;clear h1 g1 HC;go_wp2_with fail;go_quiet (fail);go_wp2_with fail;exact cu (by simp[results,Tryz.results12,go_sem]) rfl ⟨rfl,HG.out.trans ((ah _ _ none).trans (lH _ _))⟩
end
end
section
open Go.RowKit Hx
def aaX:Option oz⊕oz->Option oz
 | .inl r=>r
 | .inr p=>some p
def EG(l:List Int):Int->Int:=λi=>l.getD i.toNat 0
theorem aoI{d:Nat}(h:((8^d:Nat):Int)<=1000001):d<=6:=by
 rcases dG d 7 with h1|h1
 .omega
 .have h2:8^7<=8^d:=Nat.pow_le_pow_right (by omega) h1;have h3:(8^7:Nat)=2097152:=by decide
  omega
theorem aaq{l g:List jK}{zs:List (Sz×mG)}{t:Int}(h:qX l zs t)(ht:t<=4000)(hk:(oG l ⟨[],0,0⟩).en=0)(hc:lQ l<=1000000)(hg:g=l\/g=kS l):
 vX (strOfNums (xE g)).data.toList=true/\∀(v:Vw)(x0 x1 x2 x3 x4 x5 x6 x7:Int),nH v->AO v=true->(∀x∈[x0,x1,x2,x3,x4,x5,x6,x7],jO x)->
  EZ [x0,x1,x2,x3,x4,x5,x6,x7] (aaX (qH (oZ (zs.map λq:Sz×mG=>q.2)) v ⟨[],EG [x0,x1,x2,x3,x4,x5,x6,x7],[]⟩)) (ru v (strOfNums (xE g)).data.toList (lX (strOfNums (xE g)).data.toList).jD x0 x1 x2 x3 x4 x5 x6 x7):=by
 have q:=Ig h;have qw:=q.wide;have ql:=q.jM;obtain⟨a1,a2⟩:=q.all hc;have hfit:Fit ⟨[],0,0⟩ vC:=⟨rfl,rfl,(λn hn=>by cases hn),by show(8:Int)<=8;omega⟩;have LW:Ctx vC:=⟨rfl,(λj n hn=>by cases hn)⟩;obtain⟨b1,b2⟩:=Ot h;have hfr:∃fr:Fr,kU g vC=⟨vC.code++jX fr.is,vC.jA,vC.free⟩/\Xt vC (kC zs) fr/\yG ⟨[],0,0⟩ vC ⟨vC.code++jX fr.is,vC.jA,vC.free⟩ fr (qH (oZ (zs.map λq:Sz×mG=>q.2))):=by
  rcases hg with rfl|rfl
  .exact b1 _ _ hfit LW hk (by show(8:Int)+_<=2008;omega)
  .exact b2 _ _ hfit LW hk (by show(8:Int)+_<=2008;omega)
 obtain⟨fr,e1,e2,e3⟩:=hfr;have xn:=e2.jD;have xd:=e2.deep;have xl:=e2.jM;have x0n:=e2.ok.jD;have hcode:xE g=jX (fr.is++[⟨0,[]⟩]):=by
  unfold xE;rw[e1];show[]++jX fr.is++enc ⟨0,[]⟩=_;rw[nI,nk,l9,aX,dP]
 have hbytes:(strOfNums (xE g)).data.toList=Hx.bytes (jX (fr.is++[⟨0,[]⟩])):=by rw[hcode];rfl
 have aj0:=aoI (d:=(kC zs).deep) (by omega);have hlen:(jX (fr.is++[(⟨0,[]⟩:I)])).length<=100000:=by
  have:=OO;rw[nI,aA,nk,l9,aX];omega
 obtain⟨t1,t2,t3,t4⟩:=amu e2.ok (by omega) (by omega) hlen;rw[hbytes];refine⟨t1,λv x0 x1 x2 x3 x4 x5 x6 x7 hv hvo hx=>?_⟩;have rO:=(ad5 v hvo _ t1 0 x0 x1 x2 x3 x4 x5 x6 x7).2.1;have hout:∀f:Int,ru v (Hx.bytes (jX (fr.is++[⟨0,[]⟩]))) f x0 x1 x2 x3 x4 x5 x6 x7=Hx.runs v (fr.jC 0 []++[⟨1,0,0,0,0,0,0⟩]) [x0,x1,x2,x3,x4,x5,x6,x7] f.toNat 0 (su x0 x1 x2 x3 x4 x5 x6 x7 (rQ fr.is 8).toNat):=λf=>by
  rw[ru,Az,jl hvo,t2,t3]
 rw[t4]at rO⊢;rw[hout]at rO⊢;have h8:=WH fr.is 8;generalize hm:su x0 x1 x2 x3 x4 x5 x6 x7 (rQ fr.is 8).toNat=m0 at *;have hml:m0.jE.length=(rQ fr.is 8).toNat:=by
  rw[<-hm];simp[su];omega
 have akz:m0.left.length=8:=by rw[<-hm];simp[su]
 have hmr:∀i:Int,0<=i->i<8->m0.get i=EG [x0,x1,x2,x3,x4,x5,x6,x7] i:=λi i0 i1=>by
  rw[<-hm];unfold su Mc.get EG;simp only;have:i.toNat<[x0,x1,x2,x3,x4,x5,x6,x7].length:=by simp;omega
  rw[aU,aU,aT this]
 have hlow:kY fr.is m0.jE.length:=by
  rw[hml,iH (by omega)];exact ac1 fr.is 8
 have hrep:uO vC m0 ⟨[],EG [x0,x1,x2,x3,x4,x5,x6,x7],[]⟩:=⟨rfl,hmr,by rw[<-hm];rfl⟩;have hty:nO ⟨[],0,0⟩ ⟨[],EG [x0,x1,x2,x3,x4,x5,x6,x7],[]⟩:=by
  refine⟨λi i0 i1=>?_,rfl,λj k n hj=>by cases hj⟩;show jO (EG [x0,x1,x2,x3,x4,x5,x6,x7] i);unfold EG;have:i.toNat<[x0,x1,x2,x3,x4,x5,x6,x7].length:=by simp;omega
  rw[aU,bU this];exact hx _ (fG this)
 have akE:sK (fr.jC 0 []++[⟨1,0,0,0,0,0,0⟩]) 0 (fr.jC 0 []):=λj s hj=>by
  rw[gW,aT (List.getElem?_eq_some_iff.1 hj).1];exact hj
 have PK:=e3 v (fr.jC 0 []++[⟨1,0,0,0,0,0,0⟩]) [x0,x1,x2,x3,x4,x5,x6,x7] 0 [] m0 _ hv akE (by show 0+fr.deep<=8;omega) akz hlow hrep hty;have hstop:∃o,Bh v (fr.jC 0 []++[⟨1,0,0,0,0,0,0⟩]) [x0,x1,x2,x3,x4,x5,x6,x7] 0 m0 o/\EZ [x0,x1,x2,x3,x4,x5,x6,x7] (aaX (qH (oZ (zs.map λq:Sz×mG=>q.2)) v ⟨[],EG [x0,x1,x2,x3,x4,x5,x6,x7],[]⟩)) o:=by
  cases hR:qH (oZ (zs.map λq:Sz×mG=>q.2)) v ⟨[],EG [x0,x1,x2,x3,x4,x5,x6,x7],[]⟩with
  |inl r=>
   rw[hR]at PK;exact Ve.1 PK
  |inr p=>
   rw[hR]at PK;obtain⟨m',g1,g2,g3,g4,g5⟩:=PK;have hend:(fr.jC 0 []++[(⟨1,0,0,0,0,0,0⟩:St)])[0+fr.size]? =some ⟨1,0,0,0,0,0,0⟩:=by
    rw[gW,bW (by rw[e2.ok.size];exact aj _),e2.ok.size];simp
   refine⟨⟨0,m'.jE,m'.jP⟩,g1.stops (WL hend ?_),rfl,λi hi=>?_,g2.jP⟩
   .unfold Hx.step;rw[jl (by rfl)]
   .have:=g2.jG (i:Int) (by omega) (by omega);rw[<-this];unfold Mc.get;rw[bK]
 obtain⟨o,⟨n,hn⟩,ho⟩:=hstop;have hmore:=QV (fr.jD+1).toNat ((fr.jD+1).toNat+n) 0 m0 (by omega) rO;have:=hn (fr.jD+1).toNat;rw[show((0:Nat):Int)=0 from rfl,hmore]at this;rw[this];exact ho
def Hx.kT(s:jm):jm:=s++⟨#[32,10,32]⟩
theorem BO(s:jm):(kT s).data.toList=s.data.toList++[32,10,32]:=by
 unfold kT;rw[ByteArray.data_append,Array.toList_append]
theorem Dt(s:jm):(kT s).size=s.size+3:=by
 have:=congrArg List.length (BO s);rw[aA,eX,eX]at this;exact this
theorem yD(s:jm):s.data.toList.length=s.size:=eX
theorem Jg(t:jm)(a b:Nat):(t.extract a b).data.toList=(t.data.toList.drop a).take (b-a):=by
 rw[ByteArray.data_extract,Array.toList_extract,List.extract_eq_take_drop]
theorem QE(s:jm)(a b:Nat)(h:b<=s.size):(kT s).extract a b=s.extract a b:=by
 apply Go.WideShapes.bytes_inj;rw[Jg,Jg,BO];have hl:=yD s;rcases gX a s.size with ha|ha
 .rw[iw (by omega),List.take_append_of_le_length (by rw[fA];omega)]
 .rw[show b-a=0 by omega,aO,aO]
theorem aos(s:jm)(a:Nat)(h:a<=s.size):(kT s).extract a (kT s).size=kT (s.extract a s.size):=by
 apply Go.WideShapes.bytes_inj;have hl:=yD s;rw[BO,Jg,Jg,BO,Dt,iw (by omega),eU (by simp;omega),eU (by simp)]
theorem WJ(p:Int->Bool)(h:p 32=false):∀l:List UInt8,span p (l++[32,10,32])=span p l
 |[]=>by
  unfold span;rw[dP,List.takeWhile_cons_of_neg (by show¬p ((32:UInt8).toNat:Int)=true;rw[show(((32:UInt8).toNat:Nat):Int)=32 from rfl,h];simp),List.takeWhile_nil]
 |a::l=>by
  have ih:=WJ p h l;unfold span at ih⊢;rw[bZ,gY,gY];split
  .rw[aF,aF,ih]
  .rfl
theorem afu:∀l:List UInt8,span vI l=l.length->span vI (l++[32,10,32])=l.length+3
 |[],_=>rfl
 |a::l,h=>by
  unfold span at h⊢;rw[gY]at h;rw[bZ,gY];split at h
  .rename_i ha;rw[aF,aF]at h;have ih:=afu l (by unfold span;omega);unfold span at ih;rw[jl ha,aF,aF,ih]
  .simp at h
theorem afv:∀l:List UInt8,span vI l<l.length->span vI (l++[32,10,32])=span vI l
 |[],h=>by simp at h
 |a::l,h=>by
  unfold span at h⊢;rw[gY]at h⊢;rw[bZ,gY];split
  .rename_i ha;rw[jl ha,aF,aF]at h;have ih:=afv l (by unfold span;omega);unfold span at ih;rw[aF,aF,ih]
  .rfl
theorem VZ(t:jm)(h:1<=t.size):(kT t).data.toList.getD 0 0=t.data.toList.getD 0 0:=by
 have hl:=yD t;rw[BO,aU,aU,aT (by omega)]
theorem aei(t:jm)(h:1<=t.size):(kT t).data.toList.drop 1=t.data.toList.drop 1++[32,10,32]:=by
 have hl:=yD t;rw[BO,iw (by omega)]
theorem aor(t:jm)(h:1<=t.size):zA (kT t)=zA t:=by
 have hl:=yD t;have hs:=NQ Dj (t.data.toList.drop 1);rw[fA]at hs;unfold zA;rw[aei t h,WJ Dj (by decide)];generalize span Dj (t.data.toList.drop 1)=n at *;unfold DJ;rw[QE t 0 (1+n) (by omega)]
theorem aop(t:jm)(h:1<=t.size):zx (kT t)=zx t:=by
 unfold zx;rw[aei t h,WJ uS (by decide)]
theorem adO{t:jm}(h:t.size=1):∃a,t.data.toList=[a]:=by
 have hl:=yD t;cases ht:t.data.toList with
 |nil=>rw[ht]at hl;simp at hl;omega
 |cons a l=>
  cases l with
  |nil=>exact⟨a,rfl⟩
  |cons b l=>rw[ht]at hl;simp at hl;omega
theorem anB{u:List UInt8}(h:(32:UInt8)∈u):isSet u=false:=by
 unfold isSet;have e:∀v:List UInt8,(32:UInt8)∉v->(u==v)=false:=λv hv=>by
  rw[beq_eq_false_iff_ne];rintro rfl;exact hv h
 rw[e _ (by decide),e _ (by decide),e _ (by decide)]
 rfl
theorem aoo(t:jm)(h:1<=t.size):xX (kT t)=xX t:=by
 have hl:=yD t;unfold xX;rw[Dt,VZ t h];rcases dG 1 t.size with h1|h1
 .have e1:(kT t).data.toList.getD 1 0=t.data.toList.getD 1 0:=by
   rw[BO,aU,aU,aT (by omega)]
  rw[e1,dR (show 1<t.size+3 by omega),dR h1];split
  .rfl
  .rcases dG t.size 5 with h5|h5
   .rw[jl h5];split
    .rfl
    .rw[anB]
     .rfl
     .rw[aZ,Jg,BO,aQ];have:((t.data.toList++[32,10,32]).take (5-0))[t.size]? =some 32:=by
       rw[iI (by omega),bW (by omega),hl,Nat.sub_self]
       rfl
      exact bT this
   .rw[jk (show¬t.size+3<5 by omega),jk (show¬t.size<5 by omega),QE t 0 5 h5]
 .obtain⟨a,ha⟩:=adO (show t.size=1 by omega);have e1:(kT t).data.toList.getD 1 0=32:=by rw[BO,ha];rfl
  have e2:BJ (t.data.toList.getD 0 0).toNat ((32:UInt8).toNat)=false:=by
   unfold BJ;rw[show decide ((48:Int)<=((32:UInt8).toNat:Int))=false by decide];simp
  rw[e1,e2,iO,dO (show¬1<t.size by omega),gK];rw[jk (show¬(false=true) by simp),jk (show¬(false=true) by simp),jl (show t.size+3<5 by omega),jl (show t.size<5 by omega)]
theorem aoq(t:jm)(h:1<=t.size):yO (kT t)=yO t:=by
 have hl:=yD t;unfold yO;rw[Dt,VZ t h];rcases dG 1 t.size with h1|h1
 .rw[QE t 0 2 (by omega),dR (show 1<t.size+3 by omega),dR h1]
 .obtain⟨a,ha⟩:=adO (show t.size=1 by omega);have e1:Ah ((kT t).extract 0 2).toList=false:=by
   rw[aZ,Jg,BO,ha];show Ah [a,32]=false;unfold Ah;simp
  rw[e1,iO,dO (show¬1<t.size by omega),gK]
theorem aon(t:jm)(h:1<=t.size):sN (kT t)=sN t:=by
 unfold sN Lf;rw[VZ t h,aor t h,aop t h,aoo t h,aoq t h]
def S9(k k':Tk):Prop:=k=k'\/(k.kind=1/\k'.kind=1/\k.text=⟨#[]⟩/\k'.text=⟨#[]⟩)
theorem ae0(s:jm)(i:Nat)(hi:i<=s.size):S9 (scan s i) (scan (kT s) i):=by
 have hl:=yD s;have hn:=NQ vI (s.data.toList.drop i);have hd:(kT s).data.toList.drop i=s.data.toList.drop i++[32,10,32]:=by rw[BO,iw (by omega)]
 rw[fA]at hn;unfold scan;rw[hd];rcases dG (span vI (s.data.toList.drop i)) (s.size-i)with h1|h1
 .rw[afv _ (by rw[fA];omega)];generalize span vI (s.data.toList.drop i)=n at *;have hz:(s.extract (i+n) s.size).size=s.size-(i+n):=by rw[iy];omega
  obtain⟨b1,b2⟩:=Om (s.extract (i+n) s.size) (by omega);left;unfold EK;rw[aos s (i+n) (by omega),aon _ (by omega),jk (by omega),jk (by rw[Dt];omega),QE s _ _ (by omega)]
 .have e1:span vI (s.data.toList.drop i)=s.size-i:=by omega
  rw[afu _ (by rw[fA];omega),e1,fA];right;unfold EK;rw[jl (by omega),jl (by rw[Dt];omega)];exact⟨rfl,rfl,rfl,rfl⟩
section
def kP(p:Ps):Prop:=(p.k.kind=0\/p.k.kind=1)/\p.k.text=⟨#[]⟩
theorem kP.of{p:Ps}(h:kD p):kP p:=⟨ji h.1,h.2⟩
theorem kP.is{p:Ps}(h:kP p){t:List UInt8}(ht:t≠[]):p.is t=false:=by
 unfold Ps.is;rw[h.2];cases t with
 |nil=>exact jq rfl ht
 |cons a l=>rfl
theorem kP.expect{s:jm}{p:Ps}(h:kP p){t:List UInt8}(ht:t≠[]):kD (p.expect s t):=by
 unfold Ps.expect;rw[h.is ht];exact kD.fail p
theorem kP.jW{s:jm}{p:Ps}(h:kP p){t:List UInt8}(ht:t≠[]):kD (p.jW s t):=by
 unfold Ps.jW;split
 .exact kD.fail p
 .exact h.expect ht
theorem kP.name{s:jm}{p:Ps}(h:kP p):kD (p.name s).2:=by
 unfold Ps.name;rw[jk (by rcases h.1 with e|e<;>omega)];exact kD.fail p
theorem kP.set{p:Ps}(h:kP p):setOf p.k.text.data.toList=none:=by rw[h.2];rfl
structure Live(s:jm)(p p':Ps):Prop where
 dp:p.dp=p'.dp
 en:p.en=p'.en
 tok:S9 p.k p'.k
 oQ:0<=p.k.at'
 bd:p.k.at'.toNat+p.k.text.size<=s.size
variable {s:jm}{p p' q q':Ps}
theorem Live.text(h:Live s p p'):p.k.text=p'.k.text:=by
 rcases h.tok with e|e
 .rw[e]
 .rw[e.2.2.1,e.2.2.2]
theorem Live.kind(h:Live s p p'):p.k.kind=p'.k.kind:=by
 rcases h.tok with e|e
 .rw[e]
 .rw[e.1,e.2.1]
theorem Live.is(h:Live s p p')(t:List UInt8):p'.is t=p.is t:=by unfold Ps.is;rw[h.text]
theorem Live.split(h:Live s p p'):p.k=p'.k\/(kP p/\kP p'):=by
 rcases h.tok with e|e
 .exact ji e
 .exact jh ⟨⟨jh e.1,e.2.2.1⟩,⟨jh e.2.1,e.2.2.2⟩⟩
theorem Live.same(h:Live s p p')(hn:¬kP p):p.k=p'.k:=by
 rcases h.split with e|e
 .exact e
 .exact jq e.1 hn
theorem uG{t:List UInt8}(ht:t≠[])(h:p.is t=true):¬kP p:=λb=>by rw[b.is ht]at h;cases h
theorem Np(h:2<=p.k.kind):¬kP p:=λb=>by rcases b.1 with e|e<;>omega
theorem anz{of:Int}(h:setOf p.k.text.data.toList=some of):¬kP p:=λb=>by rw[b.set]at h;cases h
theorem Live.next(h:Live s p p')(hn:¬kP p):Live s (p.next s) (p'.next (kT s))/\p.k.at'+p.k.text.size<=(p.next s).k.at':=by
 have e:=h.same hn;have h0:=h.oQ;have h1:=NJ s _ h.bd;refine⟨⟨h.dp,h.en,?_,h1.1.oQ,h1.1.bd⟩,?_⟩
 .show S9 (scan s _) (scan (kT s) _);rw[<-e];exact ae0 s _ h.bd
 .have:=h1.2;show _<=(scan s (p.k.at'.toNat+p.k.text.size)).at';omega
def Oe(s:jm)(a:Int)(q q':Ps):Prop:=(kD q/\kD q')\/(Live s q q'/\a<=q.k.at')
def oP{α:Type}(s:jm)(a:Int)(r r':α×Ps):Prop:=(kD r.2/\kD r'.2)\/(r.1=r'.1/\Live s r.2 r'.2/\a<=r.2.k.at')
theorem aeL(p p':Ps)(a:Int):Oe s a p.fail p'.fail:=ji ⟨kD.fail p,kD.fail p'⟩
theorem Live.expect(h:Live s p p'){t:List UInt8}(ht:t≠[]):Oe s (p.k.at'+1) (p.expect s t) (p'.expect (kT s) t):=by
 unfold Ps.expect;rw[h.is t];split
 .rename_i e;have hz:1<=p.k.text.size:=by
   have:=yD p.k.text;rw[Dk e]at this;cases t with
   |nil=>exact jq rfl ht
   |cons a l=>simp at this;omega
  obtain⟨h1,h2⟩:=h.next (uG ht e);exact jh ⟨h1,by omega⟩
 .exact aeL _ _ _
theorem Live.Hz(h:Live s p p'):Live s p.Hz p'.Hz:=⟨by show wrap64 _=wrap64 _;rw[h.dp],h.en,h.tok,h.oQ,h.bd⟩
theorem Live.Bz(h:Live s p p'):Live s p.Bz p'.Bz:=⟨by show wrap64 _=wrap64 _;rw[h.dp],h.en,h.tok,h.oQ,h.bd⟩
theorem Live.close(h:Live s p p'){t:List UInt8}(ht:t≠[]):Oe s (p.k.at'+1) (p.close s t) (p'.close (kT s) t):=by
 rcases h.expect ht with⟨b,b'⟩|⟨l,m⟩
 .exact ji ⟨b,b'⟩
 .exact jh ⟨l.Hz,m⟩
theorem Live.jW(h:Live s p p'){t:List UInt8}(ht:t≠[]):Oe s (p.k.at'+1) (p.jW s t) (p'.jW (kT s) t):=by
 unfold Ps.jW;rw[<-h.dp];split
 .exact aeL _ _ _
 .rcases h.expect ht with⟨b,b'⟩|⟨l,m⟩
  .exact ji ⟨b,b'⟩
  .exact jh ⟨l.Bz,m⟩
theorem Live.name(h:Live s p p'):(kD (p.name s).2/\kD (p'.name (kT s)).2)\/((p.name s).1=(p'.name (kT s)).1/\Live s (p.name s).2 (p'.name (kT s)).2/\p.k.at'<=(p.name s).2.k.at'):=by
 unfold Ps.name;rw[<-h.kind];split
 .rename_i e;have hn:=Np (p:=p) (by omega);obtain⟨h1,h2⟩:=h.next hn;rw[h.same hn];rw[h.same hn]at h2;refine jh ⟨rfl,?_,?_⟩
  .exact h1
  .show p'.k.at'<=(p.next s).k.at';omega
 .exact ji ⟨kD.fail p,kD.fail p'⟩
structure rU(s:jm)(ex ex':Ps->Ex×Ps):Prop where
 wU:∀p,kP p->kD (ex p).2
 wV:∀p,kP p->kD (ex' p).2
 rel:∀p p',Live s p p'->oP s p.k.at' (ex p) (ex' p')
variable {ex ex':Ps->Ex×Ps}
theorem TM(h:rU s ex ex')(hp:Live s p p'):oP s (p.k.at'+1) ((ex (p.jW s [40])).1,(ex (p.jW s [40])).2.close s [41]) ((ex' (p'.jW (kT s) [40])).1,(ex' (p'.jW (kT s) [40])).2.close (kT s) [41]):=by
 rcases hp.jW (t:=[40]) (by simp)with⟨b,b'⟩|⟨l,m⟩
 .exact ji ⟨kD.close (h.wU _ (kP.of b)) (by simp),kD.close (h.wV _ (kP.of b')) (by simp)⟩
 .rcases h.rel _ _ l with⟨b,b'⟩|⟨e,l2,m2⟩
  .exact ji ⟨kD.close b (by simp),kD.close b' (by simp)⟩
  .rcases l2.close (t:=[41]) (by simp)with⟨b,b'⟩|⟨l3,m3⟩
   .exact ji ⟨b,b'⟩
   .exact jh ⟨e,l3,by show _<=((ex (p.jW s [40])).2.close s [41]).k.at';omega⟩
theorem ZT(h:rU s ex ex')(hp:Live s p p'):oP s p.k.at' (pY s ex p) (pY (kT s) ex' p'):=by
 have ba:∀{s:jm}{ex:Ps->Ex×Ps}{q:Ps},(∀p,kP p->kD (ex p).2)->kD q->kD ((ex (q.expect s [58])).2.close s [41]):=λhx hb=>kD.close (hx _ (kP.of (kP.expect (kP.of hb) (by simp)))) (by simp);rcases hp.jW (t:=[40]) (by simp)with⟨b,b'⟩|⟨l,m⟩
 .exact ji ⟨ba h.wU (kP.name (kP.of b)),ba h.wV (kP.name (kP.of b'))⟩
 .rcases l.name with⟨b,b'⟩|⟨e,l,m⟩
  .exact ji ⟨ba h.wU b,ba h.wV b'⟩
  .rcases l.expect (t:=[58]) (by simp)with⟨b,b'⟩|⟨l,m⟩
   .exact ji ⟨kD.close (h.wU _ (kP.of b)) (by simp),kD.close (h.wV _ (kP.of b')) (by simp)⟩
   .rcases h.rel _ _ l with⟨b,b'⟩|⟨e2,l2,m2⟩
    .exact ji ⟨kD.close b (by simp),kD.close b' (by simp)⟩
    .rcases l2.close (t:=[41]) (by simp)with⟨b,b'⟩|⟨l3,m3⟩
     .exact ji ⟨b,b'⟩
     .refine jh ⟨?_,l3,?_⟩
      .show(_,_)=(_,_);rw[e,e2]
      .refine fD ?_ (fD (Int.le_of_lt (Int.lt_add_one_of_le m2)) m3);omega
theorem afb{s:jm}{ex:Ps->Ex×Ps}(n:Nat)(x:Sx){p:Ps}(hp:kP p):qM s ex n x p=((x,false),p):=by
 cases n with
 |zero=>rfl
 |succ n=>rw[qM,jk (by rw[hp.is (by simp)];simp)]
theorem afe(h:rU s ex ex'):∀(n n':Nat)(x:Sx)(p p':Ps),Live s p p'->(s.size:Int)+1<=n+p.k.at'->(s.size:Int)+1<=n'+p.k.at'->oP s p.k.at' (qM s ex n x p) (qM (kT s) ex' n' x p')
 |0,_,_,p,_,hp,hn,_=>by have:=hp.bd;have:=hp.oQ;omega
 |_+1,0,_,p,_,hp,_,hn=>by have:=hp.bd;have:=hp.oQ;omega
 |n+1,n'+1,x,p,p',hp,hn,hn'=>by
  rw[qM,qM,hp.is];by_cases e:p.is [46]=true
  .rw[jl e,jl e];obtain⟨l1,m1⟩:=hp.next (uG (by simp) e);have hz:p.k.text.size=1:=by have:=yD p.k.text;rw[Dk e]at this;exact this.symm
   rw[l1.is];by_cases e2:(p.next s).is [102,105,108,116,101,114]=true
   .rw[jl e2,jl e2];obtain⟨l2,m2⟩:=l1.next (uG (by simp) e2);rcases ZT h l2 with⟨b,b'⟩|⟨e3,l3,m3⟩
    .rw[afb _ _ (kP.of b),afb _ _ (kP.of b')];exact ji ⟨b,b'⟩
    .rw[<-e3];rcases afe h n n' _ _ _ l3 (by omega) (by omega)with hb|⟨e4,l4,m4⟩
     .exact ji hb
     .exact jh ⟨e4,l4,by omega⟩
   .rw[jk e2,jk e2];exact jh ⟨rfl,l1,by show _<=(p.next s).k.at';omega⟩
  .rw[jk e,jk e];exact jh ⟨rfl,hp,aV _⟩
theorem Q7{s:jm}{ex:Ps->Ex×Ps}(n:Nat){p:Ps}(hp:kP p):kD (mZ s ex n p).2/\(mZ s ex n p).1.2=false:=by
 unfold mZ;rw[hp.set];exact⟨kD.fail p,rfl⟩
theorem afg(h:rU s ex ex'){n n':Nat}(hn:(s.size:Int)+1<=n)(hn':(s.size:Int)+1<=n')(hp:Live s p p'):oP s p.k.at' (mZ s ex n p) (mZ (kT s) ex' n' p'):=by
 unfold mZ;rw[<-hp.text];cases e:setOf p.k.text.data.toList with
 |none=>exact ji ⟨kD.fail p,kD.fail p'⟩
 |some of=>
  have hd:=anz e;obtain⟨l1,m1⟩:=hp.next hd;have hk:=hp.same hd;have h0:=l1.oQ;show oP s _ (qM s ex n _ _) (qM (kT s) ex' n' _ _);rw[<-hk];rcases afe h n n' ⟨p.k.at',1,p.k.text,of,[]⟩ _ _ l1 (by omega) (by omega)with hb|⟨e4,l4,m4⟩
  .exact ji hb
  .exact jh ⟨e4,l4,by omega⟩
theorem Zy(x:Sx)(kind:Int)(hp:Live s p p')(hn:¬kP p):oP s p.k.at' (G9 s x kind p) (G9 (kT s) x kind p'):=by
 obtain⟨l1,m1⟩:=hp.next hn;exact jh ⟨by show xW _ _ _=xW _ _ _;rw[hp.text],l1,by show _<=(p.next s).k.at';omega⟩
theorem Vr(h:rU s ex ex')(x:Sx)(kind:Int)(hp:Live s p p')(hn:¬kP p):oP s p.k.at' (Dp s ex x kind p) (Dp (kT s) ex' x kind p'):=by
 obtain⟨l1,m1⟩:=hp.next hn;rcases ZT h l1 with hb|⟨e,l2,m2⟩
 .exact ji hb
 .exact jh ⟨by show vK _ _ _ _=vK _ _ _ _;rw[hp.text,e],l2,by show _<=(pY s ex (p.next s)).2.k.at';omega⟩
theorem ao7{s:jm}{ex:Ps->Ex×Ps}(x:Sx){p:Ps}(hp:kP p):kD (zL s ex x p).2:=by
 unfold zL;simp only[hp.is (t:=[99,111,117,110,116]) (by simp),hp.is (t:=[102,105,114,115,116]) (by simp),hp.is (t:=[109,105,110]) (by simp),hp.is (t:=[109,97,120]) (by simp),hp.is (t:=[115,117,109]) (by simp),hp.is (t:=[97,110,121]) (by simp)];exact kD.fail p
theorem ao9(h:rU s ex ex')(x:Sx)(hp:Live s p p'):oP s p.k.at' (zL s ex x p) (zL (kT s) ex' x p'):=by
 unfold zL;simp only[hp.is];split
 .exact Zy x 1 hp (uG (t:=[99,111,117,110,116]) (by simp) (by assumption))
 split
 .exact Zy x _ hp (uG (t:=[102,105,114,115,116]) (by simp) (by assumption))
 split
 .rename_i e;refine Vr h x _ hp ?_;rw[iW]at e;rcases e with e|e
  .exact uG (by simp) e
  .exact uG (by simp) e
 split
 .exact Vr h x 1 hp (uG (t:=[115,117,109]) (by simp) (by assumption))
 split
 .exact Vr h x 2 hp (uG (t:=[97,110,121]) (by simp) (by assumption))
 exact ji ⟨kD.fail p,kD.fail p'⟩
theorem apm(h:rU s ex ex'){n n':Nat}(hn:(s.size:Int)+1<=n)(hn':(s.size:Int)+1<=n')(hp:Live s p p'):oP s p.k.at' (yB s ex n p) (yB (kT s) ex' n' p'):=by
 unfold yB;rcases afg h hn hn' hp with⟨b,b'⟩|⟨e,l,m⟩
 .have ba:∀{s:jm}{ex:Ps->Ex×Ps}{r:(Sx×Bool)×Ps},kD r.2->kD (if r.1.2=true then zL s ex r.1.1 r.2 else (qR,r.2.fail)).2:=λhb=>by
   split
   .exact ao7 _ (kP.of hb)
   .exact kD.fail _
  exact ji ⟨ba b,ba b'⟩
 .rw[<-e];split
  .rcases ao9 h _ l with hb|⟨e2,l2,m2⟩
   .exact ji hb
   .exact jh ⟨e2,l2,by omega⟩
  .exact ji ⟨kD.fail _,kD.fail _⟩
end
end
end Go.Proofs.YthllhabjfchgiaaGreatDoor
