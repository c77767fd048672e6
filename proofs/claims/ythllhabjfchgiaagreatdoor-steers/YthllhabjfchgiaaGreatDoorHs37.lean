import Derived.Test.YthllhabjfchgiaaGreatDoorHs36
set_option maxRecDepth 100000
set_option maxHeartbeats 8000000
set_option linter.unusedSimpArgs false
namespace Go.Proofs.YthllhabjfchgiaaGreatDoor
open _root_.Go.Proofs.Tryz
section
open Go.RowKit Hx
attribute [local go_sem ↓] Go.wp_at_zero Go.wp_at_succ
attribute [local go_sem] kN
attribute [local simp] aN
section
variable {w w' w1 w2 w3:jk}{lo hi m b H:Nat}{u v:jm}{e l r:Ex}{a:Int}{T:jo}{c:Co}
theorem aq8{k o:Int}(h:0<=k/\k<=1000001)(g:0<=o/\o<=1000001):k<=jS [k,o]/\o<=jS [k,o]:=by
 unfold jS kZ;simp only[bP,eF];omega
theorem ah8(kind:Int)(d:ji)(l r:oK):Dl kind d l r=
 if l.known&&r.known then sK kind (if (lU d.data.toList).2 then two (lU d.data.toList).1 r.val l.val else two (lU d.data.toList).1 l.val r.val)
 else if ((lU d.data.toList).1==19||(lU d.data.toList).1==20)&&(l.lg ((lU d.data.toList).1==20)||r.lg ((lU d.data.toList).1 !=20))then l
 else if ((lU d.data.toList).1==19||(lU d.data.toList).1==20)&&(r.lg ((lU d.data.toList).1==20)||l.lg ((lU d.data.toList).1 !=20))then r
 else {give:=λc f=>if (lU d.data.toList).2 then c.two (lU d.data.toList).1 f r.dn l.dn else c.two (lU d.data.toList).1 f l.dn r.dn}:=by
 unfold Dl lU;cases g:(d.data.toList==[62])
 .cases h2:(d.data.toList==[62,61])<;>simp
 .simp
theorem au8(hl:nV l)(hr:nV r)(a0 kind:Int)(d:ji):nV (nX a0 kind d l r):=by
 have lc:=hl.lZ.ok.jw;have rc:=hr.lZ.ok.jw;refine⟨ah9 hl.lZ hr.lZ a0 kind d,?_⟩;rintro a w lo hi T b ⟨b',us,hv,h1,h2,⟨m,u,v,rfl,ae,ao,hu,X⟩,hb⟩ hH;cases hv;obtain⟨T1,b1,rfl,aE,l1,l2,_⟩:=hl.lZ.ok.head _ _ _ _ _ hu;obtain⟨T2,b2,rfl,aF,l3,l4,_⟩:=hr.lZ.ok.head _ _ _ _ _ X;obtain⟨f1,m1,kM,_⟩:=hl.fold _ _ _ _ _ _ hu (by omega);obtain⟨f2,m2,qC,_⟩:=hr.fold _ _ _ _ _ _ X (by omega);have EG:Hid (∀y,w.drew.grownBy y none->Calls prog f1 #[Pt b1 0] y λA w1=>∃C E,A=.returned (.iface C (Pt E 0))/\Hid (mO l.does.fd l.jw w1 lo m w.heap.size w1.heap.size (.iface C (Pt E 0))/\Fk w w1 lo m)):=λy hy=>by
  have g0:w.grownBy y none:=(DX (aN w none)).trans hy;have sy:=g0.size;obtain⟨f,m',_,HC⟩:=hl.fold _ y _ _ _ _ ((hl.lZ.ok.law _).loc _ _ _ _ _ hu λk _ k2=>g0.block k (by omega) (by simp)) (by omega);obtain rfl:f=f1:=by
   have h:=(m' w).symm.trans (m1 w);simp only[Result.ok.injEq,Prod.mk.injEq,and_true]at h;exact h
  refine HC.mono ?_;rintro A w1 ⟨v',rfl,hF,p⟩;obtain⟨C,E,av⟩:=hF.form;subst av;exact⟨C,E,rfl,hF.wide (aj _) (aj _) sy (aj _) (aV _),(Fk.grown g0).trans p⟩
 have ai:Hid (∀w1 y,Fk w w1 lo m->w1.grownBy y none->Calls prog f2 #[Pt b2 0] y λA w2=>∃D F,A=.returned (.iface D (Pt F 0))/\Hid (mO r.does.fd r.jw w2 m b w1.heap.size w2.heap.size (.iface D (Pt F 0))/\Fk w1 w2 m b)):=λw1 y I hy=>by
  have sy:=hy.size;have s1:=I.size;obtain⟨f,m',_,HC⟩:=hr.fold _ y _ _ _ _ ((hr.lZ.ok.law _).loc _ _ _ _ _ X λk k1 k2=>(hy.block k (by omega) (by simp)).trans (I.keep k (by omega) (by omega))) (by omega);obtain rfl:f=f2:=by
   have h:=(m' w).symm.trans (m2 w);simp only[Result.ok.injEq,Prod.mk.injEq,and_true]at h;exact h
  refine HC.mono ?_;rintro A w2 ⟨v',rfl,hF,p⟩;obtain⟨D,F,aw⟩:=hF.form;subst aw;exact⟨D,F,rfl,hF.wide (aj _) (aj _) sy (aj _) (aV _),(Fk.grown hy).trans p⟩
 have kM:∀z w,(callFunc f1 z).run prog w=.ok (.enter f1 z) w:=kM;have qC:∀z w,(callFunc f2 z).run prog w=.ok (.enter f2 z) w:=qC;have c3:w.cell? (Ad b 4)=some (.iface T1 (Pt b1 0)):=jG hb;have c4:w.cell? (Ad b 5)=some (.iface T2 (Pt b2 0)):=jG hb;have HB:=jA hb;have ad:b<w.heap.size:=by omega
 have HC:Hid (∀w1,Fk w w1 lo m->w1.cell? (Ad b 5)=some (.iface T2 (Pt b2 0))/\w1.cell? (Ad b 4)=some (.iface T1 (Pt b1 0))/\∀j,w1.frozen? (Ad b j)=false):=λw1 I=>by
  have L:=(I.keep b ad (by omega)).trans HB.out;exact⟨jG L,jG L,λj=>nA L⟩
 have ah:Hid (∀w1 w2,Fk w w1 lo m->Fk w1 w2 m b->w2.cell? (Ad b 5)=some (.iface T2 (Pt b2 0))/\w2.cell? (Ad b 4)=some (.iface T1 (Pt b1 0))/\∀j,w2.frozen? (Ad b j)=false):=λw1 w2 I ar=>by
  have s1:=I.size;have L:=(ar.keep b (by omega) (by omega)).trans ((I.keep b ad (by omega)).trans HB.out);exact⟨jG L,jG L,λj=>nA L⟩
 refine⟨353,λw=>by kernel_rfl,λz w=>by kernel_rfl,?_⟩;clear hu X hb;go_enter func353,ntmps353;go_upto_region 1 with fail;go_cut [] (λwx=>Hid (∃(w1 w2:jk)(C:jo)(E:Nat)(D:jo)(F:Nat),(mO l.does.fd l.jw w1 lo m w.heap.size w1.heap.size (.iface C (Pt E 0))/\Fk w w1 lo m)/\(mO r.does.fd r.jw w2 m b w1.heap.size w2.heap.size (.iface D (Pt F 0))/\Fk w1 w2 m b)/\wx=((w2.setCell (Ad b 4) (.iface C (Pt E 0))).setCell (Ad b 5) (.iface D (Pt F 0)))))
 case first=>
  refine aak (f:=10) (λ_=>True) [0,1,2,3,4,7,8,9] #[true,true,true,true,true,false,false,true,true,true,false,false,false,false,false,false,false,false] (λl=>l.take 5++(l.drop 7).take 3) (by kernel_rfl) (by kernel_rfl) (by kernel_rfl) (by kernel_rfl) (by kernel_rfl) (by kernel_rfl) trivial (λ_=>?_);simp only[aC,aO,aG,aQ,bZ,dP]
  iterate 8
   (refine zo.cons (v:=?_) (by rfl) (λw aD=>?_) ?_
    rotate_left
    ·(go_simp;first|done|with_reducible rfl)
    simp only[Act.put,ak,au,ay])
  refine zo.nil ?_;refine aP (rs:=[5,10]) (by kernel_rfl) (by simp) (lW rfl (λK p=>?a1) (lW rfl (λK p=>?b1) aJ));all_goals
   go_simp;refine p.out _ _ trivial (λ_=>?_);clear p K;try simp only[ak,au,ay]
  case' a1=>refine aP (rs:=[6,10]) (by kernel_rfl) (by simp) (lW rfl (λK p=>?c1) (lW rfl (λK p=>?d1) aJ))
  case' b1=>
   refine aP (rs:=[5]) (by kernel_rfl) (by simp) (lW rfl (λK p=>?_) aJ);go_simp;refine p.out _ _ trivial (λ_=>?_);clear p K;try simp only[ak,au,ay]
   refine aP (rs:=[6]) (by kernel_rfl) (by simp) (lW rfl (λK p=>?_) aJ);go_simp
  case' d1=>
   go_simp;refine p.out _ _ trivial (λ_=>?_);clear p K;try simp only[ak,au,ay]
   refine aP (rs:=[6]) (by kernel_rfl) (by simp) (lW rfl (λK p=>?_) aJ);go_simp
  case' c1=>go_simp
  all_goals
   refine(EG.out _ (aN _ _)).mono ?_;rintro A w1 ⟨C,E,rfl,P1⟩;obtain⟨z4,z3,zf⟩:=HC.out w1 P1.out.2;go_wp2_with fail;refine p.out _ _ trivial (λ_=>?_);clear p K;try simp only[ak,au,ay]
  case' c1=>
   refine aP (rs:=[10]) (by kernel_rfl) (by simp) (lW rfl (λK p=>?_) aJ);go_simp;refine p.out _ _ trivial (λ_=>?_);clear p K;try simp only[ak,au,ay]
  all_goals
   refine aP (rs:=[11]) (by kernel_rfl) (by simp) (lW rfl (λK p=>?_) aJ);go_simp;refine(ai.out w1 _ P1.out.2 (aN _ _)).mono ?_;rintro A w2 ⟨D,F,rfl,P2⟩;obtain⟨y4,y3,yf⟩:=ah.out w1 w2 P1.out.2 P2.out.2;go_wp2_with fail;refine p.out _ _ trivial (λ_=>?_);clear p K;try simp only[ak,au,ay]
   refine aP (rs:=[12]) (by kernel_rfl) (by simp) (lW rfl (λK p=>?_) aJ);go_simp;refine p.out _ _ trivial (λ_=>?_);clear p K;try simp only[ak,au,ay]
   refine aP (rs:=[13]) (by kernel_rfl) (by simp) (lW rfl (λK p=>?_) aJ);go_simp;refine p.out _ _ trivial (λ_=>?_);clear p K;try simp only[ak,au,ay]
   refine aP (rs:=[14]) (by kernel_rfl) (by simp) (lW rfl (λK p=>?_) aJ);go_simp;refine p.out _ _ trivial (λ_=>?_);clear p K;try simp only[ak,au,ay]
   refine aP (rs:=[15]) (by kernel_rfl) (by simp) (lW rfl (λK p=>?_) aJ);go_simp;refine p.out _ _ trivial (λ_=>?_);clear p K;try simp only[ak,au,ay]
   refine aP (rs:=[16]) (by kernel_rfl) (by simp) (lW rfl (λK p=>?_) aJ);go_simp;refine p.out _ _ trivial (λ_=>?_);clear p K;try simp only[ak,au,ay]
   refine aP (rs:=[17]) (by kernel_rfl) (by simp) (lW rfl (λK p=>?_) aJ);go_simp;refine p.out _ _ trivial (λ_=>?_);clear p K;try simp only[ak,au,ay]
   refine wpAnyH_done (by kernel_rfl) ?_ _;refine NoPanic.normal ?_;go_wp2_with fail;go_meet;exact⟨w1,w2,C,E,D,F,P1.out,P2.out,rfl⟩
 case rest=>
  obtain⟨w1,w2,C,E,D,F,p1,p2,hW⟩:=hcut.out;have s1:=p1.2.size;have s2:=p2.2.size;have an:=(p2.2.keep b (by omega) (by omega)).trans ((p1.2.keep b ad (by omega)).trans HB.out);have G:wc.heap[b]? =some (.cells (Im a::Im (jS [l.jw,r.jw])::Im kind::[.string d,.iface C (Pt E 0),.iface D (Pt F 0)]).toArray 376):=by
   rw[hW];exact aK _ _ _ _ _ _ (aK _ _ _ _ _ _ an)
  have O:∀j,j≠b->wc.heap[j]? =w2.heap[j]? :=λj hj=>by
   rw[hW];exact(qZ j hj).trans (qZ j hj)
  have ap:w2.heap.size<=wc.heap.size:=by
   rw[hW];exact dH (mM w2 b 4 _).size (mM _ b 5 _).size
  have hB:=LZ.mk' p1.1 p1.2 p2.1 p2.2 ae ao (by omega);have ac:Fk w wc lo hi:=by
   rw[hW];exact((hB.fk.wide (aj _) (by omega)).trans (Fk.set h1 h2)).trans (Fk.set h1 h2)
  clear hcut hW EG ai HC ah p1 p2;obtain⟨wx,F1,F2,t1,t2⟩:=hB.ex;obtain⟨e1,_,_,x1,X1,y1,z1,g1,g2,g3,g4,g5,g8,g6⟩:=id F1;obtain⟨e2,_,_,x2,X2,y2,z2,k1,k2,k3,k4,k5,k8,k6⟩:=id F2;cases z1;cases z2;have aa:Hid (∀n,Ce l.does.fd l.jw (wc.drewN n) lo wx.heap.size C E x1 X1 y1):=λn=>(g6 (wc.drewN n) λj hj=>O j (by omega)).2;have ab:Hid (∀n,Ce r.does.fd r.jw (wc.drewN n) m w2.heap.size D F x2 X2 y2):=λn=>(k6 (wc.drewN n) λj hj=>O j (by omega)).2;have S:Hid (∀n,Calls prog 340 #[.iface C (Pt E 0)] (wc.drewN n) λe w'=>e=.returned (.tuple #[Im (if l.does.fd.known then l.does.fd.val else 0),.bool l.does.fd.known])/\w'=wc.drewN n):=λn=>aai (aa.out n);have U:Hid (∀n,Calls prog 340 #[.iface D (Pt F 0)] (wc.drewN n) λe w'=>e=.returned (.tuple #[Im (if r.does.fd.known then r.does.fd.val else 0),.bool r.does.fd.known])/\w'=wc.drewN n):=λn=>aai (ab.out n);have HJ:Hid (∀n s,Calls prog 360 #[Pt b 0,.bool s] (wc.drewN n) λe w'=>e=.returned (if l.does.fd.lg s||r.does.fd.lg (!s)then .iface C (Pt E 0)else if r.does.fd.lg s||l.does.fd.lg (!s)then .iface D (Pt F 0)else .iface 374 (Pt b 0))/\w'=wc.drewN n):=λn s=>anU (w:=wc.drewN n) (by rw[bH];exact jG G) (by rw[bH];exact jG G) (λV=>Wx (aa.out n) V) (λV=>Wx (ab.out n) V) s
  have W:Hid (Calls prog 358 #[Pt b 0] wc λA w'=>∃n,A=.returned (.tuple #[.int .u8 (lU d.data.toList).1,if (lU d.data.toList).2 then .iface D (Pt F 0)else .iface C (Pt E 0),if (lU d.data.toList).2 then .iface C (Pt E 0)else .iface D (Pt F 0)])/\w'=wc.drewN n):=(ac5 G).mono λA w' ⟨q1,n,q2⟩=>⟨n,q1,q2⟩;have HL:Hid (∀(y:jk)(is:Int),wc.grownBy y none->Calls prog 359 #[.agg #[Im a,Im (jS [l.jw,r.jw]),Im kind],Im is] y λA w'=>∃Z b5,A=.returned (.iface Z (Pt b5 0))/\Hid (mO (sK kind is) (jS [l.jw,r.jw]) w' lo hi w.heap.size w'.heap.size (.iface Z (Pt b5 0))/\Fk w w' lo hi)):=λy is g=>by
   refine(ael y a (jS [l.jw,r.jw]) kind is (rO lc rc) (lo:=lo) (m:=hi) (H:=w.heap.size) (by omega) (by have:=g.size;omega)).mono ?_;rintro A w' ⟨v',r1,r2,r3⟩;obtain⟨Z,b5,ax⟩:=r2.form;subst ax;exact⟨Z,b5,r1,r2,ac.trans (Fk.grown (g.trans r3))⟩
  have HO:Hid (∀o x y q,Calls prog 158 #[.int .u8 o,Im x,Im y] q λe w'=>e=.returned (Im (two o x y))/\w'=q):=λo x y q=>afN _ _ _ _;have t:=jA (ah8 kind d l.does.fd r.does.fd);have Hd:Hid (∀n,Fk w (wc.drewN n) lo hi/\(mO l.does.fd (jS [l.jw,r.jw]) (wc.drewN n) lo hi w.heap.size (wc.drewN n).heap.size (.iface C (Pt E 0)))/\(mO r.does.fd (jS [l.jw,r.jw]) (wc.drewN n) lo hi w.heap.size (wc.drewN n).heap.size (.iface D (Pt F 0)))):=λn=>by
   have g:=lu wc n;have q1:=aq8 lc rc;refine⟨ac.trans (Fk.grown g),?_,?_⟩
   .exact(F1.later λj hj=>O j (by omega)).wide (aj _) (by omega) (aj _) (by have:=g.size;omega) q1.1
   .exact(F2.later λj hj=>O j (by omega)).wide ae (by omega) (by omega) (by have:=g.size;omega) q1.2
  have y0:wc.cell? (Ad b 0)=some (Im a):=jG G;have af:wc.cell? (Ad b 1)=some (Im (jS [l.jw,r.jw])):=jG G;have ag:wc.cell? (Ad b 2)=some (Im kind):=jG G;have Y:Hid (∀n,Dl kind d l.does.fd r.does.fd={give:=(λc i=>if (lU d.data.toList).2 then c.two (lU d.data.toList).1 i r.does.fd.dn l.does.fd.dn else c.two (lU d.data.toList).1 i l.does.fd.dn r.does.fd.dn)}->mO (Dl kind d l.does.fd r.does.fd) (jS [l.jw,r.jw]) (wc.drewN n) lo hi w.heap.size (wc.drewN n).heap.size (.iface 374 (Pt b 0))):=λn hf=>by
   rw[hf];have g:=lu wc n;refine aea (k:=jS [l.jw,r.jw]) (kind:=kind) (mk:=λus=>.string d::us) (by simp[lQ]) (by unfold zi;decide) h1 h2 hH ae ao hB (dH ap g.size) rfl (λj hj=>O j hj) G ?_;intro e3 e4 q1 q2 q3 r1 r2 r3;refine ah7 q1 r1 a kind d _ (rO lc rc) (λI=>by rw[Ap lc.1 lc.2 rc.1 rc.2 I];omega) _ λc i=>?_;show(if (lU d.data.toList).2 then c.two (lU d.data.toList).1 i r.does.fd.dn l.does.fd.dn else c.two (lU d.data.toList).1 i l.does.fd.dn r.does.fd.dn)=(if d.data.toList==[62]then c.two 15 i e4.does e3.does else if d.data.toList==[62,61]then c.two 16 i e4.does e3.does else c.two (vH d.data.toList) i e3.does e4.does);have c1:∀o,c.two o i l.does.fd.dn r.does.fd.dn=c.two o i e3.does e4.does:=λo=>YB q2.symm r2.symm o i;have c2:∀o,c.two o i r.does.fd.dn l.does.fd.dn=c.two o i e4.does e3.does:=λo=>YB r2.symm q2.symm o i;rw[c1,c2];unfold lU;cases h1:(d.data.toList==[62])
   .cases h2:(d.data.toList==[62,61])<;>simp
   .simp
  clear aa ab hB F1 F2 g1 g2 g3 g4 g5 g6 g8 k1 k2 k3 k4 k5 k6 k8 O ap ac G HB t1 t2 s1 s2 an;generalize lU d.data.toList=wk at *;obtain⟨o,sw⟩:=wk;simp only at W t Y;cases I:(l.does.fd.known&&r.does.fd.known)with
  |true=>
   obtain⟨M,N⟩:l.does.fd.known=true/\r.does.fd.known=true:=by simpa using I
   rw[M,N]at t;rw[M]at S;rw[N]at U;simp only[Bool.and_self,dM]at S U t;clear HJ Hd Y M N I;cases sw
   case' false=>have Q:=S;have R:=U
   case' true=>have Q:=U;have R:=S
   all_goals
    simp only[aH,cZ,dM]at t;go_wp2_with fail;refine W.out.mono ?_;rintro A w' ⟨n,rfl,rfl⟩;simp only[aH,cZ,dM];have A1:=jA (Q.out n);have A2:=jA (R.out n);have AL:Hid (∀(k:Nat)(is:Int),Calls prog 359 #[.agg #[Im a,Im (jS [l.jw,r.jw]),Im kind],Im is] ((wc.drewN n).drewN k) λA w'=>∃Z b5,A=.returned (.iface Z (Pt b5 0))/\Hid (mO (sK kind is) (jS [l.jw,r.jw]) w' lo hi w.heap.size w'.heap.size (.iface Z (Pt b5 0))/\Fk w w' lo hi)):=λk is=>HL.out _ _ ((lu wc n).trans (lu _ k));have q0:(wc.drewN n).cell? (Ad b 0)=some (Im a):=by rw[bH];exact y0
    have q1:(wc.drewN n).cell? (Ad b 1)=some (Im (jS [l.jw,r.jw])):=by rw[bH];exact af
    have q2:(wc.drewN n).cell? (Ad b 2)=some (Im kind):=by rw[bH];exact ag
    clear S U Q R HL y0 af ag W;generalize wc.drewN n=Wn at *;go_wp2_with fail;refine A1.out.mono ?_;rintro e w' ⟨rfl,rfl⟩;go_wp2_with fail;refine A2.out.mono ?_;rintro e w' ⟨rfl,rfl⟩;go_wp2_with fail;refine nO 8 (by kernel_rfl) (by kernel_rfl) ?_;simp only[aC,aO,aG,aQ];repeat (go_big_quiet_step ((go_at_call 158;exact dN (HO.out _ _ _ _))))
    refine bF ?_;intro _ az;obtain⟨k3,aq⟩:=az;subst aq;go_wp2_with fail;refine(AL.out _ _).mono ?_;rintro A w5 ⟨Z,b5,rfl,HE⟩;go_wp2_with fail;go_ret;refine⟨_,rfl,?_,HE.out.2⟩;show mO (Dl kind d l.does.fd r.does.fd) (jS [l.jw,r.jw]) _ _ _ _ _ _;rw[t.out];exact HE.out.1
  |false=>
   rw[I]at t;simp only[aH,cZ]at t;clear HL y0 af ag;cases M:l.does.fd.known<;>cases N:r.does.fd.known
   case true.true=>rw[M,N]at I;cases I
   all_goals
    rw[M]at S;rw[N]at U;clear M N I HO;cases sw
    case' false=>have Q:=S;have R:=U
    case' true=>have Q:=U;have R:=S
    all_goals
     by_cases al:o=19
     .subst al;simp only[show((19:Int)==20)=false from rfl,show((19:Int)!=20)=true from rfl]at t;go_wp2_with fail;refine W.out.mono ?_;rintro A w' ⟨n,rfl,rfl⟩;simp only[aH,cZ,dM];have A1:=jA (Q.out n);have A2:=jA (R.out n);have J:=jA (HJ.out n false);have P:=jA (Hd.out n);have AS:=jA (Y.out n);clear HJ Hd Y S U Q R W;generalize wc.drewN n=Wn at *;go_wp2_with fail;refine A1.out.mono ?_;rintro e w' ⟨rfl,rfl⟩;go_wp2_with fail;refine A2.out.mono ?_;rintro e w' ⟨rfl,rfl⟩;go_wp2_with fail;simp only[Bool.not_false]at J;cases B:(l.does.fd.lg false||r.does.fd.lg true)
      .cases hc2:(r.does.fd.lg false||l.does.fd.lg true);all_goals
        rw[B,hc2]at J t;simp only[aH,cZ,dM]at J t;clear B hc2;refine J.out.mono ?_;rintro e w' ⟨rfl,rfl⟩;go_wp2_with fail;go_ret;refine⟨_,rfl,?_,P.out.1⟩;show mO (Dl kind d l.does.fd r.does.fd) (jS [l.jw,r.jw]) _ _ _ _ _ _;first
         |exact AS.out t.out
         |(rw[t.out];exact P.out.2.2)
      .rw[B]at J t;simp only[dM]at J t;clear B;refine J.out.mono ?_;rintro e w' ⟨rfl,rfl⟩;go_wp2_with fail;go_ret;refine⟨_,rfl,?_,P.out.1⟩;show mO (Dl kind d l.does.fd r.does.fd) (jS [l.jw,r.jw]) _ _ _ _ _ _;rw[t.out];exact P.out.2.1
     .by_cases am:o=20
      .subst am;simp only[show((20:Int)==20)=true from rfl,show((20:Int)!=20)=false from rfl]at t;go_wp2_with fail;refine W.out.mono ?_;rintro A w' ⟨n,rfl,rfl⟩;simp only[aH,cZ,dM];have A1:=jA (Q.out n);have A2:=jA (R.out n);have J:=jA (HJ.out n true);have P:=jA (Hd.out n);have AS:=jA (Y.out n);clear HJ Hd Y S U Q R W;generalize wc.drewN n=Wn at *;go_wp2_with fail;refine A1.out.mono ?_;rintro e w' ⟨rfl,rfl⟩;go_wp2_with fail;refine A2.out.mono ?_;rintro e w' ⟨rfl,rfl⟩;go_wp2_with fail;simp only[jc]at J;cases B:(l.does.fd.lg true||r.does.fd.lg false)
       .cases hc2:(r.does.fd.lg true||l.does.fd.lg false);all_goals
         rw[B,hc2]at J t;simp only[aH,cZ,dM]at J t;clear B hc2;refine J.out.mono ?_;rintro e w' ⟨rfl,rfl⟩;go_wp2_with fail;go_ret;refine⟨_,rfl,?_,P.out.1⟩;show mO (Dl kind d l.does.fd r.does.fd) (jS [l.jw,r.jw]) _ _ _ _ _ _;first
          |exact AS.out t.out
          |(rw[t.out];exact P.out.2.2)
       .rw[B]at J t;simp only[dM]at J t;clear B;refine J.out.mono ?_;rintro e w' ⟨rfl,rfl⟩;go_wp2_with fail;go_ret;refine⟨_,rfl,?_,P.out.1⟩;show mO (Dl kind d l.does.fd r.does.fd) (jS [l.jw,r.jw]) _ _ _ _ _ _;rw[t.out];exact P.out.2.1
      .have aA:(o==19)=false:=by simpa using al
       have aB:(o==20)=false:=by simpa using am
       simp only[aA,aB,Bool.or_self,gK,aH,cZ]at t;go_wp2_with fail;refine W.out.mono ?_;rintro A w' ⟨n,rfl,rfl⟩;simp only[aH,cZ,dM];have A1:=jA (Q.out n);have A2:=jA (R.out n);have P:=jA (Hd.out n);have AS:=jA (Y.out n);clear HJ Hd Y S U Q R W;generalize wc.drewN n=Wn at *;go_wp2_with fail;refine A1.out.mono ?_;rintro e w' ⟨rfl,rfl⟩;go_wp2_with fail;refine A2.out.mono ?_;rintro e w' ⟨rfl,rfl⟩;go_wp2_with fail;go_ret;refine⟨_,rfl,?_,P.out.1⟩;exact AS.out t.out
end
end
section
open Go.RowKit Hx
theorem ahc(u:List UInt8):(10<=(lU u).1/\(lU u).1<=20)/\((mJ u).2=1\/(mJ u).2=2)/\((mJ u).1=0\/(mJ u).1=1\/(mJ u).1=2)/\
 ((mJ u).2=2->15<=(lU u).1)/\((mJ u).2=2->(lU u).1=19\/(lU u).1=20->(mJ u).1=2)/\((mJ u).1=2->(mJ u).2=2/\((lU u).1=19\/(lU u).1=20))/\((lU u).1=19\/(lU u).1=20->(lU u).2=false)/\((mJ u).1=0->(lU u).1=17\/(lU u).1=18):=by
 unfold lU mJ vH;by_cases d:(u==[124,124])=true
 .have:u=[124,124]:=by simpa using d
  subst this
  decide
 by_cases f:(u==[38,38])=true
 .have:u=[38,38]:=by simpa using f
  subst this
  decide
 by_cases g:(u==[61,61])=true
 .have:u=[61,61]:=by simpa using g
  subst this
  decide
 by_cases h:(u==[33,61])=true
 .have:u=[33,61]:=by simpa using h
  subst this
  decide
 by_cases i:(u==[60])=true
 .have:u=[60]:=by simpa using i
  subst this
  decide
 by_cases j:(u==[60,61])=true
 .have:u=[60,61]:=by simpa using j
  subst this
  decide
 by_cases k:(u==[62])=true
 .have:u=[62]:=by simpa using k
  subst this
  decide
 by_cases n:(u==[62,61])=true
 .have:u=[62,61]:=by simpa using n
  subst this
  decide
 simp only[d,f,g,h,i,j,k,n,aH,cZ];repeat' split
 all_goals simp
theorem afL(v:Vw)(o a b:Int)(d:10<=o/\o<=20):outcome v o a b=two o a b:=by
 unfold outcome;rw[jg (by omega),jg (by omega),jg (by omega),jg (by omega),jg (by omega),jg (by omega),jg (by omega),jg (by omega),jg (by omega)]
theorem Nr:∀a b:Int,a=0\/a=1->b=0\/b=1->(bits .and .i64 a b=0\/bits .and .i64 a b=1)/\(bits .or .i64 a b=0\/bits .or .i64 a b=1)/\bits .and .i64 0 b=0/\bits .and .i64 a 1=a/\bits .and .i64 1 b=b/\bits .and .i64 a 0=0/\bits .or .i64 1 b=1/\bits .or .i64 a 0=a/\bits .or .i64 0 b=b/\bits .or .i64 a 1=1:=by
 intro a b d f;rcases d with rfl|rfl<;>rcases f with rfl|rfl<;>decide
theorem TL(o a b:Int)(j:15<=o/\o<=20)(h:o=19\/o=20->(a=0\/a=1)/\(b=0\/b=1)):two o a b=0\/two o a b=1:=by
 unfold two;rw[jg (by omega),jg (by omega),jg (by omega),jg (by omega),jg (by omega)];split
 .exact FQ _
 .split
  .exact FQ _
  .split
   .exact FQ _
   .split
    .exact FQ _
    .split
     .rename_i f;obtain⟨d,g⟩:=h (jf f);exact(Nr a b d g).1
     .split
      .rename_i i;obtain⟨d,g⟩:=h (je i);exact(Nr a b d g).2.1
      .exact jf rfl
theorem ava{a kind:Int}{d:ji}{l r:Ex}{z z':Sz}{f f':Val}(s:MX l z f)(t:MX r z' f'){ck:Ck}(i:kX (nX a kind d l r) ck):kX l ck/\kX r ck/\l.does.jZ ck.jy=ru d (l.does.jZ ck.jy)/\r.does.jZ ck.jy=ru d (l.does.jZ ck.jy)/\(nX a kind d l r).does.look ck=ck:=by
 have i:=i;have q:(nX a kind d l r).does.look ck=(r.does.look ((l.does.look ck).want (l.does.jZ ck.jy) l.at' (ru d (l.does.jZ ck.jy)))).want (r.does.jZ ((l.does.look ck).want (l.does.jZ ck.jy) l.at' (ru d (l.does.jZ ck.jy))).jy) r.at' (ru d (l.does.jZ ck.jy)):=rfl;obtain⟨k,y,h⟩:=AO i;have j:=t.look _ h;have A:((l.does.look ck).want (l.does.jZ ck.jy) l.at' (ru d (l.does.jZ ck.jy))).en=0:=by
  have g:=h;rw[j]at g;exact g
 obtain⟨x,n,o⟩:=AO A;have p:=s.look ck o;rw[n,p]at h j k;rw[q,y,n,p];exact⟨o,h,x,k,j⟩
theorem atx(d:ji)(left:Int):ru d left=1\/ru d left=2:=by
 obtain⟨_,_,f,_⟩:=ahc d.data.toList;unfold ru;split
 .split<;>omega
 .omega
theorem WQ{e:Ex}{z:Sz}{f:Val}(h:MX e z f)(d:e.does.fd.known=true){ck:Ck}(k:kX e ck):jK e.does.fd.val/\(∀j v σ,qG ck j σ->nM v->f j v σ=e.does.fd.val)/\(e.does.jZ ck.jy=2->e.does.fd.val=0\/e.does.fd.val=1):=by
 have d:e.does.fd.tag=1\/e.does.fd.tag=2:=by simpa [Hx.oK.known]using d
 rcases d with d|d
 .obtain⟨g,i,n⟩:=h.FN d ck k;exact⟨g,i,λh=>by omega⟩
 .obtain⟨g,i,n⟩:=h.Eu d ck k;refine⟨?_,i,λ_=>g⟩;rcases g with g|g<;>rw[g]<;>(unfold jK;omega)
theorem Ah{e:Ex}{z:Sz}{f:Val}(h:MX e z f){b:Bool}(g:e.does.fd.lg b=true){ck:Ck}(i:kX e ck):(∀d v σ,qG ck d σ->nM v->f d v σ=if b then 1 else 0)/\e.does.jZ ck.jy≠1:=by
 have g:e.does.fd.tag=2/\e.does.fd.val=if b then 1 else 0:=by simpa [Hx.oK.lg]using g
 obtain⟨p,n,o⟩:=h.Eu g.1 ck i;exact⟨λd v σ j k=>by rw[n d v σ j k,g.2],o⟩
theorem YC{t t':Int}{l r:Ex}{f:Val}(hl:QF t l f){f':Val}(hr:QF t' r f')(a:Int)(i:ji):QF (t+1+t') (nX a (mJ i.data.toList).2 i l r) (λd v σ=>if (lU i.data.toList).2 then outcome v (lU i.data.toList).1 (f' d v σ) (f d v σ)else outcome v (lU i.data.toList).1 (f d v σ) (f' d v σ)):=by
 obtain⟨z,M,h2⟩:=hl;obtain⟨p,N,k2⟩:=hr;obtain⟨s1,s2,s3,s4,s5,s6,s7,s8⟩:=ahc i.data.toList;have Bj:(nX a (mJ i.data.toList).2 i l r).does.give=λc s=>if (lU i.data.toList).2 then c.two (lU i.data.toList).1 s r.does l.does else c.two (lU i.data.toList).1 s l.does r.does:=by
  funext c s
  show(if i.data.toList==[62]then c.two 15 s r.does l.does else if i.data.toList==[62,61]then c.two 16 s r.does l.does else c.two (vH i.data.toList) s l.does r.does)=_;unfold lU;split
  .rfl
  .split<;>rfl
 have S:(nX a (mJ i.data.toList).2 i l r).does.fd=Dl (mJ i.data.toList).2 i l.does.fd r.does.fd:=rfl;rw[ah8]at S;have W:∀j:Ck,(nX a (mJ i.data.toList).2 i l r).does.jZ j.jy=(mJ i.data.toList).2:=λ_=>rfl;have y:=λj (n:kX (nX a (mJ i.data.toList).2 i l r) j)=>ava M N n;have R:∀j,kX (nX a (mJ i.data.toList).2 i l r) j->((lU i.data.toList).1=19\/(lU i.data.toList).1=20)->(l.does.jZ j.jy≠1\/r.does.jZ j.jy≠1)->l.does.jZ j.jy=2/\r.does.jZ j.jy=2/\(mJ i.data.toList).2=2:=λj n ho aa=>by
  obtain⟨_,_,q3,q4,_⟩:=y j n;have q5:=atx i (l.does.jZ j.jy);have q6:ru i (l.does.jZ j.jy)=2:=by omega
  refine⟨by omega,by omega,?_⟩;rcases s2 with h|h
  .exfalso
   have h3:(mJ i.data.toList).1≠2:=λe=>by have:=(s6 e).1;omega
   have h4:(mJ i.data.toList).1≠0:=λe=>by have:=s8 e;omega
   unfold ru at q6;rw[jg h4]at q6;omega
  .exact h
 generalize ah:lU i.data.toList=wk at *;obtain⟨o,L⟩:=wk;simp only at s1 s4 s5 s6 s7 s8 Bj S R;have ho:AY o:=jf s1;generalize af:(mJ i.data.toList).2=k at *;have g4:=h2.jC;have g5:=h2.jL;have g6:=k2.jC;have g7:=k2.jL;have g8:=h2.wide;have g9:=k2.wide;have hF:∀d v σ,(if L then outcome v o (f' d v σ) (f d v σ)else outcome v o (f d v σ) (f' d v σ))=if L then two o (f' d v σ) (f d v σ)else two o (f d v σ) (f' d v σ):=λd v σ=>by
  rw[afL v o _ _ s1,afL v o _ _ s1]
 have Y:uD (λd v σ=>if L then outcome v o (f' d v σ) (f d v σ)else outcome v o (f d v σ) (f' d v σ)):=λd v σ τ hh=>by
  show(if L then outcome v o (f' d v σ) (f d v σ)else outcome v o (f d v σ) (f' d v σ))=if L then outcome v o (f' d v τ) (f d v τ)else outcome v o (f d v τ) (f' d v τ);rw[M.give.pO d v σ τ hh,N.give.pO d v σ τ hh]
 have V:∀{g g':Co->Int->Co×Int},Mx (kX (nX a k i l r)) g z f->Mx (kX (nX a k i l r)) g' p f'->Mx (kX (nX a k i l r)) (λc s=>if L then c.two o s {give:=g'} {give:=g}else c.two o s {give:=g} {give:=g'}) ⟨max (max (max z.wide (1+p.wide)) (max p.wide (1+z.wide))) 1,max z.deep p.deep,z.jC+p.jC+1,z.jL+p.jL+13⟩ (λd v σ=>if L then outcome v o (f' d v σ) (f d v σ)else outcome v o (f d v σ) (f' d v σ)):=λ{g g'} m1 m2=>by
  cases L with
  |true=>
   simp only[dM];exact(RJ m2 m1 ho).grow (by show max (max p.wide (1+z.wide)) 1<=max (max (max z.wide (1+p.wide)) (max p.wide (1+z.wide))) 1;omega) (by show max p.deep z.deep<=max z.deep p.deep;omega) (by show p.jC+z.jC+1<=z.jC+p.jC+1;omega) (by show p.jL+z.jL+13<=z.jL+p.jL+13;omega)
  |false=>
   simp only[aH,cZ];exact(RJ m1 m2 ho).grow (by show max (max z.wide (1+p.wide)) 1<=max (max (max z.wide (1+p.wide)) (max p.wide (1+z.wide))) 1;omega) (aj _) (aV _) (aV _)
 have Z:∀{P:Ck->Prop}{g:Co->Int->Co×Int}{I:Sz}{ff:Val},Mx P g I ff->(I=z\/I=p)->Mx P g ⟨max (max (max z.wide (1+p.wide)) (max p.wide (1+z.wide))) 1,max z.deep p.deep,z.jC+p.jC+1,z.jL+p.jL+13⟩ ff:=λ{P g I ff} m hz=>by
  rcases hz with rfl|rfl
  .exact m.grow (by show I.wide<=max (max (max I.wide (1+p.wide)) (max p.wide (1+I.wide))) 1;omega) (by show I.deep<=max I.deep p.deep;omega) (by show I.jC<=I.jC+p.jC+1;omega) (by show I.jL<=I.jL+p.jL+13;omega)
  .exact m.grow (by show I.wide<=max (max (max z.wide (1+I.wide)) (max I.wide (1+z.wide))) 1;omega) (by show I.deep<=max z.deep I.deep;omega) (by show I.jC<=z.jC+I.jC+1;omega) (by show I.jL<=z.jL+I.jL+13;omega)
 have ae:∀j d v σ,kX (nX a k i l r) j->qG j d σ->nM v->jK (if L then outcome v o (f' d v σ) (f d v σ)else outcome v o (f d v σ) (f' d v σ))/\(k=2->(if L then outcome v o (f' d v σ) (f d v σ)else outcome v o (f d v σ) (f' d v σ))=0\/(if L then outcome v o (f' d v σ) (f d v σ)else outcome v o (f d v σ) (f' d v σ))=1):=λj d v σ n A B=>by
  obtain⟨J,K,p3,p4,_⟩:=y j n;obtain⟨y1,y2⟩:=M.ty j d v σ J A B;obtain⟨x1,x2⟩:=N.ty j d v σ K A B;rw[hF];refine⟨by split<;>exact Wp _ _ _ (by assumption),λO=>?_⟩;have IV:o=19\/o=20->(f d v σ=0\/f d v σ=1)/\(f' d v σ=0\/f' d v σ=1):=λV4=>by
   have h5:=s5 O V4;have hs:ru i (l.does.jZ j.jy)=2:=by unfold ru;rw[jg (by omega)];exact h5
   exact⟨y2 (by omega),x2 (by omega)⟩
  split
  .exact TL o _ _ ⟨s4 O,s1.2⟩ λh=>⟨(IV h).2,(IV h).1⟩
  .exact TL o _ _ ⟨s4 O,s1.2⟩ IV
 have QU:∀j,kX (nX a k i l r) j->(((o==19||o==20)&&(l.does.fd.lg (o==20)||r.does.fd.lg (o !=20)))=true)->(l.does.jZ j.jy=2/\k=2)/\∀d v σ,qG j d σ->nM v->f d v σ=if L then outcome v o (f' d v σ) (f d v σ)else outcome v o (f d v σ) (f' d v σ):=λj n G=>by
  obtain⟨J,K,_⟩:=y j n;simp only[dD,iU]at G;have Q:o=19\/o=20:=by simpa using G.1
  have ab:=s7 Q;have aa:=G.2.elim (λh=>jf (Ah M h J).2) (λh=>je (Ah N h K).2);obtain⟨d1,X,U⟩:=R j n Q aa;refine⟨⟨d1,U⟩,λd v σ A B=>?_⟩;have yb:=(M.ty j d v σ J A B).2 d1;have xb:=(N.ty j d v σ K A B).2 X;obtain⟨w1,w2,w3,w4,w5,w6,w7,w8,w9,ac⟩:=Nr _ _ yb xb;rw[hF,ab];simp only[aH,cZ];rcases Q with rfl|rfl
  .have e2:two 19 (f d v σ) (f' d v σ)=bits .and .i64 (f d v σ) (f' d v σ):=by simp[two]
   rw[e2];rcases G.2 with h|h
   .have F:f d v σ=0:=by simpa using (Ah M h J).1 d v σ A B
    rw[F,w3]
   .have F:f' d v σ=1:=by simpa using (Ah N h K).1 d v σ A B
    rw[F,w4]
  .have e2:two 20 (f d v σ) (f' d v σ)=bits .or .i64 (f d v σ) (f' d v σ):=by simp[two]
   rw[e2];rcases G.2 with h|h
   .have F:f d v σ=1:=by simpa using (Ah M h J).1 d v σ A B
    rw[F,w7]
   .have F:f' d v σ=0:=by simpa using (Ah N h K).1 d v σ A B
    rw[F,w8]
 have QV:∀j,kX (nX a k i l r) j->(((o==19||o==20)&&(r.does.fd.lg (o==20)||l.does.fd.lg (o !=20)))=true)->(r.does.jZ j.jy=2/\k=2)/\∀d v σ,qG j d σ->nM v->f' d v σ=if L then outcome v o (f' d v σ) (f d v σ)else outcome v o (f d v σ) (f' d v σ):=λj n G=>by
  obtain⟨J,K,_⟩:=y j n;simp only[dD,iU]at G;have Q:o=19\/o=20:=by simpa using G.1
  have ab:=s7 Q;have aa:=G.2.elim (λh=>je (Ah N h K).2) (λh=>jf (Ah M h J).2);obtain⟨d1,X,U⟩:=R j n Q aa;refine⟨⟨X,U⟩,λd v σ A B=>?_⟩;have yb:=(M.ty j d v σ J A B).2 d1;have xb:=(N.ty j d v σ K A B).2 X;obtain⟨w1,w2,w3,w4,w5,w6,w7,w8,w9,ac⟩:=Nr _ _ yb xb;rw[hF,ab];simp only[aH,cZ];rcases Q with rfl|rfl
  .have e2:two 19 (f d v σ) (f' d v σ)=bits .and .i64 (f d v σ) (f' d v σ):=by simp[two]
   rw[e2];rcases G.2 with h|h
   .have F:f' d v σ=0:=by simpa using (Ah N h K).1 d v σ A B
    rw[F,w6]
   .have F:f d v σ=1:=by simpa using (Ah M h J).1 d v σ A B
    rw[F,w5]
  .have e2:two 20 (f d v σ) (f' d v σ)=bits .or .i64 (f d v σ) (f' d v σ):=by simp[two]
   rw[e2];rcases G.2 with h|h
   .have F:f' d v σ=1:=by simpa using (Ah N h K).1 d v σ A B
    rw[F,ac]
   .have F:f d v σ=0:=by simpa using (Ah M h J).1 d v σ A B
    rw[F,w9]
 have VW:∀j,kX (nX a k i l r) j->(l.does.fd.known&&r.does.fd.known)=true->jK (if L then two o r.does.fd.val l.does.fd.val else two o l.does.fd.val r.does.fd.val)/\(k=2->(if L then two o r.does.fd.val l.does.fd.val else two o l.does.fd.val r.does.fd.val)=0\/(if L then two o r.does.fd.val l.does.fd.val else two o l.does.fd.val r.does.fd.val)=1)/\∀d v σ,qG j d σ->nM v->(if L then outcome v o (f' d v σ) (f d v σ)else outcome v o (f d v σ) (f' d v σ))=if L then two o r.does.fd.val l.does.fd.val else two o l.does.fd.val r.does.fd.val:=λj n C=>by
  obtain⟨J,K,p3,p4,_⟩:=y j n;simp only[dD]at C;obtain⟨y1,y2,y3⟩:=WQ M C.1 J;obtain⟨x1,x2,x3⟩:=WQ N C.2 K;refine⟨by split<;>exact Wp _ _ _ (by assumption),λO=>?_,λd v σ A B=>by rw[hF,y2 d v σ A B,x2 d v σ A B]⟩;have IV:o=19\/o=20->(l.does.fd.val=0\/l.does.fd.val=1)/\(r.does.fd.val=0\/r.does.fd.val=1):=λV4=>by
   have h5:=s5 O V4;have hs:ru i (l.does.jZ j.jy)=2:=by unfold ru;rw[jg (by omega)];exact h5
   exact⟨y3 (by omega),x3 (by omega)⟩
  split
  .exact TL o _ _ ⟨s4 O,s1.2⟩ λh=>⟨(IV h).2,(IV h).1⟩
  .exact TL o _ _ ⟨s4 O,s1.2⟩ IV
 generalize ag:(if L then two o r.does.fd.val l.does.fd.val else two o l.does.fd.val r.does.fd.val)=lv at *;have ad:Cc (t+1+t') (nX a k i l r) ⟨max (max (max z.wide (1+p.wide)) (max p.wide (1+z.wide))) 1,max z.deep p.deep,z.jC+p.jC+1,z.jL+p.jL+13⟩:=by
  have hb:=ahX (q:=nX a k i l r) h2 k2 rfl;have c3:=h2.tok;have c4:=k2.tok;exact⟨hb.tok,⟨by show 0<=max (max (max z.wide (1+p.wide)) (max p.wide (1+z.wide))) 1;omega,by show 2 * max (max (max z.wide (1+p.wide)) (max p.wide (1+z.wide))) 1<=t+1+t'+1;omega⟩,hb.jL,hb.jC,hb.jw,hb.all⟩
 have Ku:∀x:Int,x=0\/x=1->Ic (decide (x≠0))=wZ x/\(if x=0 then (0:Int)else 1)=x:=λx hx=>by rcases hx with rfl|rfl<;>exact⟨rfl,rfl⟩
 refine⟨_,⟨λj n=>(y j n).2.2.2.2,?_,?_,ae,?_,?_,?_⟩,ad⟩
 .rw[Bj];exact V (M.give.of λj n=>(y j n).1) (N.give.of λj n=>(y j n).2.1)
 .rw[S];cases C:(l.does.fd.known&&r.does.fd.known)with
  |true=>
   simp only[dM];refine⟨Y,λj c s hf hP hw hi=>?_⟩;obtain⟨n1,n2,n3⟩:=VW j hP C;have hm:Mx (λq=>q=j) (wZ lv) ⟨max (max (max z.wide (1+p.wide)) (max p.wide (1+z.wide))) 1,max z.deep p.deep,z.jC+p.jC+1,z.jL+p.jL+13⟩ (λd v σ=>if L then outcome v o (f' d v σ) (f d v σ)else outcome v o (f d v σ) (f' d v σ)):=WT Y ⟨by show 1<=max (max (max z.wide (1+p.wide)) (max p.wide (1+z.wide))) 1;omega,by show 1<=z.jC+p.jC+1;omega,by show 13<=z.jL+p.jL+13;omega⟩ λwQ e'=>by
    subst e';exact⟨n1,n3⟩
   unfold sK;by_cases E:k=2
   .rw[jh E];rw[(Ku lv (n2 E)).1];exact hm.lay j c s hf rfl hw hi
   .rw[jg E];exact hm.lay j c s hf rfl hw hi
  |false=>
   simp only[aH,cZ];by_cases G:((o==19||o==20)&&(l.does.fd.lg (o==20)||r.does.fd.lg (o !=20)))=true
   .rw[jh G];exact Z ((M.fold.of λj n=>(y j n).1).eq Y λj d v σ n A B=>(QU j n G).2 d v σ A B) (jf rfl)
   .rw[jg G];by_cases D:((o==19||o==20)&&(r.does.fd.lg (o==20)||l.does.fd.lg (o !=20)))=true
    .rw[jh D];exact Z ((N.fold.of λj n=>(y j n).2.1).eq Y λj d v σ n A B=>(QV j n D).2 d v σ A B) (je rfl)
    .rw[jg D];exact V (M.fold.of λj n=>(y j n).1) (N.fold.of λj n=>(y j n).2.1)
 .intro tg j n;obtain⟨J,K,_⟩:=y j n;rw[W j];rw[S]at tg⊢;cases C:(l.does.fd.known&&r.does.fd.known)with
  |true=>
   rw[C]at tg;simp only[dM]at tg⊢;obtain⟨n1,n2,n3⟩:=VW j n C;unfold sK at tg⊢;by_cases E:k=2
   .rw[jh E]at tg;exact jl tg (by show¬(2:Int)=1;decide)
   .rw[jg E];exact⟨n1,n3,by omega⟩
  |false=>
   rw[C]at tg;simp only[aH,cZ]at tg⊢;by_cases G:((o==19||o==20)&&(l.does.fd.lg (o==20)||r.does.fd.lg (o !=20)))=true
   .rw[jh G]at tg;have:=(M.FN tg j J).2.2;have:=(QU j n G).1;omega
   .rw[jg G]at tg;by_cases D:((o==19||o==20)&&(r.does.fd.lg (o==20)||l.does.fd.lg (o !=20)))=true
    .rw[jh D]at tg;have:=(N.FN tg j K).2.2;have:=(QV j n D).1;omega
    .rw[jg D]at tg;exact jl tg (by show¬(0:Int)=1;decide)
 .intro tg j n;obtain⟨J,K,_⟩:=y j n;rw[W j];rw[S]at tg⊢;cases C:(l.does.fd.known&&r.does.fd.known)with
  |true=>
   rw[C]at tg;simp only[dM]at tg⊢;obtain⟨n1,n2,n3⟩:=VW j n C;unfold sK at tg⊢;by_cases E:k=2
   .rw[jh E];refine⟨?_,λd v σ A B=>?_,by omega⟩
    .show(if lv=0 then (0:Int)else 1)=0\/(if lv=0 then (0:Int)else 1)=1;rw[(Ku lv (n2 E)).2];exact n2 E
    .show _=if lv=0 then (0:Int)else 1;rw[(Ku lv (n2 E)).2];exact n3 d v σ A B
   .rw[jg E]at tg;exact jl tg (by show¬(1:Int)=2;decide)
  |false=>
   rw[C]at tg;simp only[aH,cZ]at tg⊢;by_cases G:((o==19||o==20)&&(l.does.fd.lg (o==20)||r.does.fd.lg (o !=20)))=true
   .rw[jh G]at tg⊢;obtain⟨q1,q2,_⟩:=M.Eu tg j J;obtain⟨⟨_,X⟩,U⟩:=QU j n G;exact⟨q1,λd v σ A B=>by rw[<-U d v σ A B];exact q2 d v σ A B,by omega⟩
   .rw[jg G]at tg⊢;by_cases D:((o==19||o==20)&&(r.does.fd.lg (o==20)||l.does.fd.lg (o !=20)))=true
    .rw[jh D]at tg⊢;obtain⟨q1,q2,_⟩:=N.Eu tg j K;obtain⟨⟨_,X⟩,U⟩:=QV j n D;exact⟨q1,λd v σ A B=>by rw[<-U d v σ A B];exact q2 d v σ A B,by omega⟩
    .rw[jg D]at tg;exact jl tg (by show¬(0:Int)=2;decide)
 .intro tg;rw[S]at tg⊢;cases C:(l.does.fd.known&&r.does.fd.known)with
  |true=>
   rw[C]at tg;simp only[dM]at tg;unfold sK at tg;by_cases E:k=2
   .rw[jh E]at tg;exact jl tg (by show¬(2:Int)=3;decide)
   .rw[jg E]at tg;exact jl tg (by show¬(1:Int)=3;decide)
  |false=>
   rw[C]at tg;simp only[aH,cZ]at tg⊢;by_cases G:((o==19||o==20)&&(l.does.fd.lg (o==20)||r.does.fd.lg (o !=20)))=true
   .rw[jh G]at tg⊢;obtain⟨ff,m1,m2⟩:=M.Pv tg;refine⟨ff,Z (m1.of λj n=>(y j n).1) (jf rfl),λj d v σ n A B=>?_⟩;obtain⟨J,K,_⟩:=y j n;obtain⟨⟨d1,X⟩,U⟩:=QU j n G;obtain⟨r1,r2⟩:=m2 j d v σ J A B;refine⟨r1,je ?_⟩;rcases r2 with⟨r3,_⟩|⟨_,r4,r5⟩
    .omega
    .exact⟨X,r4,by rw[<-U d v σ A B];exact r5⟩
   .rw[jg G]at tg⊢;by_cases D:((o==19||o==20)&&(r.does.fd.lg (o==20)||l.does.fd.lg (o !=20)))=true
    .rw[jh D]at tg⊢;obtain⟨ff,m1,m2⟩:=N.Pv tg;refine⟨ff,Z (m1.of λj n=>(y j n).2.1) (je rfl),λj d v σ n A B=>?_⟩;obtain⟨J,K,_⟩:=y j n;obtain⟨⟨d1,X⟩,U⟩:=QV j n D;obtain⟨r1,r2⟩:=m2 j d v σ K A B;refine⟨r1,je ?_⟩;rcases r2 with⟨r3,_⟩|⟨_,r4,r5⟩
     .omega
     .exact⟨X,r4,by rw[<-U d v σ A B];exact r5⟩
    .rw[jg D]at tg;exact jl tg (by show¬(0:Int)=3;decide)
theorem avc{t t':Int}{l r:Ex}(i:QX t l)(j:QX t' r)(a:Int)(d:ji):QX (t+1+t') (nX a (mJ d.data.toList).2 d l r):=by
 obtain⟨z,f,g,h⟩:=i;obtain⟨o,p,k,n⟩:=j;obtain⟨y,q⟩:=YC ⟨z,g,h⟩ ⟨o,k,n⟩ a d;exact⟨y,_,q⟩
end
end Go.Proofs.YthllhabjfchgiaaGreatDoor
