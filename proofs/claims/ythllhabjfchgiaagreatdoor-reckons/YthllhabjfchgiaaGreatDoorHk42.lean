import Derived.Test.YthllhabjfchgiaaGreatDoorHk41
set_option maxRecDepth 100000
set_option maxHeartbeats 8000000
set_option linter.unusedSimpArgs false
namespace Go.Proofs.YthllhabjfchgiaaGreatDoor
open _root_.Go.Proofs.Tryz
section
open Go.RowKit Hx
attribute [local go_sem ↓] Go.wp_at_zero Go.wp_at_succ
attribute [local go_sem] kP
section
variable {w w' w1 w2 w3 wr W:jk}{lo hi m b H S g l k:Nat}{u v fv:jm}{e f:Ex}{a:Int}{T:jo}{c:Co}{x:Sx}
def D8(meth:String)(T:jo)(b:Nat)(w:jk)(r:Bool):Prop:=
 ∃f,(∀w,(method 576 T (Pt b 0) meth).run prog w=.ok (f,Pt b 0) w)/\Enters f/\
  Calls prog f #[Pt b 0] w λen w'=>en=.returned (.bool r)/\w'=w
def zo(fs:Ky)(k:Int)(w:jk)(lo m H hi:Nat)(T:jo)(b:Nat):Prop:=
 ∃s:jG,qg s/\s.does={lay:=fs.lay,fs:=fs}/\s.jw=k/\
  ∀w',qm w w' lo m H hi->s.here w' lo hi (.iface T (Pt b 0))/\D8 "helm/lang.idle" T b w' fs.idle/\D8 "helm/lang.ends" T b w' fs.ends
structure CW(s:jG):Prop where
 wK:qg s
 fold:∀w lo hi T b,s.here w lo hi (.iface T (Pt b 0))->hi<=w.heap.size->s.jw<=1000000->
  ∃f,(∀w,(method 576 T (Pt b 0) "helm/lang.fold").run prog w=.ok (f,Pt b 0) w)/\Enters f/\
   Calls prog f #[Pt b 0] w λen w'=>en=.returned (.tuple #[])/\zo s.does.fs s.jw w' lo hi w.heap.size w'.heap.size T b/\Fk w w' lo hi
theorem apq(b:Nat)(w:jk):Calls prog 309 #[Pt b 0] w λen w'=>en=.returned (.bool false)/\w'=w:=by
 go_enter func309,ntmps309;go_wp2_with fail;go_ret;exact⟨rfl,rfl⟩
theorem apo(b:Nat)(w:jk):Calls prog 307 #[Pt b 0] w λen w'=>en=.returned (.bool false)/\w'=w:=by
 go_enter func307,ntmps307;go_wp2_with fail;go_ret;exact⟨rfl,rfl⟩
theorem aq9(b:Nat)(w:jk):Calls prog 330 #[Pt b 0] w λen w'=>en=.returned (.bool true)/\w'=w:=by
 go_enter func330,ntmps330;go_wp2_with fail;go_ret;exact⟨rfl,rfl⟩
def Fa(T:jo):Prop:=T∈[331,321,327,333,336]
theorem VQ(h:Fa T)(b:Nat)(w:jk):D8 "helm/lang.idle" T b w false:=by
 refine⟨309,λw=>?_,λargs w=>by kernel_rfl,apq b w⟩;simp only[Fa,dh,dU,or_false]at h;rcases h with rfl|rfl|rfl|rfl|rfl<;>kernel_rfl
def Fb(T:jo):Prop:=T∈[331,321,327,333,349]
theorem VP(h:Fb T)(b:Nat)(w:jk):D8 "helm/lang.ends" T b w false:=by
 refine⟨307,λw=>?_,λargs w=>by kernel_rfl,apo b w⟩;simp only[Fb,dh,dU,or_false]at h;rcases h with rfl|rfl|rfl|rfl|rfl<;>kernel_rfl
theorem qg.does{s:jG}(h:qg s){ds:Ds}(hd:ds.lay=s.does.lay):qg {s with does:=ds}:=
 h.of ⟨h.ok.law,h.ok.head,h.ok.jw⟩ (λ_ _ _ _ h=>h) rfl hd
theorem UO{T' T1:jo}{k kk:Int}{mk:List jm->List jm}{fs:Ky}{g:oM}{W:jk}(hp:Fa T')(hp2:Fb T')(hi0:fs.idle=false)(he0:fs.ends=false)(h1:lo<=b)(h2:b<hi)(hH:hi<=H)(hk:mJ g kk w1 lo b H w1.heap.size v)(hs:w1.heap.size<=W.heap.size)
 (hag:∀j,j<w1.heap.size->j≠b->W.heap[j]? =w1.heap[j]?)(hb:W.heap[b]? =some (.cells (Im a::Im k::mk [v]).toArray T1))
 (hg:∀e':Ex,kC e'->e'.does.give=g.give->e'.jw<=kk->∃ds:Ds,qg (wM T' T1 a k (og (e'.here e'.at')) mk ds)/\ds.lay=fs.lay)(hb1:b<w1.heap.size):zo fs k W lo hi H W.heap.size T' b:=by
 obtain⟨e',T2,b2,_,_,_,rfl,q1,q2,q3,q4,q5,_,q6⟩:=hk;obtain⟨ds,d1,d2⟩:=hg e' q3 q4 q5;refine⟨_,d1.does (ds:={lay:=fs.lay,fs:=fs}) d2.symm,rfl,rfl,λw' ha=>⟨?_,by rw[hi0];exact VQ hp b w',by rw[he0];exact VP hp2 b w'⟩⟩;have hw:qm w1 w' lo b H w1.heap.size:=λj hj=>(ha j (by omega)).trans (hag j (by omega) (by omega));exact⟨b,_,rfl,h1,by omega,⟨_,rfl,(q3.ok.law _).wide _ _ _ _ _ _ (q6 w' hw).1 (aj _) hs⟩,(ha b (jf ⟨h1,h2⟩)).trans hb⟩
theorem agk{d d':Dn}(h:d.give=d'.give)(slot:Int):c.store slot d=c.store slot d':=by unfold Co.store;rw[h]
theorem as8(he:nR e)(a0 i:Int):CW (mY a0 i e):=by
 have ec:=he.l7.ok.jw;refine⟨agr he.l7 a0 i,?_⟩;rintro w lo hi T b ⟨b',us,hv,h1,h2,⟨u,rfl,hu⟩,hb⟩ hH hk;cases hv;obtain⟨T1,b1,rfl,hT1,l1,l2,_⟩:=he.l7.ok.head _ _ _ _ _ hu;obtain⟨f1,m1,kM,H1⟩:=he.fold _ _ _ _ _ _ hu (by omega);have kM:∀args w,(callFunc f1 args).run prog w=.ok (.enter f1 args) w:=kM;have c3:w.cell? (Ad b 3)=some (.iface T1 (Pt b1 0)):=jI hb;have H1:=jA H1;have HB:=jA hb;have hbw:b<w.heap.size:=by omega
 refine⟨318,λw=>by kernel_rfl,λargs w=>by kernel_rfl,?_⟩;clear hu hb;go_enter func318,ntmps318;go_wp2_with fail;refine H1.out.mono ?_;rintro en w1 ⟨v',rfl,hF,hK⟩;have hb1:=(hK.keep b hbw (je (aj _))).trans HB.out;have d3:w1.cell? (Ad b 3)=some (.iface T1 (Pt b1 0)):=jI hb1;have fz:∀j,w1.frozen? (Ad b j)=false:=λj=>oQ hb1;obtain⟨T2,b2,hv2⟩:∃T2 b2,v'=.iface T2 (Pt b2 0):=by
  obtain⟨_,T2,b2,_,_,_,e1,_⟩:=hF;exact⟨T2,b2,e1⟩
 subst hv2;have HE:Hid (zo (mY a0 i e).does.fs (mY a0 i e).jw (w1.setCell (Ad b 3) (.iface T2 (Pt b2 0))) lo hi w.heap.size (w1.setCell (Ad b 3) (.iface T2 (Pt b2 0))).heap.size 327 b/\Fk w (w1.setCell (Ad b 3) (.iface T2 (Pt b2 0))) lo hi):=by
  have s1:=hK.size;have g:=nK w1 b 3 (.iface T2 (Pt b2 0));refine⟨?_,(hK.wide (aj _) (by omega)).trans (Fk.set h1 h2)⟩;refine UO (k:=jR [e.jw]) (mk:=λus=>Im i::us) (by simp[Fa]) (by simp[Fb]) rfl rfl h1 h2 hH hF g.size (λj _ hj=>qZ j hj) (aK _ _ _ _ _ _ hb1) ?_ (by omega);intro e' g1 g2 g3;refine⟨_,agq g1 a0 i ⟨yh (by simp;exact ec),(qj ec).2⟩ λhk=>by rw[yG ec.1 ec.2 hk];omega,?_⟩;funext c
  exact agk g2 i
 clear hF hK hb1 H1;go_wp2_with fail;go_end0;exact⟨rfl,HE.out⟩
theorem asq(he:nR e)(t:Wd):CW (sO t e):=by
 obtain⟨tt,ta⟩:=t;have ec:=he.l7.ok.jw;refine⟨afW he.l7 _,?_⟩;rintro w lo hi T b ⟨b',us,hv,h1,h2,⟨u,rfl,hu⟩,hb⟩ hH hk;cases hv;obtain⟨T1,b1,rfl,hT1,l1,l2,_⟩:=he.l7.ok.head _ _ _ _ _ hu;obtain⟨f1,m1,kM,H1⟩:=he.fold _ _ _ _ _ _ hu (by omega);have kM:∀args w,(callFunc f1 args).run prog w=.ok (.enter f1 args) w:=kM;have c3:w.cell? (Ad b 4)=some (.iface T1 (Pt b1 0)):=jI hb;have H1:=jA H1;have HB:=jA hb;have hbw:b<w.heap.size:=by omega
 refine⟨308,λw=>by kernel_rfl,λargs w=>by kernel_rfl,?_⟩;clear hu hb;go_enter func308,ntmps308;go_wp2_with fail;refine H1.out.mono ?_;rintro en w1 ⟨v',rfl,hF,hK⟩;have hb1:=(hK.keep b hbw (je (aj _))).trans HB.out;have d3:w1.cell? (Ad b 4)=some (.iface T1 (Pt b1 0)):=jI hb1;have fz:∀j,w1.frozen? (Ad b j)=false:=λj=>oQ hb1;obtain⟨T2,b2,hv2⟩:∃T2 b2,v'=.iface T2 (Pt b2 0):=by
  obtain⟨_,T2,b2,_,_,_,e1,_⟩:=hF;exact⟨T2,b2,e1⟩
 subst hv2;have HE:Hid (zo (sO ⟨tt,ta⟩ e).does.fs (sO ⟨tt,ta⟩ e).jw (w1.setCell (Ad b 4) (.iface T2 (Pt b2 0))) lo hi w.heap.size (w1.setCell (Ad b 4) (.iface T2 (Pt b2 0))).heap.size 321 b/\Fk w (w1.setCell (Ad b 4) (.iface T2 (Pt b2 0))) lo hi):=by
  have s1:=hK.size;have g:=nK w1 b 4 (.iface T2 (Pt b2 0));refine⟨?_,(hK.wide (aj _) (by omega)).trans (Fk.set h1 h2)⟩;refine UO (k:=jR [e.jw]) (mk:=λus=>.string tt::Im ta::us) (by simp[Fa]) (by simp[Fb]) rfl rfl h1 h2 hH hF g.size (λj _ hj=>qZ j hj) (aK _ _ _ _ _ _ hb1) ?_ (by omega);intro e' g1 g2 g3;refine⟨_,afV g1 ⟨tt,ta⟩ ta ⟨yh (by simp;exact ec),(qj ec).2⟩ λhk=>by rw[yG ec.1 ec.2 hk];omega,?_⟩;funext c
  exact agk g2 _
 clear hF hK hb1 H1;go_wp2_with fail;go_end0;exact⟨rfl,HE.out⟩
theorem anS(he:nR e)(a0:Int)(t:Wd):CW (sJ a0 t e):=by
 obtain⟨tt,ta⟩:=t;have ec:=he.l7.ok.jw;refine⟨ads he.l7 a0 _,?_⟩;rintro w lo hi T b ⟨b',us,hv,h1,h2,⟨u,rfl,hu⟩,hb⟩ hH hk;cases hv;obtain⟨T1,b1,rfl,hT1,l1,l2,_⟩:=he.l7.ok.head _ _ _ _ _ hu;obtain⟨f1,m1,kM,H1⟩:=he.fold _ _ _ _ _ _ hu (by omega);have kM:∀args w,(callFunc f1 args).run prog w=.ok (.enter f1 args) w:=kM;have c3:w.cell? (Ad b 4)=some (.iface T1 (Pt b1 0)):=jI hb;have H1:=jA H1;have HB:=jA hb;have hbw:b<w.heap.size:=by omega
 refine⟨321,λw=>by kernel_rfl,λargs w=>by kernel_rfl,?_⟩;clear hu hb;go_enter func321,ntmps321;go_wp2_with fail;refine H1.out.mono ?_;rintro en w1 ⟨v',rfl,hF,hK⟩;have hb1:=(hK.keep b hbw (je (aj _))).trans HB.out;have d3:w1.cell? (Ad b 4)=some (.iface T1 (Pt b1 0)):=jI hb1;have fz:∀j,w1.frozen? (Ad b j)=false:=λj=>oQ hb1;obtain⟨T2,b2,hv2⟩:∃T2 b2,v'=.iface T2 (Pt b2 0):=by
  obtain⟨_,T2,b2,_,_,_,e1,_⟩:=hF;exact⟨T2,b2,e1⟩
 subst hv2;have HE:Hid (zo (sJ a0 ⟨tt,ta⟩ e).does.fs (sJ a0 ⟨tt,ta⟩ e).jw (w1.setCell (Ad b 4) (.iface T2 (Pt b2 0))) lo hi w.heap.size (w1.setCell (Ad b 4) (.iface T2 (Pt b2 0))).heap.size 331 b/\Fk w (w1.setCell (Ad b 4) (.iface T2 (Pt b2 0))) lo hi):=by
  have s1:=hK.size;have g:=nK w1 b 4 (.iface T2 (Pt b2 0));refine⟨?_,(hK.wide (aj _) (by omega)).trans (Fk.set h1 h2)⟩;refine UO (k:=jR [e.jw]) (mk:=λus=>.string tt::Im ta::us) (by simp[Fa]) (by simp[Fb]) rfl rfl h1 h2 hH hF g.size (λj _ hj=>qZ j hj) (aK _ _ _ _ _ _ hb1) ?_ (by omega);intro e' g1 g2 g3;refine⟨_,adr g1 a0 ⟨tt,ta⟩ ⟨yh (by simp;exact ec),(qj ec).2⟩ λhk=>by rw[yG ec.1 ec.2 hk];omega,?_⟩;funext c
  simp only[Qg,sJ,yF];rw[g2]
 clear hF hK hb1 H1;go_wp2_with fail;go_end0;exact⟨rfl,HE.out⟩
theorem aq6(a0:Int):CW (yH a0):=by
 refine⟨V3 a0,?_⟩;rintro w lo hi T b ⟨b',us,hv,h1,h2,h3,hb⟩ hH hk;cases hv;refine⟨331,λw=>by kernel_rfl,λargs w=>by kernel_rfl,?_⟩;have HE:Hid (zo (yH a0).does.fs (yH a0).jw w lo hi w.heap.size w.heap.size 336 b/\Fk w w lo hi):=by
  refine⟨⟨_,(V3 a0).does (ds:={lay:=(yH a0).does.fs.lay,fs:=(yH a0).does.fs}) rfl,rfl,rfl,λw' ha=>⟨?_,VQ (by simp[Fa]) b w',330,λw=>by kernel_rfl,λargs w=>by kernel_rfl,aq9 b w'⟩⟩,Fk.refl _ _ _⟩;exact⟨b,us,rfl,h1,by omega,h3,(ha b (jf ⟨h1,h2⟩)).trans hb⟩
 clear hb h3;go_enter func331,ntmps331;go_wp2_with fail;go_end0;exact⟨rfl,HE.out⟩
theorem apV(he:nR e)(hf:nR f)(a0:Int):CW (vg a0 e f):=by
 have ec:=he.l7.ok.jw;have fc:=hf.l7.ok.jw;refine⟨aeU he.l7 hf.l7 a0,?_⟩;rintro w lo hi T b ⟨b',us,hv,h1,h2,⟨m,u,v,rfl,m1,m2,hu,hv2⟩,hb⟩ hH hk;cases hv;obtain⟨T1,b1,rfl,hT1,l1,l2,_⟩:=he.l7.ok.head _ _ _ _ _ hu;obtain⟨T2,b2,rfl,hT2,l3,l4,_⟩:=hf.l7.ok.head _ _ _ _ _ hv2;obtain⟨f1,F5,kM,H1⟩:=he.fold _ _ _ _ _ _ hu (by omega);have kM:∀args w,(callFunc f1 args).run prog w=.ok (.enter f1 args) w:=kM;have c2:w.cell? (Ad b 2)=some (.iface T1 (Pt b1 0)):=jI hb;have H1:=jA H1;have HB:=jA hb;have HV:=jA hv2;have hbw:b<w.heap.size:=by omega
 refine⟨327,λw=>by kernel_rfl,λargs w=>by kernel_rfl,?_⟩;clear hu hb hv2;go_enter func327,ntmps327;go_wp2_with fail;refine H1.out.mono ?_;rintro en w1 ⟨v',rfl,hF,hK⟩;have s1:=hK.size;have hb1:=(hK.keep b hbw (je (by omega))).trans HB.out;have d2:w1.cell? (Ad b 2)=some (.iface T1 (Pt b1 0)):=jI hb1;have fz:∀j,w1.frozen? (Ad b j)=false:=λj=>oQ hb1;obtain⟨e',T3,b3,_,_,_,hv3,q1,q2,q3,q4,q5,_,q6⟩:=hF;subst hv3;have hb2:=aK w1 _ 2 _ _ (.iface T3 (Pt b3 0)) hb1;have d3:(w1.setCell (Ad b 2) (.iface T3 (Pt b3 0))).cell? (Ad b 3)=some (.iface T2 (Pt b2 0)):=jI hb2;have s2:(w1.setCell (Ad b 2) (.iface T3 (Pt b3 0))).heap.size=w1.heap.size:=dI ..;obtain⟨f2,Vl,qp,H2⟩:=hf.fold _ (w1.setCell (Ad b 2) (.iface T3 (Pt b3 0))) m b T2 b2 ((hf.l7.ok.law _).loc _ _ _ _ _ HV.out λj j1 j2=>(qZ j (by omega)).trans (hK.keep j (by omega) (je j1))) (by omega);have qp:∀args w,(callFunc f2 args).run prog w=.ok (.enter f2 args) w:=qp;have H2:=jA H2;have hk1:Fk w (w1.setCell (Ad b 2) (.iface T3 (Pt b3 0))) lo hi:=(hK.wide (aj _) (by omega)).trans (Fk.set h1 h2);have hx1:∀w',qm (w1.setCell (Ad b 2) (.iface T3 (Pt b3 0))) w' lo m w.heap.size w1.heap.size->e'.here e'.at' w' lo w1.heap.size (.iface T3 (Pt b3 0)):=λw' hw=>(q6 w' λj hj=>(hw j hj).trans (qZ j (by omega))).1;have HS:=jA (jd hk1 (jd hb2 (jd hx1 (jd q3 (jd q4 q5)))));clear hK hb1 hb2 hk1 hx1 q1 q2 q3 q4 q5 q6 H1 HB HV;go_wp2_with fail;generalize hW1:w1.setCell (Ad b 2) (.iface T3 (Pt b3 0))=W1 at *;clear hW1 d2 fz;refine H2.out.mono ?_
 rintro en w2 ⟨v'',rfl,hF2,hK2⟩;obtain⟨hk1,hb1,hx1,g1,g2,g3⟩:=HS.out;have s3:=hK2.size;have hb2:=(hK2.keep b (by omega) (je (aj _))).trans hb1;have e3:w2.cell? (Ad b 3)=some (.iface T2 (Pt b2 0)):=jI hb2;have fz:∀j,w2.frozen? (Ad b j)=false:=λj=>oQ hb2;obtain⟨f',T4,b4,_,_,_,hv4,q1,q2,q3,q4,q5,_,q6⟩:=hF2;subst hv4;have HE:Hid (zo (vg a0 e f).does.fs (vg a0 e f).jw (w2.setCell (Ad b 3) (.iface T4 (Pt b4 0))) lo hi w.heap.size (w2.setCell (Ad b 3) (.iface T4 (Pt b4 0))).heap.size 333 b/\Fk w (w2.setCell (Ad b 3) (.iface T4 (Pt b4 0))) lo hi):=by
  have hb3:=aK w2 _ 3 _ _ (.iface T4 (Pt b4 0)) hb2;have s4:(w2.setCell (Ad b 3) (.iface T4 (Pt b4 0))).heap.size=w2.heap.size:=dI ..;refine⟨⟨_,(aeT g1 q3 a0 (k:=jR [e.jw,f.jw]) ⟨yh (by simp;exact⟨ec,fc⟩),(rG ec fc).2⟩ λhk=>by rw[zU ec.1 ec.2 fc.1 fc.2 hk];omega).does (ds:={lay:=(vg a0 e f).does.fs.lay,fs:=(vg a0 e f).does.fs}) ?_,rfl,rfl,λw' ha=>⟨?_,VQ (by simp[Fa]) b w',VP (by simp[Fb]) b w'⟩⟩,(hk1.trans (hK2.wide (by omega) (by omega))).trans (Fk.set h1 h2)⟩
  .funext c
   simp only[VU,vg,yF,wM];rw[g2,q4]
  .have hag:∀j,j≠b->(lo<=j/\j<hi)\/(w.heap.size<=j/\j<w2.heap.size)->w'.heap[j]? =w2.heap[j]? :=λj hj hk=>(ha j (by omega)).trans (qZ j hj);refine⟨b,_,rfl,h1,by omega,⟨_,_,rfl,?_,?_⟩,(ha b (jf ⟨h1,h2⟩)).trans hb3⟩
   .refine(g1.ok.law _).wide _ _ _ _ _ _ (hx1 w' λj hj=>?_) (aj _) (by omega);exact(hag j (by omega) (by omega)).trans (hK2.keep j (by omega) (by omega))
   .exact(q3.ok.law _).wide _ _ _ _ _ _ (q6 w' λj hj=>hag j (by omega) (by omega)).1 (by omega) (by omega)
 clear hk1 hb1 hx1 g1 g2 g3 hb2 hK2 q1 q2 q3 q4 q5 q6 H2 HS;go_wp2_with fail;go_end0;exact⟨rfl,HE.out⟩
end
section
variable {w w' w1 w2 w3 wr W:jk}{lo hi m b H g k:Nat}{u v kv:jm}{T:jo}{c:Co}{l l':List jG}{oG cells:List jm}{s:jG}
theorem MR(h:l.map (·.does)=l'.map (·.does)):kZ l=kZ l':=by
 funext c
 have e:∀(l:List jG)(c:Co),l.foldl (λc s=>s.does.lay c) c=(l.map (·.does)).foldl (λc d=>d.lay c) c:=λl c=>by rw[List.foldl_map]
 unfold kZ;rw[e,e,h]
theorem Na(h:l.map (·.does)=l'.map (·.does)):l.length=l'.length:=by
 have:=congrArg List.length h;simpa using this
theorem ac0(h:l.map (·.does)=l'.map (·.does)):uI l=uI l':=by
 have e:∀l:List jG,uI l=((l.map (·.does)).getLast?.map (·.fs.ends)).getD false:=λl=>by
  unfold uI;rw[List.getLast?_map];cases l.getLast?<;>rfl
 rw[e,e,h]
theorem agy:∀(l:List jG)(a:Int),(∀s∈l,1<=s.jw)->0<=a->a+lM l<=1000000->l.foldl (λa e=>lu [a,e.jw]) a=a+lM l
 |[],a,_,_,_=>by simp[lM]
 |s::l,a,h,ha,hk=>by
  have h1:∀x∈l,1<=x.jw:=λx hx=>h x (aI _ hx);have h2:=h s (aW ..);have h4:=BO h1;have e2:lM (s::l)=s.jw+lM l:=by simp[lM]
  rw[e2]at hk⊢;rw[bP];have h5:lu [a,s.jw]=a+s.jw:=by
   unfold lu;simp only[bP,eF];omega
  rw[h5,agy l _ h1 (by omega) (by omega)];omega
def uP(l:List jG)(w:jk)(lo m H hi:Nat)(v:jm):Prop:=
 ∃l':List jG,tK l'/\l'.map (·.does)=(kU l).map (·.does)/\sumOf l'<=sumOf l/\(∃a c,v=.slice a l'.length c)/\
  ∀w',qm w w' lo m H hi->wL l' w' lo hi v/\Calls prog 339 #[v] w' λen w2=>en=.returned (.bool (uI (kU l)))/\w2=w'
theorem uP.later(h:uP l w lo m H hi v)(ha:qm w w' lo m H hi):uP l w' lo m H hi v:=by
 obtain⟨l',h1,h2,h3,h5,h4⟩:=h;exact⟨l',h1,h2,h3,h5,λw2 hw=>h4 w2 (ha.trans hw)⟩
theorem uP.wide{lo' m' H' hi':Nat}(h:uP l w lo m H hi v)(h1:lo'<=lo)(h2:m<=m')(h3:H'<=H)(h4:hi<=hi'):uP l w lo' m' H' hi' v:=by
 obtain⟨l',e1,e2,e3,e5,e4⟩:=h;refine⟨l',e1,e2,e3,e5,λw2 hw=>?_⟩;obtain⟨q1,q2⟩:=e4 w2 (hw.less h1 h2 h3 h4);exact⟨e1.zQ.wide _ _ _ _ _ _ q1 h1 h4,q2⟩
structure Bh(l:List jG):Prop where
 wK:tK l
 fold:∀w lo hi v,mW l w lo hi v->hi<=w.heap.size->sumOf l<=1000000->
  Calls prog 45 #[v] w λen w'=>∃v',en=.returned v'/\uP l w' lo hi w.heap.size w'.heap.size v'/\Fk w w' lo hi
theorem PW(a:Option Addr)(cap:Nat)(w:jk):Calls prog 339 #[.slice a 0 cap] w λen w2=>en=.returned (.bool false)/\w2=w:=by
 go_enter func339,ntmps339;go_wp2_with fail;go_ret;exact⟨rfl,rfl⟩
theorem amE{g n cap:Nat}{r:Bool}(hn:n<=1000000)(hc:w.cell? (Ad g n)=some (.iface T (Pt b 0)))(h:D8 "helm/lang.ends" T b w r):Calls prog 339 #[.slice (some (Ad g 0)) (n+1) cap] w λen w2=>en=.returned (.bool r)/\w2=w:=by
 obtain⟨f1,F5,kM,H1⟩:=h;have kM:∀args w,(callFunc f1 args).run prog w=.ok (.enter f1 args) w:=kM;have H1:=jA H1;have d2:decide ((0:Int)<(n:Int)+1)=true:=dR (by omega);have d3:wrap64 ((n:Int)+1-1)=n:=by unfold wrap64;omega
 go_enter func339,ntmps339;go_wp2_with fail;refine H1.out.mono ?_;rintro en w1 ⟨rfl,rfl⟩;go_wp2_with fail;go_ret;exact⟨rfl,rfl⟩
structure zD(lo m H:Nat)(wr:jk)(kv:jm)(l':List jG)(cells:List jm):Prop where
 row:wr.ownsRow H 192 1 kv l'.length cells
 each:∀(j:Nat)(s:jG),l'[j]? =some s->∃T b,cells[j]? =some (.iface T (Pt b 0))/\zC lo m H wr kv.ownBlock λw lo hi=>s.here w lo hi (.iface T (Pt b 0))/\D8 "helm/lang.ends" T b w s.does.fs.ends
 all:∀s∈l',qg s
theorem zD.nil(lo m H:Nat)(w:jk):zD lo m H w (Nl) [] []:=⟨fK _ _ _ _,λj b hb=>by simp at hb,λb hb=>by simp at hb⟩
theorem zD.pF{m':Nat}(h:zD lo m H w kv l' cells)(hm:m<=m')(hs:w.heap.size<=w'.heap.size)(h1:∀j,lo<=j->j<m->w'.heap[j]? =w.heap[j]?)(h2:∀j,H<=j->j<w.heap.size->w'.heap[j]? =w.heap[j]?):zD lo m' H w' kv l' cells:=by
 refine⟨aes h.row λg hg=>h2 g (h.row.lt g hg).1 (h.row.lt g hg).2,λj b hb=>?_,h.all⟩;obtain⟨T,b,e1,e4⟩:=h.each j b hb;exact⟨T,b,e1,e4.later hm hs h1 (λk k1 k2 _=>h2 k k1 k2) (jf rfl)⟩
theorem zD.add{gg cap Hn:Nat}(h:zD lo m H w kv l' cells)(hg:w.grownBy w' kv.ownBlock)(hH:H<=w.heap.size)(hmH:m<=H)(hown:w'.ownsRow H 192 1 (.slice (some (Ad gg 0)) (l'.length+1) cap) (l'.length+1) (cells++[.iface T (Pt b 0)]))(hat:kv.ownBlock=some gg\/gg=Hn)(hn:w.heap.size<=Hn)
 (he:qg s)(hh:zC lo m H w kv.ownBlock λw lo hi=>s.here w lo hi (.iface T (Pt b 0))/\D8 "helm/lang.ends" T b w s.does.fs.ends):zD lo m H w' (.slice (some (Ad gg 0)) (l'.length+1) cap) (l'++[s]) (cells++[.iface T (Pt b 0)]):=by
 have hcl:cells.length=l'.length:=by have:=h.row.1;omega
 have MC:∀{Q:jk->Nat->Nat->Prop},zC lo m H w kv.ownBlock Q->zC lo m H w' (Value.slice (some (Ad gg 0)) (l'.length+1) cap).ownBlock Q:=λhq=>by
  refine hq.later (aj _) hg.size (λk k1 k2=>hg.block k (by omega) λe=>?_) (λk k1 k2 k3=>hg.block k k2 k3) ?_
  .have:=(h.row.lt k e.symm).1;omega
  .rcases hat with h1|h1
   .exact jf (by rw[h1];rfl)
   .exact je ⟨gg,rfl,by omega⟩
 refine⟨by rw[aA];exact hown,λj d hd=>?_,λd hd=>?_⟩
 .rcases dG j l'.length with hj|hj
  .rw[aT hj]at hd;obtain⟨T',b',e1,e4⟩:=h.each j d hd;exact⟨T',b',by rw[aT (by omega)];exact e1,MC e4⟩
  .rw[bW hj]at hd;have hj0:j-l'.length=0:=by
    rcases gJ (j-l'.length)with h0|h0
    .exact h0
    .rw[bV (by simp;omega)]at hd;cases hd
   rw[hj0]at hd;simp only[dw,bJ]at hd;subst hd;refine⟨T,b,?_,MC hh⟩;rw[bW (by omega),show j-cells.length=0 by omega];rfl
 .rcases List.mem_append.1 hd with hd|hd
  .exact h.all d hd
  .rw[cO.1 hd];exact he
theorem zD.done(h:zD lo m H wr kv l' cells)(hs:∀s∈l,1<=s.jw)(hm:m<=hi)(hlo:lo<=H)(hl:l'.map (·.does)=(kU l).map (·.does))(hc:lM l'<=lM l)(hk:sumOf l<=1000000)(hH:H<=wr.heap.size):uP l wr lo hi H wr.heap.size kv:=by
 have h1:sumOf l=lM l:=Gj hs hk;have h2:sumOf l'=lM l':=by
  have:=agy l' 0 (λs hs=>(h.all s hs).pos) (aV 0) (by omega);unfold sumOf;omega
 obtain⟨ka,kc,hkv⟩:=VK h.row;refine⟨l',Ht h.all,hl,by omega,⟨ka,kc,hkv⟩,λw' ha=>?_⟩;cases hka:ka with
 |none=>
  subst hkv hka;rcases h.row.2 with⟨e1,e2⟩|⟨_,_,_,e1,_⟩
  .have e3:=dW e2;refine⟨jf ⟨e3,e1⟩,?_⟩;rw[e1,<-ac0 hl,e3];exact PW none 0 w'
  .cases e1
 |some ad=>
  subst hkv hka;have hrow:=h.row;obtain⟨gb,hgb⟩:∃gb,ad=(Ad gb 0):=by
   rcases hrow.2 with⟨h1,_⟩|⟨g',_,_,h1,_⟩
   .cases h1
   .cases h1;exact⟨g',rfl⟩
  subst hgb;obtain⟨cur,c1,c2,c3⟩:=aep hrow;have hlt:=(hrow.lt gb rfl).2;have hb2:=(ha gb (je ⟨c1,hlt⟩)).trans c2;refine⟨je ⟨gb,kc,cur,rfl,by omega,hlt,hb2,λk d hd=>?_⟩,?_⟩
  .obtain⟨T,b,e1,l1,m1,H1,y1,k1,k2,k3,k4,k5,k6⟩:=h.each k d hd;refine⟨_,c3 _ _ e1,?_⟩;exact(h.all d (bT hd)).ok.law.wide _ _ _ _ _ _ (k6 w' λj hj=>ha j (by omega)).1 k1 k4
  .rw[<-ac0 hl];cases hn:l'.length with
   |zero=>
    rw[dW hn];exact PW _ _ w'
   |succ n=>
    have hlast:l'[n]? =some (l'[n]'(by omega)):=bU (by omega);obtain⟨T,b,e1,l1,m1,H1,y1,k1,k2,k3,k4,k5,k6⟩:=h.each n _ hlast;have he:uI l'=(l'[n]'(by omega)).does.fs.ends:=by
     unfold uI;rw[List.getLast?_eq_getElem?,show l'.length-1=n by omega,hlast]
    rw[he];have hln:=BO λs hs=>(h.all s hs).pos;exact amE (by omega) ((jI hb2).trans (c3 _ _ e1)) (k6 w' λj hj=>ha j (by omega)).2
structure E5(l:List jG)(g lo hi:Nat)(oG:List jm)(w wr:jk)(k m:Nat):Prop where
 rest:tC g (l.drop k) wr m hi (oG.drop k)
 row:wr.heap[g]? =w.heap[g]?
 fk:Fk w wr lo hi
 m1:lo<=m
 m2:m<=hi
theorem E5.og(h:E5 l g lo hi oG w wr k m)(hl:∀s∈l,Lawful s.here)(hk:l[k]? =some s)(hg:g<w.heap.size)(hH:hi<=w.heap.size):
 ∃q m' u,oG[k]? =some u/\m<=q/\q<=m'/\m'<=hi/\s.here wr q m' u/\∀W3,Fk wr W3 q m'->E5 l g lo hi oG w W3 (k+1) m':=by
 have hlt:k<l.length:=by
  rcases dG k l.length with h1|h1
  .exact h1
  .rw[bV h1]at hk;cases hk
 have hbb:l[k]=s:=by
  rw[bU hlt]at hk;exact fZ hk
 have hr:=h.rest;rw[dA hlt,hbb]at hr;obtain⟨q,m',u,us',e0,e1,e2,e3,e4,e5,e6⟩:=hr;have hs:=h.fk.size;have hu:oG[k]? =some u:=by
  have:=congrArg (λl=>l[0]?) e0;simpa using this
 have hus:oG.drop (k+1)=us':=by
  have:=congrArg List.tail e0;simpa using this
 have hm1:=h.m1;refine⟨q,m',u,hu,e1,e2,e3,e5,λW3 hf=>⟨?_,(hf.keep g (by omega) (by omega)).trans h.row,?_,by omega,e3⟩⟩
 .rw[hus];exact J7 (λc hc=>hl c (gU hc)) e6 λj j1 j2=>hf.keep j (by omega) (je j1)
 .exact h.fk.trans (hf.wide (by omega) e3)
theorem E5.grow{row:Option Nat}(h:E5 l g lo hi oG w wr k m)(hl:∀s∈l,Lawful s.here)(hg:wr.grownBy W row)(hrow:∀j,row=some j->w.heap.size<=j)(hH:hi<=w.heap.size)(hgh:g<w.heap.size):E5 l g lo hi oG w W k m:=by
 have hs:=h.fk.size;have hk:∀j,j<w.heap.size->W.heap[j]? =wr.heap[j]? :=λj hj=>hg.block j (by omega) λe=>by have:=hrow j e.symm;omega
 have hm1:=h.m1;have hm2:=h.m2;exact⟨J7 (λc hc=>hl c (gU hc)) h.rest λj j1 j2=>hk j (by omega),(hk g (by omega)).trans h.row,⟨hg.os.trans h.fk.os,hg.tape.trans h.fk.tape,hg.output.trans h.fk.output,by have:=hg.size;omega,λj j1 j2=>(hk j j1).trans (h.fk.keep j j1 j2)⟩,hm1,hm2⟩
theorem amb:(prog.info? 192).map (λi=>(i.zero,i.size,i.bytes))=some (some .nilIface,1,16):=by kernel_rfl
theorem aoq(w:jk)(lo m H hi:Nat):uP [] w lo m H hi (Nl):=
 ⟨[],Ht (by simp),rfl,aV _,⟨none,0,rfl⟩,λw' _=>⟨jf ⟨rfl,rfl⟩,PW none 0 w'⟩⟩
theorem akD(a:Option Addr)(cap:Nat)(w:jk):Calls prog 45 #[.slice a 0 cap] w λen w2=>en=.returned (Nl)/\w2=w:=by
 go_enter func45,ntmps45;go_wp2_with fail;go_loopg [3,8] 1 (λ_ kv i wr=>kv=Nl/\i=Im 0/\wr=w)
 case atStart=>exact⟨rfl,rfl,rfl⟩
 case round=>
  obtain⟨rfl,rfl,rfl⟩:=hrel;go_wp2_with fail;go_ret;exact⟨rfl,rfl⟩
structure Kw(l:List jG)(g lo hi:Nat)(oG:List jm)(w wr:jk)(k m:Nat)(kv:jm)(l':List jG)(cells:List jm):Prop where
 kept:zD lo m w.heap.size wr kv l' cells
 rest:E5 l g lo hi oG w wr k m
 does:l'.map (·.does)++(kU (l.drop k)).map (·.does)=(kU l).map (·.does)
 jw:lM l'+lM (l.drop k)<=lM l
 len:l'.length<=k
theorem aaG{k:Nat}(hk:l[k]? =some s):lM (l.drop k)=s.jw+lM (l.drop (k+1)):=by
 obtain⟨hi,he⟩:=List.getElem?_eq_some_iff.1 hk;rw[dA hi,he];simp[lM]
theorem abe{k:Nat}(hk:l[k]? =some s):kU (l.drop k)=if s.does.fs.idle then kU (l.drop (k+1))else if s.does.fs.ends then [s.uG]else s.uG::kU (l.drop (k+1)):=by
 obtain⟨hi,he⟩:=List.getElem?_eq_some_iff.1 hk;rw[dA hi,he]
 rfl
theorem aaH(h:∀s∈l,qg s)(k:Nat):0<=lM (l.drop k):=by
 have:=BO (l:=l.drop k) λs hs=>(h s (gU hs)).pos;omega
theorem P8(h:∀s∈l,CW s):Bh l:=by
 have hls:∀s∈l,qg s:=λs hs=>(h s hs).wK;refine⟨Ht hls,?_⟩;intro w lo hi v hh hH hk;have hl:∀s∈l,Lawful s.here:=λs hs=>(hls s hs).ok.law;have hpos:∀s∈l,1<=s.jw:=λs hs=>(hls s hs).pos;have hcs:lM l<=1000000:=by rw[<-Gj hpos hk];exact hk
 rcases hh with⟨rfl,rfl⟩|⟨g,cap,oG,arr,rfl,g1,g2,hst,hg,harr⟩
 .refine(akD none 0 w).mono ?_;rintro en w' ⟨e1,rfl⟩;exact⟨_,e1,aoq _ _ _ _ _,Fk.refl _ _ _⟩
 have hgw:g<w.heap.size:=by omega
 have hlen:l.length<=1000000:=by have:=BO hpos;omega
 have H0:Hid (Kw l g lo hi oG w w 0 lo (Nl) [] []):=⟨zD.nil _ _ _ _,⟨hst,rfl,Fk.refl _ _ _,aj _,by omega⟩,by simp,by simp[lM],aj _⟩;have EX:=jA (λ(k:Nat)(u:jm)(hu:oG[k]? =some u)=>(jI hg).trans (harr k u hu));have Y5:Hid (∀wr k m kv l' cells,Kw l g lo hi oG w wr k m kv l' cells->(kU (l.drop k)).map (·.does)=[]->uP l wr lo hi w.heap.size wr.heap.size kv/\Fk w wr lo hi):=λwr k m kv l' cells hI hd=>by
  have h1:=hI.does;rw[hd,aX]at h1;have h2:=hI.jw;have h3:=aaH hls k;exact⟨hI.kept.done hpos hI.rest.m2 (by omega) h1 (by omega) hk hI.rest.fk.size,hI.rest.fk⟩
 have HF:=jA h;have HL:=jA hl;have RP:=jA hls;have HP:=jA (jd hpos (jd hcs (jd hk hH)));clear hst hg harr h hl hls hpos hcs hk;go_enter func45,ntmps45;go_wp2_with fail;go_loopg [3,8] (l.length+1) (λgg kv i wr=>Hid (∃(k m:Nat)(l':List jG)(cells:List jm),k+gg=l.length+1/\k<=l.length/\i=Im k/\Kw l g lo hi oG w wr k m kv l' cells))
 case atStart=>exact⟨0,lo,[],[],by omega,bD _,rfl,H0.out⟩
 case round=>
  obtain⟨k,m,l',cells,hk1,hk2,rfl,hI⟩:=hrel.out;clear hrel H0;obtain⟨ka,kc,hkv⟩:=VK hI.kept.row;subst hkv;by_cases hlt:k<l.length
  .have d1:decide ((k:Int)<(l.length:Int))=true:=by simp;omega
   have i0:(0:Int)<=(k:Int):=by omega
   have i1:(k:Int)<(l.length:Int):=by omega
   obtain⟨s,hs⟩:∃s,l[k]? =some s:=⟨_,bU hlt⟩;have hQ:=HF.out s (bT hs);obtain⟨q,m',u,hu,q1,q2,q3,q4,q5⟩:=hI.rest.og HL.out hs hgw HP.out.2.2.2;have z0:=EX.out k u hu;obtain⟨T1,b1,rfl,hT1,l1,l2,_⟩:=hQ.wK.ok.head _ _ _ _ q4;have hsw:=hI.rest.fk.size;have k0:wr.cell? (Ad g k)=some (.iface T1 (Pt b1 0)):=(bQ hI.rest.row).trans z0;obtain⟨g',hg'⟩:∃g',gk=g'+1:=⟨gk-1,by omega⟩;have hsc:s.jw<=1000000:=by
    have h1:=aaI HP.out.1 k s hs;have h2:=BO (l:=l.take k) λs hs=>HP.out.1 s (dS hs);have h3:=HP.out.2.1;omega
   have hm':m'<=w.heap.size:=by have:=HP.out.2.2.2;omega
   obtain⟨f1,F5,kM,H1⟩:=hQ.fold wr q m' T1 b1 q4 (by omega) hsc;have kM:∀args w,(callFunc f1 args).run prog w=.ok (.enter f1 args) w:=kM;have H1:=jA H1;have HI:=jA hI;have II:=jA q5;have HS:=jA hs;clear hI q4 q5 hQ hs hu z0;go_wp2_with fail;refine H1.out.mono ?_;rintro en w2 ⟨rfl,TW,En⟩;obtain⟨s',hl',hd',hc',FQ⟩:=TW;obtain⟨t1,⟨f2,Vl,qp,H2⟩,t3⟩:=FQ w2 (qm.refl _ _ _ _ _);have qp:∀args w,(callFunc f2 args).run prog w=.ok (.enter f2 args) w:=qp;have H2:=jA H2;have s2:=En.size;have HN:Hid (zD lo m' w.heap.size w2 (.slice ka l'.length kc) l' cells/\E5 l g lo hi oG w w2 (k+1) m'/\zC lo m' w.heap.size w2 (Value.slice ka l'.length kc).ownBlock λw lo hi=>s'.here w lo hi (.iface T1 (Pt b1 0))/\D8 "helm/lang.ends" T1 b1 w s'.does.fs.ends):=by
    have hm1:=HI.out.rest.m1;refine⟨HI.out.kept.pF (by omega) s2 (λj j1 j2=>En.keep j (by have:=HI.out.rest.m2;have:=HP.out.2.2.2;omega) (jf (by omega))) (λj j1 j2=>En.keep j j2 (je (by omega))),II.out _ En,q,m',wr.heap.size,w2.heap.size,by omega,aj _,hsw,aj _,λgg hgg=>jf (HI.out.kept.row.lt gg hgg).2,λw' hw=>?_⟩;obtain⟨y1,y2,y3⟩:=FQ w' hw;exact⟨y1,by rw[hd'];exact y3⟩
   have HD:=jA (jd hl' (jd hd' hc'));have RJ:Hid (s.does.fs.idle=true->Kw l g lo hi oG w w2 (k+1) m' (.slice ka l'.length kc) l' cells):=λhi=>by
    refine⟨HN.out.1,HN.out.2.1,?_,?_,by have:=HI.out.len;omega⟩
    .have h1:=HI.out.does;rw[abe HS.out,hi,jh rfl]at h1;exact h1
    .have h1:=HI.out.jw;rw[aaG HS.out]at h1;have:=(RP.out s (bT HS.out)).pos;omega
   have hll:l'.length<=1000000:=by have:=HI.out.len;omega
   have HO:=jA (λo=>HN.out.1.row.alloc o);have HAdd:Hid (s.does.fs.idle=false->∀(o:Obj)(y:jk)(gg cap:Nat),(w2.alloc o).grownBy y (Value.slice ka l'.length kc).ownBlock->y.ownsRow w.heap.size 192 1 (.slice (some (Ad gg 0)) (l'.length+1) cap) (l'.length+1) (cells++[.iface T1 (Pt b1 0)])->((Value.slice ka l'.length kc).ownBlock=some gg\/gg=w2.heap.size+1)->
    D8 "helm/lang.ends" T1 b1 y s.does.fs.ends/\(s.does.fs.ends=false->Kw l g lo hi oG w y (k+1) m' (.slice (some (Ad gg 0)) (l'.length+1) cap) (l'++[s']) (cells++[.iface T1 (Pt b1 0)]))/\
    (s.does.fs.ends=true->uP l y lo hi w.heap.size y.heap.size (.slice (some (Ad gg 0)) (l'.length+1) cap)/\Fk w y lo hi)):=λhi o y gg cap hgr hown hat=>by
    obtain⟨n1,n2,n3⟩:=HN.out;obtain⟨p1,p2,p3,p4⟩:=HP.out;have ga:=ah w2 o none;have hm1:=HI.out.rest.m1;have hkk:=n1.pF (aj _) ga.size (λj j1 j2=>ga.block j (by omega) (by simp)) (λj j1 j2=>ga.block j j2 (by simp));have hh:=n3.later (own':=(Value.slice ka l'.length kc).ownBlock) (aj _) ga.size (λj j1 j2=>ga.block j (by omega) (by simp)) (λj j1 j2 _=>ga.block j j2 (by simp)) (jf rfl);have Vo:=n2.grow HL.out ga (λj hj=>by cases hj) p4 hgw;have JG:=Vo.grow HL.out hgr (λj hj=>(hkk.row.lt j hj).1) p4 hgw;have hadd:=hkk.add hgr (by rw[nX];omega) hm' hown hat (by rw[nX];omega) hl' hh;have akY:qm w2 y q m' wr.heap.size w2.heap.size:=λj hj=>by
     refine(hgr.block j (by rw[nX];omega) λe=>?_).trans (ga.block j (by omega) (by simp));have h1:=HI.out.kept.row.lt j e.symm;omega
    have hfold:kU (l.drop k)=if s.does.fs.ends then [s.uG]else s.uG::kU (l.drop (k+1)):=by
     rw[abe HS.out,hi]
     rfl
    have h1:=HI.out.does;have h2:=HI.out.jw;rw[hfold]at h1;rw[aaG HS.out]at h2;have Jp:lM (l'++[s'])=lM l'+s.jw:=by simp[lM,hc']
    have hsd:s'.does=s.uG.does:=hd';refine⟨(FQ y akY).2.2,λhe=>?_,λhe=>?_⟩
    .rw[he]at h1;refine⟨hadd,JG,?_,by omega,by have:=HI.out.len;simp only[aA,aF,bg];omega⟩;rw[dF,bY];simp only[dL,iM,fC,hsd];simpa using h1
    .rw[he]at h1;have h3:=aaH RP.out (k+1);refine⟨hadd.done p1 JG.m2 (by have:=JG.m1;have:=JG.m2;omega) ?_ (by omega) p3 JG.fk.size,JG.fk⟩;rw[dF];simp only[dL,iM,hsd];simpa using h1
   obtain⟨PL,hi0,hz0,hz1,hz2⟩:=info_parts amb;clear En FQ HN HD HI II H1 kM F5 t1 t3 hl' hd' hc' k0;generalize alg:l'.length=fl at *;cases hT:s.does.fs.idle with
   |true=>
    rw[hT]at H2;have wW:=jA (RJ.out hT);clear RJ HAdd HO;go_wp2_with fail;refine H2.out.mono ?_;rintro en w4 ⟨rfl,rfl⟩;go_wp2_with fail;go_roundg g'
    case measure=>omega
    case rel=>exact⟨k+1,m',l',cells,by omega,by omega,by go_num,wW.out⟩
   |false=>
    rw[hT]at H2;have wW:=jA (HAdd.out hT);clear RJ HAdd;go_wp2_with fail;refine H2.out.mono ?_;rintro en w2 ⟨rfl,rfl⟩;cases hE:s.does.fs.ends with
    |false=>
     go_wp2_with (at_builtin;refine wpList_append_lies _ rfl _ _ 105 rfl w.heap.size 192 PL .nilIface 1 16 Tryz.underlying105 hi0 hz0 hz1 hz2 rfl (by decide) (.slice ka fl kc) fl cells rfl (HO.out _) (Ad w2.heap.size 0) 1 1 [.iface T1 (Pt b1 0)] rfl rfl (cell_one_new _ _ _) (by simp[Value.oneCell']) (by decide) (by unfold maxLen;omega) (by omega) (by simp;omega) (w2.heap.size+1) (by simp) ?_;intro gg cap w5 hown hgr hat hlt2;obtain⟨⟨f3,mm3,LM,H3⟩,hgo,hend⟩:=wW.out _ _ _ _ hgr hown hat;rw[hE]at H3;have LM:∀args w,(callFunc f3 args).run prog w=.ok (.enter f3 args) w:=LM);have KG:=jA (hgo hE);clear hgo hend hgr hown hat wW HO H2 qp Vl;refine H3.mono ?_;rintro en w6 ⟨rfl,rfl⟩;go_wp2_with fail;go_roundg g'
     case measure=>omega
     case rel=>exact⟨k+1,m',_,_,by omega,by omega,by go_num,KG.out⟩
    |true=>
     go_wp2_with (at_builtin;refine wpList_append_lies _ rfl _ _ 105 rfl w.heap.size 192 PL .nilIface 1 16 Tryz.underlying105 hi0 hz0 hz1 hz2 rfl (by decide) (.slice ka fl kc) fl cells rfl (HO.out _) (Ad w2.heap.size 0) 1 1 [.iface T1 (Pt b1 0)] rfl rfl (cell_one_new _ _ _) (by simp[Value.oneCell']) (by decide) (by unfold maxLen;omega) (by omega) (by simp;omega) (w2.heap.size+1) (by simp) ?_;intro gg cap w5 hown hgr hat hlt2;obtain⟨⟨f3,mm3,LM,H3⟩,hgo,hend⟩:=wW.out _ _ _ _ hgr hown hat;rw[hE]at H3;have LM:∀args w,(callFunc f3 args).run prog w=.ok (.enter f3 args) w:=LM);have KG:=jA (hend hE);clear hgo hend hgr hown hat wW HO H2 qp Vl;refine H3.mono ?_;rintro en w6 ⟨rfl,rfl⟩;go_wp2_with fail;go_ret;exact⟨_,rfl,KG.out⟩
  .have d1:decide ((k:Int)<(l.length:Int))=false:=by simp;omega
   have HE:=jA (Y5.out _ _ _ _ _ _ hI (by rw[List.drop_eq_nil_of_le (by omega)];rfl));clear hI EX HF HL RP HP Y5;generalize l'.length=fl at *;go_wp2_with fail;go_ret;exact⟨_,rfl,HE.out⟩
end
section
variable {w w' w1 w2 w3 wr W:jk}{lo hi m b H g k:Nat}{u v kv:jm}{T:jo}{c:Co}{l l' y n:List jG}{oG cells:List jm}{s:jG}{e:Ex}
def agz(a k:Int)(u0:jm)(y:List jG)(ds:Ds):jG:=wM 339 341 a k (og (wL y)) (λus=>u0::us++[Nl,.bool true]) ds
theorem ath(hy:tK y)(u0:jm)(a:Int){k:Int}(hk1:1<=k/\k<=1000001)(hke:k<=1000000->sumOf y<=k)(ds:Ds)(hd:ds.lay=kZ y):qg (agz a k u0 y ds):=by
 have yc:=rH hy.ok;refine⟨H8 (by simp[o7]) (qW hy.zQ) hk1,hk1.1,λc=>Ik ?_,λc hk=>?_,?_⟩
 .show(ds.lay c).jy=c.jy;rw[hd];exact hy.jy c
 .have hk:k<=1000000:=hk;have hp:=hke hk;show((ds.lay c).code.length:Int)<=c.code.length+200 * k;rw[hd];have:=hy.len c (by omega);omega
 rintro w lo hi T b C c ⟨b',us,hv,h1,h2,⟨u,rfl,hu⟩,hb⟩ hC hc hr;cases hv;have hr:Room c k:=hr;have hp:=hke hr.jw;have hrc:=hr.code;have hrn:=hr.jy;have hrk:=hr.jw;obtain⟨ya,CP,hvf⟩:=FU hu;obtain⟨yn,hyn⟩:∃yn,y.length=yn:=⟨_,rfl⟩;rw[hyn]at hvf;subst hvf;have d3:w.cell? (Ad b 3)=some (.slice ya yn CP):=jI hb;have d5:w.cell? (Ad b 5)=some (.bool true):=jI hb;have HY:=jA (hy.lay _ _ _ _ C c hu hC hc ⟨by omega,by omega,by omega⟩);refine⟨337,λw=>by kernel_rfl,λargs w=>by kernel_rfl,?_⟩;show Calls prog 337 #[Pt b 0,Pt C 0] w λen w'=>en=.returned (.tuple #[])/\kD w' C (ds.lay c)/\Gk w w' C;rw[hd];clear hb hu hc hr hrc hrn hrk hp hyn hd;go_enter func337,ntmps337;go_wp2_with fail;refine HY.out.mono ?_;rintro en w1 ⟨rfl,p1,q1⟩;have HE:=jA (jd p1 q1);clear p1 q1 HY;go_wp2_with fail;exact cu (v:=.tuple #[]) (by simp[results,Tryz.results337,go_sem]) rfl ⟨rfl,HE.out⟩
theorem aav{ya na:Option Addr}{yn nn yc nc:Nat}(d3:w.cell? (Ad b 3)=some (.slice ya yn yc))(d4:w.cell? (Ad b 4)=some (.slice na nn nc)):Calls prog 336 #[Pt b 0] w λen w'=>en=.returned (.bool (decide (yn=0)&&decide (nn=0)))/\w'=w:=by
 by_cases hy:yn=0
 .subst hy;by_cases hn:nn=0
  .subst hn;go_enter func336,ntmps336;go_wp2_with fail;go_ret;exact⟨rfl,rfl⟩
  .have e1:((nn:Int)==0)=false:=by rw[beq_eq_false_iff_ne];omega
   rw[dO hn];clear hn;go_enter func336,ntmps336;go_wp2_with fail;go_ret;exact⟨rfl,rfl⟩
 .have e1:((yn:Int)==0)=false:=by rw[beq_eq_false_iff_ne];omega
  rw[dO hy,gK];clear hy;go_enter func336,ntmps336;go_wp2_with fail;go_ret;exact⟨rfl,rfl⟩
theorem aau{ya na:Option Addr}{yn nn yc nc:Nat}{ry rn sure:Bool}(d3:w.cell? (Ad b 3)=some (.slice ya yn yc))(d4:w.cell? (Ad b 4)=some (.slice na nn nc))(d5:w.cell? (Ad b 5)=some (.bool sure))
 (hy:Calls prog 339 #[.slice ya yn yc] w λen w2=>en=.returned (.bool ry)/\w2=w)(hn:Calls prog 339 #[.slice na nn nc] w λen w2=>en=.returned (.bool rn)/\w2=w):
 Calls prog 334 #[Pt b 0] w λen w'=>en=.returned (.bool (ry&&(sure||rn)))/\w'=w:=by
 have HY:=jA hy;have HN:=jA hn;clear hy hn;cases ry with
 |false=>
  go_enter func334,ntmps334;go_wp2_with fail;refine HY.out.mono ?_;rintro en w1 ⟨rfl,rfl⟩;go_wp2_with fail;go_ret;exact⟨rfl,rfl⟩
 |true=>
  cases sure with
  |true=>
   go_enter func334,ntmps334;go_wp2_with fail;refine HY.out.mono ?_;rintro en w1 ⟨rfl,rfl⟩;go_wp2_with fail;go_ret;exact⟨rfl,rfl⟩
  |false=>
   simp only[Bool.true_and,gZ];go_enter func334,ntmps334;go_wp2_with fail;refine HY.out.mono ?_;rintro en w1 ⟨rfl,rfl⟩;go_wp2_with fail;refine HN.out.mono ?_;rintro en w1 ⟨rfl,rfl⟩;go_wp2_with fail;go_ret;exact⟨rfl,rfl⟩
theorem agA{a k:Int}{u0 yv:jm}{fs:Ky}{H0:Nat}(h1:lo<=b)(h2:b<hi)(hH:hi<=W.heap.size)(hb:W.heap[b]? =some (.cells ([Im a,Im k,u0,yv,Nl,.bool true]:List jm).toArray 341))
 (hy:uP y W lo b H0 W.heap.size yv)(hk1:1<=k/\k<=1000001)(hke:k<=1000000->sumOf y<=k)(hfs:fs={lay:=kZ (kU y),idle:=decide ((kU y).length=0),ends:=uI (kU y)}):zo fs k W lo hi H0 W.heap.size 339 b:=by
 obtain⟨y',e1,e2,e3,⟨ya,yc,rfl⟩,e4⟩:=hy;subst hfs;refine⟨agz a k u0 y' _,ath e1 u0 a hk1 (λhk=>by have:=hke hk;omega) {lay:=kZ (kU y),fs:={lay:=kZ (kU y),idle:=decide ((kU y).length=0),ends:=uI (kU y)}} (MR e2).symm,rfl,rfl,λw' ha=>?_⟩;obtain⟨q1,q2⟩:=e4 w' (ha.less (aj _) (by omega) (aj _) (aj _));have hb':=(ha b (jf ⟨h1,h2⟩)).trans hb;have d3:w'.cell? (Ad b 3)=some (.slice ya y'.length yc):=jI hb';have d4:w'.cell? (Ad b 4)=some (Nl):=jI hb';have d5:w'.cell? (Ad b 5)=some (.bool true):=jI hb';refine⟨⟨b,_,rfl,h1,by omega,⟨_,rfl,q1⟩,hb'⟩,⟨336,λw=>by kernel_rfl,λargs w=>by kernel_rfl,?_⟩,334,λw=>by kernel_rfl,λargs w=>by kernel_rfl,?_⟩
 .have h:=aav d3 d4;rw[Na e2]at h;simpa using h
 .have h:=aau d3 d4 d5 q2 (PW none 0 w');simpa using h
theorem ajI{a k kk:Int}{uv yv nv:jm}{fs:Ky}{f:oM}{H0:Nat}(h1:lo<=b)(h2:b<hi)(hH:hi<=W.heap.size)(hb:W.heap[b]? =some (.cells ([Im a,Im k,uv,yv,nv,.bool false]:List jm).toArray 341))
 (he:mJ f kk W lo b H0 W.heap.size uv)(hy:uP y W lo b H0 W.heap.size yv)(hn:uP n W lo b H0 W.heap.size nv)(hk1:1<=k/\k<=1000001)(hke:k<=1000000->1+(kk+sumOf y+sumOf n)<=k)
 (hfs:fs={lay:=λc=>(if 0<(kU n).length then kZ (kU n) ((kZ (kU y) (((f.give c (-1)).1.jX c.free).lay 2 [(f.give c (-1)).2])).lay 3 [])else kZ (kU y) (((f.give c (-1)).1.jX c.free).lay 2 [(f.give c (-1)).2])).lay 0 [],idle:=decide ((kU y).length=0)&&decide ((kU n).length=0),ends:=uI (kU y)&&uI (kU n)}):zo fs k W lo hi H0 W.heap.size 339 b:=by
 obtain⟨e',T2,b2,_,_,_,rfl,_,_,q3,q4,q5,_,q6⟩:=he;obtain⟨y',e1,e2,e3,⟨ya,yc,rfl⟩,e4⟩:=hy;obtain⟨n',g1,g2,g3,⟨na,nc,rfl⟩,g4⟩:=hn;refine⟨_,(aas q3 e1 g1 a hk1 (λhk=>by have:=hke hk;omega)).does (ds:={lay:=fs.lay,fs:=fs}) ?_,rfl,rfl,λw' ha=>?_⟩
 .subst hfs;funext c
  simp only[zI,wM];rw[MR e2,MR g2,Na g2,q4]
 have ha':=ha.less (lo:=lo) (m:=b) (H:=H0) (hi:=W.heap.size) (aj _) (by omega) (aj _) (aj _);obtain⟨q1,q2⟩:=e4 w' ha';obtain⟨r1,r2⟩:=g4 w' ha';have hb':=(ha b (jf ⟨h1,h2⟩)).trans hb;have d3:w'.cell? (Ad b 3)=some (.slice ya y'.length yc):=jI hb';have d4:w'.cell? (Ad b 4)=some (.slice na n'.length nc):=jI hb';have d5:w'.cell? (Ad b 5)=some (.bool false):=jI hb';subst hfs;refine⟨⟨b,_,rfl,h1,by omega,⟨_,_,_,rfl,(q6 w' ha').1,q1,r1⟩,hb'⟩,⟨336,λw=>by kernel_rfl,λargs w=>by kernel_rfl,?_⟩,334,λw=>by kernel_rfl,λargs w=>by kernel_rfl,?_⟩
 .have h:=aav d3 d4;rw[Na e2,Na g2]at h;exact h
 .have h:=aau d3 d4 d5 q2 r2;simpa using h
end
end
end Go.Proofs.YthllhabjfchgiaaGreatDoor
