import Derived.Test.YthllhabjfchgiaaGreatDoorHk35
set_option maxRecDepth 100000
set_option maxHeartbeats 8000000
set_option linter.unusedSimpArgs false
namespace Go.Proofs.YthllhabjfchgiaaGreatDoor
open _root_.Go.Proofs.Tryz
section
open Go.RowKit Hx
attribute [local go_sem ↓] Go.wp_at_zero Go.wp_at_succ
attribute [local go_sem] kP
section
variable {w w' w1 w2 w3:jk}{lo hi m b H:Nat}{u v:jm}{e l r:Ex}{a:Int}{T:jo}{c:Co}
theorem VA{d d':Dn}(h:d.give=d'.give)(o into:Int):c.one o into d=c.one o into d':=by unfold Co.one;rw[h]
theorem Xf{d d' q q':Dn}(h:d.give=d'.give)(k:q.give=q'.give)(o into:Int):c.two o into d q=c.two o into d' q':=by unfold Co.two;rw[h,k]
theorem acS{T' T1:jo}{k kk kind:Int}{mk:List jm->List jm}{f:oM}{g:oM}{W:jk}(hT:lU T')(ho:yL T')(h1:lo<=b)(h2:b<hi)(hH:hi<=H)(hk:mJ g kk w1 lo b H w1.heap.size v)(hs:w1.heap.size<=W.heap.size)(hf:f.tag=0)
 (hag:∀j,j<w1.heap.size->j≠b->W.heap[j]? =w1.heap[j]?)(hb:W.heap[b]? =some (.cells (Im a::Im k::Im kind::mk [v]).toArray T1))
 (hg:∀e':Ex,kC e'->e'.does.give=g.give->e'.jw<=kk->kC (uZ T' T1 a k kind (og (e'.here e'.at')) mk {give:=f.give}))(hb1:b<w1.heap.size):mJ f k W lo hi H W.heap.size (.iface T' (Pt b 0)):=by
 obtain⟨e',T2,b2,_,_,_,rfl,q1,q2,q3,q4,q5,_,q6⟩:=hk;refine⟨_,T',b,rF,0,0,rfl,hT,jf ⟨h1,h2⟩,hg e' q3 q4 q5,rfl,aV _,λh=>jl (hf.symm.trans h) (by decide),λw' ha=>⟨?_,Ia hf ho⟩⟩;have hw:qm w1 w' lo b H w1.heap.size:=λj hj=>(ha j (by omega)).trans (hag j (by omega) (by omega));exact⟨b,_,rfl,h1,by omega,⟨_,rfl,(q3.ok.law _).wide _ _ _ _ _ _ (q6 w' hw).1 (aj _) hs⟩,(ha b (jf ⟨h1,h2⟩)).trans hb⟩
theorem qZ{j:Nat}{u:jm}(k:Nat)(hk:k≠b):(w.setCell (Ad b j) u).heap[k]? =w.heap[k]? :=bC _ _ _ _ hk
theorem amj(he:nR e)(a0:Int):nR (yZ a0 e):=by
 have ec:=he.l7.ok.jw;refine⟨acA he.l7 a0,?_⟩;rintro a w lo hi T b ⟨b',us,hv,h1,h2,⟨u,rfl,hu⟩,hb⟩ hH;cases hv;obtain⟨T1,b1,rfl,hT1,l1,l2,_⟩:=he.l7.ok.head _ _ _ _ _ hu;obtain⟨f1,m1,kM,H1⟩:=he.fold _ _ _ _ _ _ hu (by omega);have kM:∀args w,(callFunc f1 args).run prog w=.ok (.enter f1 args) w:=kM;have c3:=jK 3 hb rfl;have H1:=jA H1;have HB:=jA hb;have hbw:b<w.heap.size:=by omega
 refine⟨382,λw=>by kernel_rfl,λargs w=>by kernel_rfl,?_⟩;clear hu hb;go_enter func382,ntmps382;go_wp2_with fail;refine H1.out.mono ?_;rintro en w1 ⟨v',rfl,hF,hK⟩;have hb1:=(hK.keep b hbw (je (aj _))).trans HB.out;have d3:=jK 3 hb1 rfl;have fz:=qV hb1;obtain⟨T2,b2,hv2⟩:∃T2 b2,v'=.iface T2 (Pt b2 0):=by
  obtain⟨_,T2,b2,_,_,_,e1,_⟩:=hF;exact⟨T2,b2,e1⟩
 subst hv2;have HE:Hid (mJ (yZ a0 e).does.fd (yZ a0 e).jw (w1.setCell (Ad b 3) (.iface T2 (Pt b2 0))) lo hi w.heap.size (w1.setCell (Ad b 3) (.iface T2 (Pt b2 0))).heap.size (.iface 395 (Pt b 0))/\Fk w (w1.setCell (Ad b 3) (.iface T2 (Pt b2 0))) lo hi):=by
  have s1:=hK.size;have g:=nK w1 b 3 (.iface T2 (Pt b2 0));refine⟨?_,(hK.wide (aj _) (by omega)).trans (Fk.set h1 h2)⟩;refine acS (k:=jR [e.jw]) (mk:=λus=>us) (by simp[lU]) (by unfold yL;decide) h1 h2 hH hF g.size rfl (λj _ hj=>qZ j hj) (aK _ _ _ _ _ _ hb1) ?_ (by omega);intro e' g1 g2 g3;exact acz g1 a _ (qj ec) (λhk=>by rw[yG ec.1 ec.2 hk];omega) _ λc into=>VA g2.symm 27 into
 clear hF hK hb1 H1;go_wp2_with fail;go_ret;exact⟨_,rfl,HE.out⟩
theorem apL(he:nR e)(a0 kind owner:Int)(t:Wd):nR (vY a0 kind owner e t):=by
 obtain⟨tt,ta⟩:=t;have ec:=he.l7.ok.jw;refine⟨aeO he.l7 a0 kind owner _,?_⟩;rintro a w lo hi T b ⟨b',us,hv,h1,h2,⟨u,rfl,hu⟩,hb⟩ hH;cases hv;obtain⟨T1,b1,rfl,hT1,l1,l2,_⟩:=he.l7.ok.head _ _ _ _ _ hu;obtain⟨f1,m1,kM,H1⟩:=he.fold _ _ _ _ _ _ hu (by omega);have kM:∀args w,(callFunc f1 args).run prog w=.ok (.enter f1 args) w:=kM;have c4:=jK 4 hb rfl;have H1:=jA H1;have HB:=jA hb;have hbw:b<w.heap.size:=by omega
 refine⟨369,λw=>by kernel_rfl,λargs w=>by kernel_rfl,?_⟩;clear hu hb;go_enter func369,ntmps369;go_wp2_with fail;refine H1.out.mono ?_;rintro en w1 ⟨v',rfl,hF,hK⟩;have hb1:=(hK.keep b hbw (je (aj _))).trans HB.out;have d4:=jK 4 hb1 rfl;have fz:=qV hb1;obtain⟨T2,b2,hv2⟩:∃T2 b2,v'=.iface T2 (Pt b2 0):=by
  obtain⟨_,T2,b2,_,_,_,e1,_⟩:=hF;exact⟨T2,b2,e1⟩
 subst hv2;have HE:Hid (mJ (vY a0 kind owner e ⟨tt,ta⟩).does.fd (vY a0 kind owner e ⟨tt,ta⟩).jw (w1.setCell (Ad b 4) (.iface T2 (Pt b2 0))) lo hi w.heap.size (w1.setCell (Ad b 4) (.iface T2 (Pt b2 0))).heap.size (.iface 383 (Pt b 0))/\Fk w (w1.setCell (Ad b 4) (.iface T2 (Pt b2 0))) lo hi):=by
  have s1:=hK.size;have g:=nK w1 b 4 (.iface T2 (Pt b2 0));refine⟨?_,(hK.wide (aj _) (by omega)).trans (Fk.set h1 h2)⟩;refine acS (k:=jR [e.jw]) (mk:=λus=>Im owner::us++[.string tt,Im ta]) (by simp[lU]) (by unfold yL;decide) h1 h2 hH hF g.size rfl (λj _ hj=>qZ j hj) (aK _ _ _ _ _ _ hb1) ?_ (by omega);intro e' g1 g2 g3;exact aeM g1 a kind owner ⟨tt,ta⟩ _ (qj ec) (λhk=>by rw[yG ec.1 ec.2 hk];omega) _ λc into=>VA g2.symm _ into
 clear hF hK hb1 H1;go_wp2_with fail;go_ret;exact⟨_,rfl,HE.out⟩
theorem acD(W:jk)(v:jm)(xT:jo):(Instr.typeAssert (.iface 405 v) xT 405 true).run prog W=.ok (.tuple #[v,.bool true]) W:=by kernel_rfl
theorem JJ(W:jk)(u:jo)(v:jm)(xT:jo)(h:u≠405):(Instr.typeAssert (.iface u v) xT 405 true).run prog W=.ok (.tuple #[.pointer none,.bool false]) W:=by
 have z:(do pure (Value.tuple #[<-zeroValue 405,.bool false]):Sem jm).run prog W=.ok (.tuple #[.pointer none,.bool false]) W:=by kernel_rfl
 have e:(Instr.typeAssert (.iface u v) xT 405 true).run prog W=(if u=405 then (pure (Value.tuple #[v,.bool true]):Sem jm)else (do pure (Value.tuple #[<-zeroValue 405,.bool false]))).run prog W:=by kernel_rfl
 rw[e,jg h];exact z
theorem UJ(W:jk)(v:jm)(xT:jo):(Instr.typeAssert (.iface 392 v) xT 392 true).run prog W=.ok (.tuple #[v,.bool true]) W:=by kernel_rfl
theorem Nr(W:jk)(u:jo)(v:jm)(xT:jo)(h:u≠392):(Instr.typeAssert (.iface u v) xT 392 true).run prog W=.ok (.tuple #[.pointer none,.bool false]) W:=by
 have z:(do pure (Value.tuple #[<-zeroValue 392,.bool false]):Sem jm).run prog W=.ok (.tuple #[.pointer none,.bool false]) W:=by kernel_rfl
 have e:(Instr.typeAssert (.iface u v) xT 392 true).run prog W=(if u=392 then (pure (Value.tuple #[v,.bool true]):Sem jm)else (do pure (Value.tuple #[<-zeroValue 392,.bool false]))).run prog W:=by kernel_rfl
 rw[e,jg h];exact z
theorem amv(W:jk)(v:jm)(xT:jo):(Instr.typeAssert (.iface 379 v) xT 379 true).run prog W=.ok (.tuple #[v,.bool true]) W:=by kernel_rfl
theorem aot(W:jk)(u:jo)(v:jm)(xT:jo)(h:u≠379):(Instr.typeAssert (.iface u v) xT 379 true).run prog W=.ok (.tuple #[.pointer none,.bool false]) W:=by
 have z:(do pure (Value.tuple #[<-zeroValue 379,.bool false]):Sem jm).run prog W=.ok (.tuple #[.pointer none,.bool false]) W:=by kernel_rfl
 have e:(Instr.typeAssert (.iface u v) xT 379 true).run prog W=(if u=379 then (pure (Value.tuple #[v,.bool true]):Sem jm)else (do pure (Value.tuple #[<-zeroValue 379,.bool false]))).run prog W:=by kernel_rfl
 rw[e,jg h];exact z
theorem YR{f:oM}{k:Int}{x:Ex}{T2:jo}{b2:Nat}(h:BH f k w lo hi T b x T2 b2):Calls prog 340 #[.iface T (Pt b 0)] w λe w'=>e=.returned (.tuple #[Im (if f.known then f.val else 0),.bool f.known])/\w'=w:=by
 have other:yL T->f.known=false->Calls prog 340 #[.iface T (Pt b 0)] w λe w'=>e=.returned (.tuple #[Im (if f.known then f.val else 0),.bool f.known])/\w'=w:=λho hk=>by
  obtain⟨t1,t2,t3⟩:=ho;have k1:=λW v=>JJ W T v 319 t1;have k2:=λW v=>Nr W T v 319 t2;rw[hk];clear h;go_enter func340,ntmps340;go_wp2_with fail;go_ret2;exact⟨rfl,rfl⟩
 rcases h with⟨e1,rfl,e2⟩|⟨e1,rfl,t,e2,e3⟩|⟨e1,rfl,_⟩|⟨e1,ho⟩
 .have hk:f.known=true:=by simp[Hx.oM.known,e1]
  rw[hk];have k1:=λW v=>acD W v 319;clear other;go_enter func340,ntmps340;go_wp2_with fail;go_ret2;exact⟨rfl,rfl⟩
 .have hk:f.known=true:=by simp[Hx.oM.known,e1]
  rw[hk,e3];have HT:Hid (∀x,Calls prog 152 #[.bool t] x λe w'=>e=.returned (Im (if t then 1 else 0))/\w'=x):=λx=>Ko t x;have k1:=λW v=>JJ W 392 v 319 (by decide);have k2:=λW v=>UJ W v 319;clear other e3;simp only[dM];generalize (if t then (1:Int)else 0)=n at *;go_enter func340,ntmps340;go_wp2_with fail;refine(HT.out _).mono ?_;rintro e w2 ⟨rfl,rfl⟩;go_wp2_with fail;go_ret2;exact⟨rfl,rfl⟩
 .have hk:f.known=false:=by simp[Hx.oM.known,e1]
  rw[hk];have k1:=λW v=>JJ W 379 v 319 (by decide);have k2:=λW v=>Nr W 379 v 319 (by decide);clear other;go_enter func340,ntmps340;go_wp2_with fail;go_ret2;exact⟨rfl,rfl⟩
 .exact other ho (by simp[Hx.oM.known,e1])
theorem UH{f:oM}{k:Int}{x:Ex}{T2:jo}{b2:Nat}(h:BH f k w lo hi T b x T2 b2)(want:Bool):Calls prog 342 #[.iface T (Pt b 0),.bool want] w λe w'=>e=.returned (.bool (f.lq want))/\w'=w:=by
 have other:T≠392->f.tag≠2->Calls prog 342 #[.iface T (Pt b 0),.bool want] w λe w'=>e=.returned (.bool (f.lq want))/\w'=w:=λht hk=>by
  have hk:f.lq want=false:=by simp[Hx.oM.lq,hk]
  rw[hk];have k2:=λW v=>Nr W T v 319 ht;clear h;go_enter func342,ntmps342;go_wp2_with fail;go_ret;exact⟨rfl,rfl⟩
 rcases h with⟨e1,rfl,e2⟩|⟨e1,rfl,t,e2,e3⟩|⟨e1,rfl,_⟩|⟨e1,ho⟩
 .exact other (by decide) (by rw[e1];decide)
 .have k2:=λW v=>UJ W v 319;have hk:f.lq want=(t==want):=by
   unfold Hx.oM.lq;rw[e1,e3];cases t<;>cases want<;>rfl
  rw[hk];clear other hk e3;cases t<;>cases want;all_goals
   go_enter func342,ntmps342;go_wp2_with fail;go_ret;exact⟨rfl,rfl⟩
 .exact other (by decide) (by rw[e1];decide)
 .exact other ho.2.1 (by rw[e1];decide)
theorem amW{a0 jw is:Int}(hc:0<=jw/\jw<=1000001)(h1:lo<=H)(h2:H<=b)(h3:b<hi)(hb:w.heap[b]? =some (.cells #[Im a0,Im jw,Im 2,.bool (is !=0)] 394)):mJ (sF 2 is) jw w lo m H hi (.iface 392 (Pt b 0)):=by
 have hl:sF 2 is={tag:=2,val:=if is=0 then 0 else 1,give:=Gm (decide (is≠0))}:=jh rfl;have ht:(is !=0)=decide (is≠0):=by by_cases h:is=0<;>simp[h]
 rw[hl];refine⟨uZ 392 394 a0 jw 2 y9 (λ_=>[.bool (decide (is≠0))]) {give:=Gm (decide (is≠0))},_,b,rF,0,0,rfl,by simp[lU],je ⟨h2,h3⟩,agJ a0 jw 2 _ hc _ rfl,rfl,aV _,λh=>jl h (by show¬(2:Int)=3;decide),λw' ha=>?_⟩;have hb':=(ha b (je ⟨h2,h3⟩)).trans hb;rw[ht]at hb';refine⟨⟨b,[],rfl,by omega,h3,rfl,hb'⟩,je (jf ⟨rfl,rfl,decide (is≠0),jI hb',?_⟩)⟩;by_cases h:is=0<;>simp[h]
theorem amV{a0 jw kind is:Int}(hk:kind≠2)(hc:0<=jw/\jw<=1000001)(h1:lo<=H)(h2:H<=b)(h3:b<hi)(hb:w.heap[b]? =some (.cells #[Im a0,Im jw,Im kind,Im is] 407)):mJ (sF kind is) jw w lo m H hi (.iface 405 (Pt b 0)):=by
 have hl:sF kind is={tag:=1,val:=is,give:=wO is}:=jg hk;rw[hl];refine⟨uZ 405 407 a0 jw kind y9 (λ_=>[Im is]) {give:=wO is},_,b,rF,0,0,rfl,by simp[lU],je ⟨h2,h3⟩,adT a0 is jw kind hc _ rfl,rfl,aV _,λh=>jl h (by show¬(1:Int)=3;decide),λw' ha=>?_⟩;have hb':=(ha b (je ⟨h2,h3⟩)).trans hb;exact⟨⟨b,[],rfl,by omega,h3,rfl,hb'⟩,jf ⟨rfl,rfl,jI hb'⟩⟩
theorem ac5(w:jk)(a0 jw kind is:Int)(hc:0<=jw/\jw<=1000001){lo m H:Nat}(h1:lo<=H)(hH:H<=w.heap.size):Calls prog 359 #[.agg #[Im a0,Im jw,Im kind],Im is] w λe w'=>∃v,e=.returned v/\mJ (sF kind is) jw w' lo m H w'.heap.size v/\w.grownBy w' none:=by
 have HN:Hid (∀o1 o2,w.grownBy ((w.alloc o1).alloc o2) none/\((w.alloc o1).alloc o2).heap[w.heap.size+1]? =some o2/\w.heap.size+1<((w.alloc o1).alloc o2).heap.size):=λo1 o2=>by
  refine⟨(ah w o1 none).trans (ah _ o2 none),?_,by rw[nX,nX];omega⟩;have:=aY (w.alloc o1) o2;rw[nX]at this;exact this
 by_cases hk:kind=2
 .subst hk;go_enter func359,ntmps359;go_wp2_with fail;go_ret;obtain⟨n1,n2,n3⟩:=HN.out (.cells #[Im a0,Im jw,Im 2] 373) (.cells #[Im a0,Im jw,Im 2,.bool (is !=0)] 394);exact⟨_,rfl,amW hc h1 (by omega) n3 n2,n1⟩
 .have hk2:(kind==2)=false:=by simpa using hk
  have HK:=jA hk;clear hk;go_enter func359,ntmps359;go_wp2_with fail;go_ret;obtain⟨n1,n2,n3⟩:=HN.out (.cells #[Im a0,Im jw,Im kind] 373) (.cells #[Im a0,Im jw,Im kind,Im is] 407);exact⟨_,rfl,amV HK.out hc h1 (by omega) n3 n2,n1⟩
theorem aex{k:Int}(h:0<=k/\k<=1000001):k<=jR [k]:=by
 unfold jR lu;simp only[bP,eF];omega
theorem ad6(he:nR e)(a0 kind:Int)(sign:ji):nR (oV a0 kind sign e):=by
 have ec:=he.l7.ok.jw;have kc:=qj ec;refine⟨Vy he.l7 a0 kind sign,?_⟩;rintro a w lo hi T b ⟨b',us,hv,h1,h2,⟨u,rfl,hu⟩,hb⟩ hH;cases hv;obtain⟨T1,b1,rfl,hT1,l1,l2,_⟩:=he.l7.ok.head _ _ _ _ _ hu;obtain⟨f1,m1,kM,H1⟩:=he.fold _ _ _ _ _ _ hu (by omega);have kM:∀args w,(callFunc f1 args).run prog w=.ok (.enter f1 args) w:=kM;have c4:=jK 4 hb rfl;have H1:=jA H1;have HB:=jA hb;have hbw:b<w.heap.size:=by omega
 show∃f,_/\_/\Calls prog f #[Pt b 0] w λen w'=>∃v',en=.returned v'/\mJ (ug kind sign e.does.fd) (jR [e.jw]) w' lo hi w.heap.size w'.heap.size v'/\Fk w w' lo hi;refine⟨365,λw=>by kernel_rfl,λargs w=>by kernel_rfl,?_⟩;clear hu hb;go_enter func365,ntmps365;go_wp2_with fail;refine H1.out.mono ?_;rintro en w1 ⟨v',rfl,hF,hK⟩;have hb1:=(hK.keep b hbw (je (aj _))).trans HB.out;have d4:=jK 4 hb1 rfl;have fz:=qV hb1;obtain⟨e',T2,b2,x2,T3,b3,rfl,q1,q2,q3,q4,q5,q8,q6⟩:=hF;have hs1:=hK.size;have gs:=nK w1 b 4 (.iface T2 (Pt b2 0));have hsz:(w1.setCell (Ad b 4) (.iface T2 (Pt b2 0))).heap.size=w1.heap.size:=by simp[World.setCell]
 have hag:∀j,j≠b->(w1.setCell (Ad b 4) (.iface T2 (Pt b2 0))).heap[j]? =w1.heap[j]? :=λj hj=>qZ j hj;have hbW:(w1.setCell (Ad b 4) (.iface T2 (Pt b2 0))).heap[b]? =some (.cells #[Im a,Im (jR [e.jw]),Im kind,.string sign,.iface T2 (Pt b2 0)] 381):=aK _ _ _ _ _ _ hb1;have hKW:Fk w (w1.setCell (Ad b 4) (.iface T2 (Pt b2 0))) lo hi:=(hK.wide (aj _) (by omega)).trans (Fk.set h1 h2);go_upto_region 2 with fail;obtain⟨W,hW⟩:∃W,w1.setCell (Ad b 4) (.iface T2 (Pt b2 0))=W:=⟨_,rfl⟩;rw[hW]at hsz hag hbW hKW⊢;clear hW gs hb1 HB hK H1 fz d4;have hA:qm w1 W lo b w.heap.size w1.heap.size:=λj hj=>hag j (by omega);obtain⟨hh,hT⟩:=q6 W hA;have y0:=jK 0 hbW rfl;have y1:=jK 1 hbW rfl;have y2:=jK 2 hbW rfl;have y4:=jK 4 hbW rfl;have HL:Hid (∀(n:Nat)(is:Int),Calls prog 359 #[.agg #[Im a,Im (jR [e.jw]),Im kind],Im is] (W.drewN n) λen w'=>∃v',en=.returned v'/\mJ (sF kind is) (jR [e.jw]) w' lo hi w.heap.size w'.heap.size v'/\Fk w w' lo hi):=λn is=>by
  have g:=lK W n;refine(ac5 (W.drewN n) a (jR [e.jw]) kind is kc (lo:=lo) (m:=hi) (H:=w.heap.size) (by omega) (by have:=g.size;omega)).mono ?_;rintro en w' ⟨v',r1,r2,r3⟩;exact⟨v',r1,r2,hKW.trans (Fk.grown (g.trans r3))⟩
 obtain⟨K,hKd⟩:∃K,jR [e.jw]=K:=⟨_,rfl⟩;have N7:=jA hKd;rw[hKd]at y1 HL;rcases hT with⟨t1,rfl,t2⟩|⟨t1,rfl,t,t2,t3⟩|⟨t1,rfl,t2,t3,t4,t5,t6,t7⟩|⟨t1,ho⟩
 .
  have Hf:Hid (ug kind sign e.does.fd=sF kind (wrap64 (-e.does.fd.val))):=by
   show _=_;unfold ug;rw[jh t1]
  have k1:=λW v=>acD W v 319;clear hh q6 q8 hag hbW hKW hA;go_wp2_with fail;refine nP 9 (by kernel_rfl) (by kernel_rfl) ?_;simp only[aC,aO,aG,aQ];repeat (go_big_quiet_step (fail))
  refine bF ?_;intro _ hw';obtain⟨k3,hw''⟩:=hw';subst hw'';go_wp2_with fail;refine(HL.out _ _).mono ?_;rintro en w2 ⟨v',hv',p1,p2⟩;obtain⟨T5,b5,hv5⟩:∃T5 b5,v'=.iface T5 (Pt b5 0):=by
   obtain⟨_,T5,b5,_,_,_,r,_⟩:=p1;exact⟨T5,b5,r⟩
  subst hv' hv5;have HE:=jA (jd p1 p2);clear p1 p2 HL;go_wp2_with fail;go_ret;refine⟨_,rfl,?_,HE.out.2⟩;rw[Hf.out,N7.out];exact HE.out.1
 .
  have Hf:Hid (ug kind sign e.does.fd=sF kind (if (!t)=true then 1 else 0)):=by
   unfold ug;rw[jg (by rw[t1];decide),jh t1,t3];cases t<;>rfl
  have k1:=λW v=>JJ W 392 v 319 (by decide);have k2:=λW v=>UJ W v 319;have HT:Hid (∀x,Calls prog 152 #[.bool (!t)] x λe w'=>e=.returned (Im (if (!t)=true then 1 else 0))/\w'=x):=λx=>Ko (!t) x;clear hh q6 q8 hag hbW hKW hA t3;generalize (if (!t)=true then (1:Int)else 0)=n0 at *;go_wp2_with fail;refine nP 10 (by kernel_rfl) (by kernel_rfl) ?_;simp only[aC,aO,aG,aQ];repeat (go_big_quiet_step ((go_at_call 152;exact dN (HT.out _))))
  refine bF ?_;intro _ hw';obtain⟨k3,hw''⟩:=hw';subst hw'';go_wp2_with fail;refine(HL.out _ _).mono ?_;rintro en w2 ⟨v',hv',p1,p2⟩;obtain⟨T5,b5,hv5⟩:∃T5 b5,v'=.iface T5 (Pt b5 0):=by
   obtain⟨_,T5,b5,_,_,_,r,_⟩:=p1;exact⟨T5,b5,r⟩
  subst hv' hv5;have HE:=jA (jd p1 p2);clear p1 p2 HL;go_wp2_with fail;go_ret;refine⟨_,rfl,?_,HE.out.2⟩;rw[Hf.out,N7.out];exact HE.out.1
 .
  have HE:Hid (mJ (ug kind sign e.does.fd) (jR [e.jw]) W lo hi w.heap.size W.heap.size (.iface T3 (Pt b3 0))/\Fk w W lo hi):=by
   refine⟨?_,hKW⟩;have hf:ug kind sign e.does.fd={give:=e.does.fd.sub}:=by
    unfold ug;rw[jg (by rw[t1];decide),jg (by rw[t1];decide),jh t1]
   rw[hf];obtain⟨g1,g2⟩:=q8 t1;refine⟨x2,T3,b3,rF,0,0,rfl,g1,by omega,t4,t5,?_,λh=>jl h (by show¬(0:Int)=3;decide),λw' ha=>⟨?_,Ia rfl t3⟩⟩
   .have:=aex ec;omega
   .have hw:qm w1 w' lo b w.heap.size w1.heap.size:=λj hj=>(ha j (by omega)).trans (hag j (by omega));obtain⟨_,hT'⟩:=q6 w' hw;rcases hT' with⟨z1,_⟩|⟨z1,_⟩|⟨_,_,_,_,_,_,_,z7⟩|⟨z1,_⟩
    .rw[t1]at z1;cases z1
    .rw[t1]at z1;cases z1
    .exact(t4.ok.law _).wide _ _ _ _ _ _ z7 (aj _) (by omega)
    .rw[t1]at z1;cases z1
  have k1:=λW v=>JJ W 379 v 319 (by decide);have k2:=λW v=>Nr W 379 v 319 (by decide);have k3:=λW v=>amv W v 319;clear hh q6 q8 hag hbW hKW hA HL t4 t5 t6 t7 q3 q4 q5;go_wp2_with fail;go_ret;exact⟨_,rfl,HE.out⟩
 .
  have HE:Hid (mJ (ug kind sign e.does.fd) (jR [e.jw]) W lo hi w.heap.size W.heap.size (.iface 379 (Pt b 0))/\Fk w W lo hi):=by
   refine⟨?_,hKW⟩;have hf:ug kind sign e.does.fd={tag:=3,give:=λc into=>c.one (if sign.data.toList==[45]then 8 else 9) into e.does.fd.dn,sub:=e.does.fd.give}:=by
    unfold ug;rw[jg (by rw[t1];decide),jg (by rw[t1];decide),jg (by rw[t1];decide)]
   rw[hf];have hge:=aex ec;have hgv:kC (uZ 379 381 a (jR [e.jw]) kind (og (e'.here e'.at')) (λus=>.string sign::us) {give:=λc into=>c.one (if sign.data.toList==[45]then 8 else 9) into e.does.fd.dn}):=ad5 q3 a kind sign _ kc (λhk=>by rw[yG ec.1 ec.2 hk];omega) _ λc into=>VA q4.symm _ into;refine⟨_,379,b,e',T2,b2,rfl,by simp[lU],jf ⟨h1,h2⟩,hgv,rfl,aV _,λ_=>⟨q1,by omega⟩,λw' ha=>?_⟩;have hw:qm w1 w' lo b w.heap.size w1.heap.size:=λj hj=>(ha j (by omega)).trans (hag j (by omega));have abQ:=(q3.ok.law _).wide _ _ _ _ _ _ (q6 w' hw).1 (aj _) (by omega:w1.heap.size<=W.heap.size);have hb':=(ha b (jf ⟨h1,h2⟩)).trans hbW;exact⟨⟨b,_,rfl,h1,by omega,⟨_,rfl,abQ⟩,hb'⟩,je (je (jf ⟨rfl,rfl,jI hb',ho,q3,q4,by omega,abQ⟩))⟩
  obtain⟨o1,o2,o3⟩:=ho;have k1:=λW v=>JJ W T2 v 319 o1;have k2:=λW v=>Nr W T2 v 319 o2;have k3:=λW v=>aot W T2 v 319 o3;clear hh q6 q8 hag hbW hKW hA HL q3 q4 q5;go_wp2_with fail;go_ret;exact⟨_,rfl,HE.out⟩
end
end
section
abbrev aJ:=@Go.AllReadyH.nil
abbrev aP:=@Go.wpAnyH_ready
end
section
open Go.RowKit Hx
attribute [local go_sem ↓] Go.wp_at_zero Go.wp_at_succ
attribute [local go_sem] kP
attribute [local simp] aN
section
variable {w w' w1 w2 w3:jk}{lo hi m b H:Nat}{u v:jm}{e l r:Ex}{a:Int}{T:jo}{c:Co}
structure Kv(f g:oM)(k k':Int)(w:jk)(lo m b:Nat)(u v:jm)(w2:jk):Prop where
 ex:∃w1:jk,mJ f k w2 lo m w.heap.size w1.heap.size u/\mJ g k' w2 m b w1.heap.size w2.heap.size v/\w.heap.size<=w1.heap.size/\w1.heap.size<=w2.heap.size
 fk:Fk w w2 lo b
theorem Kv.mk'{f g:oM}{k k':Int}(h1:mJ f k w1 lo m w.heap.size w1.heap.size u)(f1:Fk w w1 lo m)(h2:mJ g k' w2 m b w1.heap.size w2.heap.size v)(f2:Fk w1 w2 m b)(hm:lo<=m)(hb:m<=b)(hw:b<=w.heap.size):Kv f g k k' w lo m b u v w2:=by
 have s1:=f1.size;refine⟨⟨w1,h1.later λj hj=>f2.keep j (by omega) (by omega),h2,f1.size,f2.size⟩,(f1.wide (aj _) hb).trans (f2.wide hm (aj _))⟩
theorem mJ.form{f:oM}{k:Int}(h:mJ f k w lo m H hi v):∃T b,v=.iface T (Pt b 0):=by
 obtain⟨_,T,b,_,_,_,h,_⟩:=h;exact⟨T,b,h⟩
theorem acU{T' T1:jo}{k kl kr kind:Int}{mk:List jm->List jm}{f g g':oM}{W:jk}(hT:lU T')(ho:yL T')(h1:lo<=b)(h2:b<hi)(hH:hi<=w.heap.size)(hm1:lo<=m)(hm2:m<=b)(hB:Kv g g' kl kr w lo m b u v w2)(hs:w2.heap.size<=W.heap.size)(hf:f.tag=0)
 (hag:∀j,j≠b->W.heap[j]? =w2.heap[j]?)(hb:W.heap[b]? =some (.cells (Im a::Im k::Im kind::mk [u,v]).toArray T1))
 (hg:∀e1 e2:Ex,kC e1->e1.does.give=g.give->e1.jw<=kl->kC e2->e2.does.give=g'.give->e2.jw<=kr->kC (uZ T' T1 a k kind (AP (e1.here e1.at') (e2.here e2.at')) mk {give:=f.give})):mJ f k W lo hi w.heap.size W.heap.size (.iface T' (Pt b 0)):=by
 obtain⟨w1,hu,hv,s1,s2⟩:=hB.ex;obtain⟨e1,_,_,_,_,_,rfl,_,_,q3,q4,q5,_,q6⟩:=hu;obtain⟨e2,_,_,_,_,_,rfl,_,_,r3,r4,r5,_,r6⟩:=hv;refine⟨_,T',b,rF,0,0,rfl,hT,jf ⟨h1,h2⟩,hg e1 e2 q3 q4 q5 r3 r4 r5,rfl,aV _,λh=>jl (hf.symm.trans h) (by decide),λw' ha=>⟨?_,Ia hf ho⟩⟩;have a1:qm w2 w' lo m w.heap.size w1.heap.size:=λj hj=>(ha j (by omega)).trans (hag j (by omega));have a2:qm w2 w' m b w1.heap.size w2.heap.size:=λj hj=>(ha j (by omega)).trans (hag j (by omega));exact⟨b,_,rfl,h1,by omega,⟨_,_,rfl,(q3.ok.law _).wide _ _ _ _ _ _ (q6 w' a1).1 (aj _) (by omega),(r3.ok.law _).wide _ _ _ _ _ _ (r6 w' a2).1 hm1 hs⟩,(ha b (jf ⟨h1,h2⟩)).trans hb⟩
theorem aoH(hl:nR l)(hr:nR r)(a0:Int):nR (x9 a0 l r):=by
 have lc:=hl.l7.ok.jw;have rc:=hr.l7.ok.jw;refine⟨ad1 hl.l7 hr.l7 a0,?_⟩;rintro a w lo hi T b ⟨b',us,hv,h1,h2,⟨m,u,v,rfl,hm1,hm2,hu,hv2⟩,hb⟩ hH;cases hv;obtain⟨T1,b1,rfl,hT1,l1,l2,_⟩:=hl.l7.ok.head _ _ _ _ _ hu;obtain⟨T2,b2,rfl,hT2,l3,l4,_⟩:=hr.l7.ok.head _ _ _ _ _ hv2;obtain⟨f1,m1,kM,_⟩:=hl.fold _ _ _ _ _ _ hu (by omega);obtain⟨f2,m2,qp,_⟩:=hr.fold _ _ _ _ _ _ hv2 (by omega);have DW:Hid (∀y,w.drew.grownBy y none->Calls prog f1 #[Pt b1 0] y λen w1=>∃T3 b3,en=.returned (.iface T3 (Pt b3 0))/\Hid (mJ l.does.fd l.jw w1 lo m w.heap.size w1.heap.size (.iface T3 (Pt b3 0))/\Fk w w1 lo m)):=λy hy=>by
  have g0:w.grownBy y none:=(Dj (aN w none)).trans hy;have sy:=g0.size;obtain⟨f,m',_,HC⟩:=hl.fold _ y _ _ _ _ ((hl.l7.ok.law _).loc _ _ _ _ _ hu λk _ k2=>g0.block k (by omega) (by simp)) (by omega);obtain rfl:f=f1:=by
   have h:=(m' w).symm.trans (m1 w);simp only[Result.ok.injEq,Prod.mk.injEq,and_true]at h;exact h
  refine HC.mono ?_;rintro en w1 ⟨v',rfl,hF,hK⟩;obtain⟨T3,b3,hv3⟩:=hF.form;subst hv3;exact⟨T3,b3,rfl,hF.wide (aj _) (aj _) sy (aj _) (aV _),(Fk.grown g0).trans hK⟩
 have HF2:Hid (∀w1 y,Fk w w1 lo m->w1.grownBy y none->Calls prog f2 #[Pt b2 0] y λen w2=>∃T4 b4,en=.returned (.iface T4 (Pt b4 0))/\Hid (mJ r.does.fd r.jw w2 m b w1.heap.size w2.heap.size (.iface T4 (Pt b4 0))/\Fk w1 w2 m b)):=λw1 y hk hy=>by
  have sy:=hy.size;have s1:=hk.size;obtain⟨f,m',_,HC⟩:=hr.fold _ y _ _ _ _ ((hr.l7.ok.law _).loc _ _ _ _ _ hv2 λk k1 k2=>(hy.block k (by omega) (by simp)).trans (hk.keep k (by omega) (by omega))) (by omega);obtain rfl:f=f2:=by
   have h:=(m' w).symm.trans (m2 w);simp only[Result.ok.injEq,Prod.mk.injEq,and_true]at h;exact h
  refine HC.mono ?_;rintro en w2 ⟨v',rfl,hF,hK⟩;obtain⟨T4,b4,hv4⟩:=hF.form;subst hv4;exact⟨T4,b4,rfl,hF.wide (aj _) (aj _) sy (aj _) (aV _),(Fk.grown hy).trans hK⟩
 have kM:∀args w,(callFunc f1 args).run prog w=.ok (.enter f1 args) w:=kM;have qp:∀args w,(callFunc f2 args).run prog w=.ok (.enter f2 args) w:=qp;have c3:w.cell? (Ad b 3)=some (.iface T1 (Pt b1 0)):=jI hb;have c4:w.cell? (Ad b 4)=some (.iface T2 (Pt b2 0)):=jI hb;have HB:=jA hb;have hbw:b<w.heap.size:=by omega
 have HC:Hid (∀w1,Fk w w1 lo m->w1.cell? (Ad b 4)=some (.iface T2 (Pt b2 0))/\w1.cell? (Ad b 3)=some (.iface T1 (Pt b1 0))/\∀j,w1.frozen? (Ad b j)=false):=λw1 hk=>by
  have hb1:=(hk.keep b hbw (by omega)).trans HB.out;exact⟨jI hb1,jI hb1,λj=>oQ hb1⟩
 have HC2:Hid (∀w1 w2,Fk w w1 lo m->Fk w1 w2 m b->w2.cell? (Ad b 4)=some (.iface T2 (Pt b2 0))/\w2.cell? (Ad b 3)=some (.iface T1 (Pt b1 0))/\∀j,w2.frozen? (Ad b j)=false):=λw1 w2 hk hk2=>by
  have s1:=hk.size;have hb1:=(hk2.keep b (by omega) (by omega)).trans ((hk.keep b hbw (by omega)).trans HB.out);exact⟨jI hb1,jI hb1,λj=>oQ hb1⟩
 have HE:Hid (∀(w1 w2:jk)(T3:jo)(b3:Nat)(T4:jo)(b4:Nat),mJ l.does.fd l.jw w1 lo m w.heap.size w1.heap.size (.iface T3 (Pt b3 0))/\Fk w w1 lo m->mJ r.does.fd r.jw w2 m b w1.heap.size w2.heap.size (.iface T4 (Pt b4 0))/\Fk w1 w2 m b->
  mJ (x9 a0 l r).does.fd (x9 a0 l r).jw ((w2.setCell (Ad b 3) (.iface T3 (Pt b3 0))).setCell (Ad b 4) (.iface T4 (Pt b4 0))) lo hi w.heap.size ((w2.setCell (Ad b 3) (.iface T3 (Pt b3 0))).setCell (Ad b 4) (.iface T4 (Pt b4 0))).heap.size (.iface 398 (Pt b 0))/\Fk w ((w2.setCell (Ad b 3) (.iface T3 (Pt b3 0))).setCell (Ad b 4) (.iface T4 (Pt b4 0))) lo hi):=λw1 w2 T3 b3 T4 b4 p1 p2=>by
  have hB:=Kv.mk' p1.1 p1.2 p2.1 p2.2 hm1 hm2 (by omega);have s1:=p1.2.size;have hb2:=(p2.2.keep b (by omega) (by omega)).trans ((p1.2.keep b hbw (by omega)).trans HB.out);have g3:=nK w2 b 3 (.iface T3 (Pt b3 0));have g4:=nK (w2.setCell (Ad b 3) (.iface T3 (Pt b3 0))) b 4 (.iface T4 (Pt b4 0));refine⟨?_,((hB.fk.wide (aj _) (by omega)).trans (Fk.set h1 h2)).trans (Fk.set h1 h2)⟩;refine acU (k:=jR [l.jw,r.jw]) (mk:=λus=>us) (by simp[lU]) (by unfold yL;decide) h1 h2 hH hm1 hm2 hB (dH g3.size g4.size) rfl (λj hj=>(qZ j hj).trans (qZ j hj)) (aK _ _ _ _ _ _ (aK _ _ _ _ _ _ hb2)) ?_;intro e1 e2 q1 q2 q3 r1 r2 r3;exact adZ q1 r1 a _ (rG lc rc) (λhk=>by rw[zU lc.1 lc.2 rc.1 rc.2 hk];omega) _ λc into=>Xf q2.symm r2.symm 35 into
 refine⟨385,λw=>by kernel_rfl,λargs w=>by kernel_rfl,?_⟩;clear hu hv2 hb;go_enter func385,ntmps385;go_upto_region 1 with fail;refine YT (f:=10) (λ_=>True) [0,1,2,3,4,7,8,9] #[true,true,true,true,true,false,false,true,true,true,false,false,false,false,false,false,false,false] (λl=>l.take 5++(l.drop 7).take 3) (by kernel_rfl) (by kernel_rfl) (by kernel_rfl) (by kernel_rfl) (by kernel_rfl) (by kernel_rfl) trivial (λ_=>?_);simp only[aC,aO,aG,aQ,bZ,dP]
 iterate 8
  (refine yO.cons (v:=?_) (by rfl) (λw hSw=>?_) ?_
   rotate_left
   ·(go_simp;first|done|with_reducible rfl)
   simp only[Act.put,ak,au,ay])
 refine yO.nil ?_;refine aP (rs:=[5,10]) (by kernel_rfl) (by simp) (lV rfl (λK hK=>?a1) (lV rfl (λK hK=>?b1) aJ));all_goals
  go_simp;refine hK.out _ _ trivial (λ_=>?_);clear hK K;try simp only[ak,au,ay]
 case' a1=>refine aP (rs:=[6,10]) (by kernel_rfl) (by simp) (lV rfl (λK hK=>?c1) (lV rfl (λK hK=>?d1) aJ))
 case' b1=>
  refine aP (rs:=[5]) (by kernel_rfl) (by simp) (lV rfl (λK hK=>?_) aJ);go_simp;refine hK.out _ _ trivial (λ_=>?_);clear hK K;try simp only[ak,au,ay]
  refine aP (rs:=[6]) (by kernel_rfl) (by simp) (lV rfl (λK hK=>?_) aJ);go_simp
 case' d1=>
  go_simp;refine hK.out _ _ trivial (λ_=>?_);clear hK K;try simp only[ak,au,ay]
  refine aP (rs:=[6]) (by kernel_rfl) (by simp) (lV rfl (λK hK=>?_) aJ);go_simp
 case' c1=>go_simp
 all_goals
  refine(DW.out _ (aN _ _)).mono ?_;rintro en w1 ⟨T3,b3,rfl,P1⟩;obtain⟨z4,z3,zf⟩:=HC.out w1 P1.out.2;go_wp2_with fail;refine hK.out _ _ trivial (λ_=>?_);clear hK K;try simp only[ak,au,ay]
 case' c1=>
  refine aP (rs:=[10]) (by kernel_rfl) (by simp) (lV rfl (λK hK=>?_) aJ);go_simp;refine hK.out _ _ trivial (λ_=>?_);clear hK K;try simp only[ak,au,ay]
 all_goals
  refine aP (rs:=[11]) (by kernel_rfl) (by simp) (lV rfl (λK hK=>?_) aJ);go_simp;refine(HF2.out w1 _ P1.out.2 (aN _ _)).mono ?_;rintro en w2 ⟨T4,b4,rfl,P2⟩;obtain⟨y4,y3,yf⟩:=HC2.out w1 w2 P1.out.2 P2.out.2;go_wp2_with fail;refine hK.out _ _ trivial (λ_=>?_);clear hK K;try simp only[ak,au,ay]
  refine aP (rs:=[12]) (by kernel_rfl) (by simp) (lV rfl (λK hK=>?_) aJ);go_simp;refine hK.out _ _ trivial (λ_=>?_);clear hK K;try simp only[ak,au,ay]
  refine aP (rs:=[13]) (by kernel_rfl) (by simp) (lV rfl (λK hK=>?_) aJ);go_simp;refine hK.out _ _ trivial (λ_=>?_);clear hK K;try simp only[ak,au,ay]
  refine aP (rs:=[14]) (by kernel_rfl) (by simp) (lV rfl (λK hK=>?_) aJ);go_simp;refine hK.out _ _ trivial (λ_=>?_);clear hK K;try simp only[ak,au,ay]
  refine aP (rs:=[15]) (by kernel_rfl) (by simp) (lV rfl (λK hK=>?_) aJ);go_simp;refine hK.out _ _ trivial (λ_=>?_);clear hK K;try simp only[ak,au,ay]
  refine aP (rs:=[16]) (by kernel_rfl) (by simp) (lV rfl (λK hK=>?_) aJ);go_simp;refine hK.out _ _ trivial (λ_=>?_);clear hK K;try simp only[ak,au,ay]
  refine aP (rs:=[17]) (by kernel_rfl) (by simp) (lV rfl (λK hK=>?_) aJ);go_simp;refine hK.out _ _ trivial (λ_=>?_);clear hK K;try simp only[ak,au,ay]
  refine wpAnyH_done (by kernel_rfl) ?_ _;refine NoPanic.normal ?_;go_wp2_with fail;go_ret;exact⟨_,rfl,HE.out w1 w2 T3 b3 T4 b4 P1.out P2.out⟩
end
end
section
open Go.RowKit Hx
attribute [local go_sem ↓] Go.wp_at_zero Go.wp_at_succ
attribute [local go_sem] kP
section
variable {w w' w1 w2 w3:jk}{lo hi m b H:Nat}{u v:jm}{e l r:Ex}{a:Int}{T:jo}{c:Co}
theorem amw{f g:oM}{T3 T4:jo}{b3 b4:Nat}(c4:w.cell? (Ad b 4)=some (.iface T3 (Pt b3 0)))(c5:w.cell? (Ad b 5)=some (.iface T4 (Pt b4 0)))
 (HL:Hid (∀want:Bool,Calls prog 342 #[.iface T3 (Pt b3 0),.bool want] w λe w'=>e=.returned (.bool (f.lq want))/\w'=w))(HR:Hid (∀want:Bool,Calls prog 342 #[.iface T4 (Pt b4 0),.bool want] w λe w'=>e=.returned (.bool (g.lq want))/\w'=w))(strong:Bool):
 Calls prog 360 #[Pt b 0,.bool strong] w λe w'=>e=.returned (if f.lq strong||g.lq (!strong)then .iface T3 (Pt b3 0)else if g.lq strong||f.lq (!strong)then .iface T4 (Pt b4 0)else .iface 374 (Pt b 0))/\w'=w:=by
 cases h1:f.lq strong
 .cases h2:g.lq (!strong)
  .cases h3:g.lq strong
   .cases h4:f.lq (!strong);all_goals
     have HA:=jA (HL.out strong);have HB:=jA (HR.out (!strong));have HC:=jA (HR.out strong);have HD:=jA (HL.out (!strong));rw[h1]at HA;rw[h2]at HB;rw[h3]at HC;rw[h4]at HD;clear HL HR h1 h2 h3 h4;simp only[iQ,iE,aH,cZ,dM];go_enter func360,ntmps360;go_wp2_with fail;refine HA.out.mono ?_;rintro e w' ⟨rfl,rfl⟩;go_wp2_with fail;refine HB.out.mono ?_;rintro e w' ⟨rfl,rfl⟩;go_wp2_with fail;refine HC.out.mono ?_;rintro e w' ⟨rfl,rfl⟩;go_wp2_with fail;refine HD.out.mono ?_;rintro e w' ⟨rfl,rfl⟩;go_wp2_with fail;go_ret;exact⟨rfl,rfl⟩
   .have HA:=jA (HL.out strong);have HB:=jA (HR.out (!strong));have HC:=jA (HR.out strong);rw[h1]at HA;rw[h2]at HB;rw[h3]at HC;clear HL HR h1 h2 h3;simp only[iQ,iD,aH,cZ,dM];go_enter func360,ntmps360;go_wp2_with fail;refine HA.out.mono ?_;rintro e w' ⟨rfl,rfl⟩;go_wp2_with fail;refine HB.out.mono ?_;rintro e w' ⟨rfl,rfl⟩;go_wp2_with fail;refine HC.out.mono ?_;rintro e w' ⟨rfl,rfl⟩;go_wp2_with fail;go_ret;exact⟨rfl,rfl⟩
  .have HA:=jA (HL.out strong);have HB:=jA (HR.out (!strong));rw[h1]at HA;rw[h2]at HB;clear HL HR h1 h2;simp only[iE,dM];go_enter func360,ntmps360;go_wp2_with fail;refine HA.out.mono ?_;rintro e w' ⟨rfl,rfl⟩;go_wp2_with fail;refine HB.out.mono ?_;rintro e w' ⟨rfl,rfl⟩;go_wp2_with fail;go_ret;exact⟨rfl,rfl⟩
 .have HA:=jA (HL.out strong);rw[h1]at HA;clear HL HR h1;simp only[iD,dM];go_enter func360,ntmps360;go_wp2_with fail;refine HA.out.mono ?_;rintro e w' ⟨rfl,rfl⟩;go_wp2_with fail;go_ret;exact⟨rfl,rfl⟩
end
end
end Go.Proofs.YthllhabjfchgiaaGreatDoor
