import Derived.Test.YthllhabjfchgiaaGreatDoorHs35
import Derived.Test.YthllhabjfchgiaaGreatDoorHs07
set_option maxRecDepth 100000
set_option maxHeartbeats 8000000
set_option linter.unusedSimpArgs false
namespace Go.Proofs.YthllhabjfchgiaaGreatDoor
open _root_.Go.Proofs.Tryz
section
open Go.RowKit Hx
attribute [local go_sem ↓] Go.wp_at_zero Go.wp_at_succ
attribute [local go_sem] kN
section
variable {w w' w1 w2 w3:jk}{lo hi m b H:Nat}{u v:jm}{e l r:Ex}{a:Int}{T:jo}{c:Co}
theorem Xv{d d':Dn}(h:d.give=d'.give)(o f:Int):c.one o f d=c.one o f d':=by unfold Co.one;rw[h]
theorem YB{d d' q g:Dn}(h:d.give=d'.give)(k:q.give=g.give)(o f:Int):c.two o f d q=c.two o f d' g:=by unfold Co.two;rw[h,k]
theorem ad8{T' o:jo}{k t kind:Int}{mk:List jm->List jm}{f:oK}{g:oK}{W:jk}(y:lQ T')(D:zi T')(i:lo<=b)(p:b<hi)(M:hi<=H)(C:mO g t w1 lo b H w1.heap.size v)(E:w1.heap.size<=W.heap.size)(s:f.tag=0)
 (n:∀j,j<w1.heap.size->j≠b->W.heap[j]? =w1.heap[j]?)(z:W.heap[b]? =some (.cells (Im a::Im k::Im kind::mk [v]).toArray o))
 (B:∀d:Ex,kF d->d.does.give=g.give->d.jw<=t->kF (vF T' o a k kind (oD (d.here d.at')) mk {give:=f.give}))(A:b<w1.heap.size):mO f k W lo hi H W.heap.size (.iface T' (Pt b 0)):=by
 obtain⟨d,K,L,_,_,_,rfl,O,P,x,G,I,_,J⟩:=C;refine⟨_,T',b,rJ,0,0,rfl,y,jf ⟨i,p⟩,B d x G I,rfl,aV _,λh=>jl (s.symm.trans h) (by decide),λw' q=>⟨?_,Ji s D⟩⟩;have F:qA w1 w' lo b H w1.heap.size:=λj N=>(q j (by omega)).trans (n j (by omega) (by omega));exact⟨b,_,rfl,i,by omega,⟨_,rfl,(x.ok.law _).wide _ _ _ _ _ _ (J w' F).1 (aj _) E⟩,(q b (jf ⟨i,p⟩)).trans z⟩
theorem qZ{j:Nat}{u:jm}(k:Nat)(d:k≠b):(w.setCell (Ad b j) u).heap[k]? =w.heap[k]? :=bC _ _ _ _ d
theorem anK(s:nV e)(p:Int):nV (yP p e):=by
 have t:=s.lZ.ok.jw;refine⟨ad2 s.lZ p,?_⟩;rintro a w lo hi T b ⟨V,G,R,D,E,⟨u,rfl,A⟩,y⟩ N;cases R;obtain⟨U,W,rfl,O,l1,l2,_⟩:=s.lZ.ok.head _ _ _ _ _ A;obtain⟨C,m1,F,o⟩:=s.fold _ _ _ _ _ _ A (by omega);have F:∀d w,(callFunc C d).run prog w=.ok (.enter C d) w:=F;have X:=jJ 3 y rfl;have o:=jA o;have I:=jA y;have z:b<w.heap.size:=by omega
 refine⟨382,λw=>by kernel_rfl,λd w=>by kernel_rfl,?_⟩;clear A y;go_enter func382,ntmps382;go_wp2_with fail;refine o.out.mono ?_;rintro en w1 ⟨S,rfl,x,q⟩;have f:=(q.keep b z (je (aj _))).trans I.out;have Y:=jJ 3 f rfl;have fz:=qV f;obtain⟨h,i,B⟩:∃h i,S=.iface h (Pt i 0):=by
  obtain⟨_,h,i,_,_,_,K,_⟩:=x;exact⟨h,i,K⟩
 subst B;have J:Hid (mO (yP p e).does.fd (yP p e).jw (w1.setCell (Ad b 3) (.iface h (Pt i 0))) lo hi w.heap.size (w1.setCell (Ad b 3) (.iface h (Pt i 0))).heap.size (.iface 395 (Pt b 0))/\Fk w (w1.setCell (Ad b 3) (.iface h (Pt i 0))) lo hi):=by
  have s1:=q.size;have g:=mM w1 b 3 (.iface h (Pt i 0));refine⟨?_,(q.wide (aj _) (by omega)).trans (Fk.set D E)⟩;refine ad8 (k:=jS [e.jw]) (mk:=λG=>G) (by simp[lQ]) (by unfold zi;decide) D E N x g.size rfl (λj _ P=>qZ j P) (aK _ _ _ _ _ _ f) ?_ (by omega);intro Z L M g3;exact ad1 L a _ (qx t) (λQ=>by rw[yU t.1 t.2 Q];omega) _ λc n=>Xv M.symm 27 n
 clear x q f o;go_wp2_with fail;go_ret;exact⟨_,rfl,J.out⟩
theorem arn(x:nV e)(q kind d:Int)(t:Wd):nV (oQ q kind d e t):=by
 obtain⟨z,y⟩:=t;have A:=x.lZ.ok.jw;refine⟨agc x.lZ q kind d _,?_⟩;rintro a w lo hi T b ⟨Z,L,W,I,J,⟨u,rfl,E⟩,C⟩ R;cases W;obtain⟨Y,b1,rfl,S,l1,l2,_⟩:=x.lZ.ok.head _ _ _ _ _ E;obtain⟨G,m1,K,p⟩:=x.fold _ _ _ _ _ _ E (by omega);have K:∀f w,(callFunc G f).run prog w=.ok (.enter G f) w:=K;have c4:=jJ 4 C rfl;have p:=jA p;have M:=jA C;have D:b<w.heap.size:=by omega
 refine⟨369,λw=>by kernel_rfl,λf w=>by kernel_rfl,?_⟩;clear E C;go_enter func369,ntmps369;go_wp2_with fail;refine p.out.mono ?_;rintro en w1 ⟨X,rfl,B,s⟩;have h:=(s.keep b D (je (aj _))).trans M.out;have d4:=jJ 4 h rfl;have fz:=qV h;obtain⟨i,n,F⟩:∃i n,X=.iface i (Pt n 0):=by
  obtain⟨_,i,n,_,_,_,O,_⟩:=B;exact⟨i,n,O⟩
 subst F;have N:Hid (mO (oQ q kind d e ⟨z,y⟩).does.fd (oQ q kind d e ⟨z,y⟩).jw (w1.setCell (Ad b 4) (.iface i (Pt n 0))) lo hi w.heap.size (w1.setCell (Ad b 4) (.iface i (Pt n 0))).heap.size (.iface 383 (Pt b 0))/\Fk w (w1.setCell (Ad b 4) (.iface i (Pt n 0))) lo hi):=by
  have s1:=s.size;have g:=mM w1 b 4 (.iface i (Pt n 0));refine⟨?_,(s.wide (aj _) (by omega)).trans (Fk.set I J)⟩;refine ad8 (k:=jS [e.jw]) (mk:=λL=>Im d::L++[.string z,Im y]) (by simp[lQ]) (by unfold zi;decide) I J R B g.size rfl (λj _ U=>qZ j U) (aK _ _ _ _ _ _ h) ?_ (by omega);intro e' P Q g3;exact aga P a kind d ⟨z,y⟩ _ (qx A) (λV=>by rw[yU A.1 A.2 V];omega) _ λc o=>Xv Q.symm _ o
 clear B s h p;go_wp2_with fail;go_ret;exact⟨_,rfl,N.out⟩
theorem ad6(W:jk)(v:jm)(d:jo):(Instr.typeAssert (.iface 405 v) d 405 true).run prog W=.ok (.tuple #[v,.bool true]) W:=by kernel_rfl
theorem KU(W:jk)(u:jo)(v:jm)(d:jo)(h:u≠405):(Instr.typeAssert (.iface u v) d 405 true).run prog W=.ok (.tuple #[.pointer none,.bool false]) W:=by
 have z:(do pure (Value.tuple #[<-zeroValue 405,.bool false]):Sem jm).run prog W=.ok (.tuple #[.pointer none,.bool false]) W:=by kernel_rfl
 have e:(Instr.typeAssert (.iface u v) d 405 true).run prog W=(if u=405 then (pure (Value.tuple #[v,.bool true]):Sem jm)else (do pure (Value.tuple #[<-zeroValue 405,.bool false]))).run prog W:=by kernel_rfl
 rw[e,jg h];exact z
theorem Wy(W:jk)(v:jm)(d:jo):(Instr.typeAssert (.iface 392 v) d 392 true).run prog W=.ok (.tuple #[v,.bool true]) W:=by kernel_rfl
theorem OU(W:jk)(u:jo)(v:jm)(d:jo)(h:u≠392):(Instr.typeAssert (.iface u v) d 392 true).run prog W=.ok (.tuple #[.pointer none,.bool false]) W:=by
 have z:(do pure (Value.tuple #[<-zeroValue 392,.bool false]):Sem jm).run prog W=.ok (.tuple #[.pointer none,.bool false]) W:=by kernel_rfl
 have e:(Instr.typeAssert (.iface u v) d 392 true).run prog W=(if u=392 then (pure (Value.tuple #[v,.bool true]):Sem jm)else (do pure (Value.tuple #[<-zeroValue 392,.bool false]))).run prog W:=by kernel_rfl
 rw[e,jg h];exact z
theorem anT(W:jk)(v:jm)(d:jo):(Instr.typeAssert (.iface 379 v) d 379 true).run prog W=.ok (.tuple #[v,.bool true]) W:=by kernel_rfl
theorem apW(W:jk)(u:jo)(v:jm)(d:jo)(h:u≠379):(Instr.typeAssert (.iface u v) d 379 true).run prog W=.ok (.tuple #[.pointer none,.bool false]) W:=by
 have z:(do pure (Value.tuple #[<-zeroValue 379,.bool false]):Sem jm).run prog W=.ok (.tuple #[.pointer none,.bool false]) W:=by kernel_rfl
 have e:(Instr.typeAssert (.iface u v) d 379 true).run prog W=(if u=379 then (pure (Value.tuple #[v,.bool true]):Sem jm)else (do pure (Value.tuple #[<-zeroValue 379,.bool false]))).run prog W:=by kernel_rfl
 rw[e,jg h];exact z
theorem aai{f:oK}{k:Int}{x:Ex}{y:jo}{z:Nat}(h:Ce f k w lo hi T b x y z):Calls prog 340 #[.iface T (Pt b 0)] w λe w'=>e=.returned (.tuple #[Im (if f.known then f.val else 0),.bool f.known])/\w'=w:=by
 have d:zi T->f.known=false->Calls prog 340 #[.iface T (Pt b 0)] w λe w'=>e=.returned (.tuple #[Im (if f.known then f.val else 0),.bool f.known])/\w'=w:=λj i=>by
  obtain⟨B,C,D⟩:=j;have o:=λW v=>KU W T v 319 B;have q:=λW v=>OU W T v 319 C;rw[i];clear h;go_enter func340,ntmps340;go_wp2_with fail;go_ret2;exact⟨rfl,rfl⟩
 rcases h with⟨g,rfl,A⟩|⟨g,rfl,t,A,p⟩|⟨g,rfl,_⟩|⟨g,j⟩
 .have i:f.known=true:=by simp[Hx.oK.known,g]
  rw[i];have o:=λW v=>ad6 W v 319;clear d;go_enter func340,ntmps340;go_wp2_with fail;go_ret2;exact⟨rfl,rfl⟩
 .have i:f.known=true:=by simp[Hx.oK.known,g]
  rw[i,p];have s:Hid (∀x,Calls prog 152 #[.bool t] x λe w'=>e=.returned (Im (if t then 1 else 0))/\w'=x):=λx=>LU t x;have o:=λW v=>KU W 392 v 319 (by decide);have q:=λW v=>Wy W v 319;clear d p;simp only[dM];generalize (if t then (1:Int)else 0)=n at *;go_enter func340,ntmps340;go_wp2_with fail;refine(s.out _).mono ?_;rintro e w2 ⟨rfl,rfl⟩;go_wp2_with fail;go_ret2;exact⟨rfl,rfl⟩
 .have i:f.known=false:=by simp[Hx.oK.known,g]
  rw[i];have o:=λW v=>KU W 379 v 319 (by decide);have q:=λW v=>OU W 379 v 319 (by decide);clear d;go_enter func340,ntmps340;go_wp2_with fail;go_ret2;exact⟨rfl,rfl⟩
 .exact d j (by simp[Hx.oK.known,g])
theorem Wx{f:oK}{k:Int}{x:Ex}{o:jo}{p:Nat}(h:Ce f k w lo hi T b x o p)(d:Bool):Calls prog 342 #[.iface T (Pt b 0),.bool d] w λe w'=>e=.returned (.bool (f.lg d))/\w'=w:=by
 have g:T≠392->f.tag≠2->Calls prog 342 #[.iface T (Pt b 0),.bool d] w λe w'=>e=.returned (.bool (f.lg d))/\w'=w:=λy j=>by
  have j:f.lg d=false:=by simp[Hx.oK.lg,j]
  rw[j];have z:=λW v=>OU W T v 319 y;clear h;go_enter func342,ntmps342;go_wp2_with fail;go_ret;exact⟨rfl,rfl⟩
 rcases h with⟨i,rfl,q⟩|⟨i,rfl,t,q,n⟩|⟨i,rfl,_⟩|⟨i,s⟩
 .exact g (by decide) (by rw[i];decide)
 .have z:=λW v=>Wy W v 319;have j:f.lg d=(t==d):=by
   unfold Hx.oK.lg;rw[i,n];cases t<;>cases d<;>rfl
  rw[j];clear g j n;cases t<;>cases d;all_goals
   go_enter func342,ntmps342;go_wp2_with fail;go_ret;exact⟨rfl,rfl⟩
 .exact g (by decide) (by rw[i];decide)
 .exact g s.2.1 (by rw[i];decide)
theorem aoM{f jw is:Int}(n:0<=jw/\jw<=1000001)(q:lo<=H)(i:H<=b)(g:b<hi)(k:w.heap[b]? =some (.cells #[Im f,Im jw,Im 2,.bool (is !=0)] 394)):mO (sK 2 is) jw w lo m H hi (.iface 392 (Pt b 0)):=by
 have o:sK 2 is={tag:=2,val:=if is=0 then 0 else 1,give:=Ic (decide (is≠0))}:=jh rfl;have p:(is !=0)=decide (is≠0):=by by_cases h:is=0<;>simp[h]
 rw[o];refine⟨vF 392 394 f jw 2 zH (λ_=>[.bool (decide (is≠0))]) {give:=Ic (decide (is≠0))},_,b,rJ,0,0,rfl,by simp[lQ],je ⟨i,g⟩,ah3 f jw 2 _ n _ rfl,rfl,aV _,λh=>jl h (by show¬(2:Int)=3;decide),λw' j=>?_⟩;have d:=(j b (je ⟨i,g⟩)).trans k;rw[p]at d;refine⟨⟨b,[],rfl,by omega,g,rfl,d⟩,je (jf ⟨rfl,rfl,decide (is≠0),jG d,?_⟩)⟩;by_cases h:is=0<;>simp[h]
theorem aoL{f jw kind is:Int}(o:kind≠2)(n:0<=jw/\jw<=1000001)(q:lo<=H)(i:H<=b)(g:b<hi)(k:w.heap[b]? =some (.cells #[Im f,Im jw,Im kind,Im is] 407)):mO (sK kind is) jw w lo m H hi (.iface 405 (Pt b 0)):=by
 have p:sK kind is={tag:=1,val:=is,give:=wZ is}:=jg o;rw[p];refine⟨vF 405 407 f jw kind zH (λ_=>[Im is]) {give:=wZ is},_,b,rJ,0,0,rfl,by simp[lQ],je ⟨i,g⟩,afe f is jw kind n _ rfl,rfl,aV _,λh=>jl h (by show¬(1:Int)=3;decide),λw' j=>?_⟩;have d:=(j b (je ⟨i,g⟩)).trans k;exact⟨⟨b,[],rfl,by omega,g,rfl,d⟩,jf ⟨rfl,rfl,jG d⟩⟩
theorem ael(w:jk)(g jw kind is:Int)(p:0<=jw/\jw<=1000001){lo m H:Nat}(o:lo<=H)(t:H<=w.heap.size):Calls prog 359 #[.agg #[Im g,Im jw,Im kind],Im is] w λe w'=>∃v,e=.returned v/\mO (sK kind is) jw w' lo m H w'.heap.size v/\w.grownBy w' none:=by
 have n:Hid (∀f d,w.grownBy ((w.alloc f).alloc d) none/\((w.alloc f).alloc d).heap[w.heap.size+1]? =some d/\w.heap.size+1<((w.alloc f).alloc d).heap.size):=λf d=>by
  refine⟨(ah w f none).trans (ah _ d none),?_,by rw[oz,oz];omega⟩;have:=aY (w.alloc f) d;rw[oz]at this;exact this
 by_cases h:kind=2
 .subst h;go_enter func359,ntmps359;go_wp2_with fail;go_ret;obtain⟨i,j,k⟩:=n.out (.cells #[Im g,Im jw,Im 2] 373) (.cells #[Im g,Im jw,Im 2,.bool (is !=0)] 394);exact⟨_,rfl,aoM p o (by omega) k j,i⟩
 .have s:(kind==2)=false:=by simpa using h
  have q:=jA h;clear h;go_enter func359,ntmps359;go_wp2_with fail;go_ret;obtain⟨i,j,k⟩:=n.out (.cells #[Im g,Im jw,Im kind] 373) (.cells #[Im g,Im jw,Im kind,Im is] 407);exact⟨_,rfl,aoL q.out p o (by omega) k j,i⟩
theorem afZ{k:Int}(h:0<=k/\k<=1000001):k<=jS [k]:=by
 unfold jS kZ;simp only[bP,eF];omega
theorem afv(he:nV e)(a0 kind:Int)(d:ji):nV (sG a0 kind d e):=by
 have R:=he.lZ.ok.jw;have kc:=qx R;refine⟨Xr he.lZ a0 kind d,?_⟩;rintro a w lo hi T b ⟨b',us,hv,h1,h2,⟨u,rfl,hu⟩,hb⟩ hH;cases hv;obtain⟨T1,b1,rfl,ae,l1,l2,_⟩:=he.lZ.ok.head _ _ _ _ _ hu;obtain⟨f1,m1,kM,H1⟩:=he.fold _ _ _ _ _ _ hu (by omega);have kM:∀z w,(callFunc f1 z).run prog w=.ok (.enter f1 z) w:=kM;have c4:=jJ 4 hb rfl;have H1:=jA H1;have HB:=jA hb;have ab:b<w.heap.size:=by omega
 show∃f,_/\_/\Calls prog f #[Pt b 0] w λJ w'=>∃s,J=.returned s/\mO (um kind d e.does.fd) (jS [e.jw]) w' lo hi w.heap.size w'.heap.size s/\Fk w w' lo hi;refine⟨365,λw=>by kernel_rfl,λz w=>by kernel_rfl,?_⟩;clear hu hb;go_enter func365,ntmps365;go_wp2_with fail;refine H1.out.mono ?_;rintro J w1 ⟨s,rfl,hF,hK⟩;have E:=(hK.keep b ab (je (aj _))).trans HB.out;have d4:=jJ 4 E rfl;have fz:=qV E;obtain⟨e',y,F,x2,T3,b3,rfl,q1,q2,Y,q4,q5,Z,P⟩:=hF;have ag:=hK.size;have gs:=mM w1 b 4 (.iface y (Pt F 0));have ad:(w1.setCell (Ad b 4) (.iface y (Pt F 0))).heap.size=w1.heap.size:=by simp[World.setCell]
 have o:∀j,j≠b->(w1.setCell (Ad b 4) (.iface y (Pt F 0))).heap[j]? =w1.heap[j]? :=λj hj=>qZ j hj;have i:(w1.setCell (Ad b 4) (.iface y (Pt F 0))).heap[b]? =some (.cells #[Im a,Im (jS [e.jw]),Im kind,.string d,.iface y (Pt F 0)] 381):=aK _ _ _ _ _ _ E;have k:Fk w (w1.setCell (Ad b 4) (.iface y (Pt F 0))) lo hi:=(hK.wide (aj _) (by omega)).trans (Fk.set h1 h2);go_upto_region 2 with fail;obtain⟨W,hW⟩:∃W,w1.setCell (Ad b 4) (.iface y (Pt F 0))=W:=⟨_,rfl⟩;rw[hW]at ad o i k⊢;clear hW gs E HB hK H1 fz d4;have S:qA w1 W lo b w.heap.size w1.heap.size:=λj hj=>o j (by omega);obtain⟨hh,hT⟩:=P W S;have y0:=jJ 0 i rfl;have y1:=jJ 1 i rfl;have y2:=jJ 2 i rfl;have y4:=jJ 4 i rfl;have I:Hid (∀(n:Nat)(is:Int),Calls prog 359 #[.agg #[Im a,Im (jS [e.jw]),Im kind],Im is] (W.drewN n) λJ w'=>∃s,J=.returned s/\mO (sK kind is) (jS [e.jw]) w' lo hi w.heap.size w'.heap.size s/\Fk w w' lo hi):=λn is=>by
  have g:=lu W n;refine(ael (W.drewN n) a (jS [e.jw]) kind is kc (lo:=lo) (m:=hi) (H:=w.heap.size) (by omega) (by have:=g.size;omega)).mono ?_;rintro J w' ⟨s,r1,r2,r3⟩;exact⟨s,r1,r2,k.trans (Fk.grown (g.trans r3))⟩
 obtain⟨K,U⟩:∃K,jS [e.jw]=K:=⟨_,rfl⟩;have PK:=jA U;rw[U]at y1 I;rcases hT with⟨q,rfl,t2⟩|⟨q,rfl,t,t2,t3⟩|⟨q,rfl,t2,t3,t4,t5,t6,t7⟩|⟨q,ho⟩
 .
  have Hf:Hid (um kind d e.does.fd=sK kind (wrap64 (-e.does.fd.val))):=by
   show _=_;unfold um;rw[jh q]
  have k1:=λW v=>ad6 W v 319;clear hh P Z o i k S;go_wp2_with fail;refine nO 9 (by kernel_rfl) (by kernel_rfl) ?_;simp only[aC,aO,aG,aQ];repeat (go_big_quiet_step (fail))
  refine bF ?_;intro _ N;obtain⟨k3,A⟩:=N;subst A;go_wp2_with fail;refine(I.out _ _).mono ?_;rintro J w2 ⟨s,L,O,X⟩;obtain⟨C,D,M⟩:∃C D,s=.iface C (Pt D 0):=by
   obtain⟨_,C,D,_,_,_,r,_⟩:=O;exact⟨C,D,r⟩
  subst L M;have B:=jA (jd O X);clear O X I;go_wp2_with fail;go_ret;refine⟨_,rfl,?_,B.out.2⟩;rw[Hf.out,PK.out];exact B.out.1
 .
  have Hf:Hid (um kind d e.does.fd=sK kind (if (!t)=true then 1 else 0)):=by
   unfold um;rw[jg (by rw[q];decide),jh q,t3];cases t<;>rfl
  have k1:=λW v=>KU W 392 v 319 (by decide);have k2:=λW v=>Wy W v 319;have HT:Hid (∀x,Calls prog 152 #[.bool (!t)] x λe w'=>e=.returned (Im (if (!t)=true then 1 else 0))/\w'=x):=λx=>LU (!t) x;clear hh P Z o i k S t3;generalize (if (!t)=true then (1:Int)else 0)=n0 at *;go_wp2_with fail;refine nO 10 (by kernel_rfl) (by kernel_rfl) ?_;simp only[aC,aO,aG,aQ];repeat (go_big_quiet_step ((go_at_call 152;exact dN (HT.out _))))
  refine bF ?_;intro _ N;obtain⟨k3,A⟩:=N;subst A;go_wp2_with fail;refine(I.out _ _).mono ?_;rintro J w2 ⟨s,L,O,X⟩;obtain⟨C,D,M⟩:∃C D,s=.iface C (Pt D 0):=by
   obtain⟨_,C,D,_,_,_,r,_⟩:=O;exact⟨C,D,r⟩
  subst L M;have B:=jA (jd O X);clear O X I;go_wp2_with fail;go_ret;refine⟨_,rfl,?_,B.out.2⟩;rw[Hf.out,PK.out];exact B.out.1
 .
  have B:Hid (mO (um kind d e.does.fd) (jS [e.jw]) W lo hi w.heap.size W.heap.size (.iface T3 (Pt b3 0))/\Fk w W lo hi):=by
   refine⟨?_,k⟩;have hf:um kind d e.does.fd={give:=e.does.fd.sub}:=by
    unfold um;rw[jg (by rw[q];decide),jg (by rw[q];decide),jh q]
   rw[hf];obtain⟨g1,g2⟩:=Z q;refine⟨x2,T3,b3,rJ,0,0,rfl,g1,by omega,t4,t5,?_,λh=>jl h (by show¬(0:Int)=3;decide),λw' ha=>⟨?_,Ji rfl t3⟩⟩
   .have:=afZ R;omega
   .have hw:qA w1 w' lo b w.heap.size w1.heap.size:=λj hj=>(ha j (by omega)).trans (o j (by omega));obtain⟨_,aa⟩:=P w' hw;rcases aa with⟨G,_⟩|⟨G,_⟩|⟨_,_,_,_,_,_,_,z7⟩|⟨G,_⟩
    .rw[q]at G;cases G
    .rw[q]at G;cases G
    .exact(t4.ok.law _).wide _ _ _ _ _ _ z7 (aj _) (by omega)
    .rw[q]at G;cases G
  have k1:=λW v=>KU W 379 v 319 (by decide);have k2:=λW v=>OU W 379 v 319 (by decide);have k3:=λW v=>anT W v 319;clear hh P Z o i k S I t4 t5 t6 t7 Y q4 q5;go_wp2_with fail;go_ret;exact⟨_,rfl,B.out⟩
 .
  have B:Hid (mO (um kind d e.does.fd) (jS [e.jw]) W lo hi w.heap.size W.heap.size (.iface 379 (Pt b 0))/\Fk w W lo hi):=by
   refine⟨?_,k⟩;have hf:um kind d e.does.fd={tag:=3,give:=λc p=>c.one (if d.data.toList==[45]then 8 else 9) p e.does.fd.dn,sub:=e.does.fd.give}:=by
    unfold um;rw[jg (by rw[q];decide),jg (by rw[q];decide),jg (by rw[q];decide)]
   rw[hf];have af:=afZ R;have ac:kF (vF 379 381 a (jS [e.jw]) kind (oD (e'.here e'.at')) (λus=>.string d::us) {give:=λc p=>c.one (if d.data.toList==[45]then 8 else 9) p e.does.fd.dn}):=afu Y a kind d _ kc (λhk=>by rw[yU R.1 R.2 hk];omega) _ λc p=>Xv q4.symm _ p;refine⟨_,379,b,e',y,F,rfl,by simp[lQ],jf ⟨h1,h2⟩,ac,rfl,aV _,λ_=>⟨q1,by omega⟩,λw' ha=>?_⟩;have hw:qA w1 w' lo b w.heap.size w1.heap.size:=λj hj=>(ha j (by omega)).trans (o j (by omega));have Q:=(Y.ok.law _).wide _ _ _ _ _ _ (P w' hw).1 (aj _) (by omega:w1.heap.size<=W.heap.size);have V:=(ha b (jf ⟨h1,h2⟩)).trans i;exact⟨⟨b,_,rfl,h1,by omega,⟨_,rfl,Q⟩,V⟩,je (je (jf ⟨rfl,rfl,jG V,ho,Y,q4,by omega,Q⟩))⟩
  obtain⟨o1,o2,o3⟩:=ho;have k1:=λW v=>KU W y v 319 o1;have k2:=λW v=>OU W y v 319 o2;have k3:=λW v=>apW W y v 319 o3;clear hh P Z o i k S I Y q4 q5;go_wp2_with fail;go_ret;exact⟨_,rfl,B.out⟩
end
end
section
abbrev aJ:=@Go.AllReadyH.nil
abbrev aP:=@Go.wpAnyH_ready
end
section
open Go.RowKit Hx
attribute [local go_sem ↓] Go.wp_at_zero Go.wp_at_succ
attribute [local go_sem] kN
attribute [local simp] aN
section
variable {w w' w1 w2 w3:jk}{lo hi m b H:Nat}{u v:jm}{e l r:Ex}{a:Int}{T:jo}{c:Co}
structure LZ(f g:oK)(k k':Int)(w:jk)(lo m b:Nat)(u v:jm)(w2:jk):Prop where
 ex:∃w1:jk,mO f k w2 lo m w.heap.size w1.heap.size u/\mO g k' w2 m b w1.heap.size w2.heap.size v/\w.heap.size<=w1.heap.size/\w1.heap.size<=w2.heap.size
 fk:Fk w w2 lo b
theorem LZ.mk'{f g:oK}{k i:Int}(n:mO f k w1 lo m w.heap.size w1.heap.size u)(d:Fk w w1 lo m)(o:mO g i w2 m b w1.heap.size w2.heap.size v)(h:Fk w1 w2 m b)(q:lo<=m)(p:m<=b)(t:b<=w.heap.size):LZ f g k i w lo m b u v w2:=by
 have x:=d.size;refine⟨⟨w1,n.later λj s=>h.keep j (by omega) (by omega),o,d.size,h.size⟩,(d.wide (aj _) p).trans (h.wide q (aj _))⟩
theorem mO.form{f:oK}{k:Int}(h:mO f k w lo m H hi v):∃T b,v=.iface T (Pt b 0):=by
 obtain⟨_,T,b,_,_,_,h,_⟩:=h;exact⟨T,b,h⟩
theorem aea{T' s:jo}{k z A kind:Int}{mk:List jm->List jm}{f g t:oK}{W:jk}(G:lQ T')(M:zi T')(o:lo<=b)(x:b<hi)(Y:hi<=w.heap.size)(q:lo<=m)(L:m<=b)(F:LZ g t z A w lo m b u v w2)(N:w2.heap.size<=W.heap.size)(y:f.tag=0)
 (n:∀j,j≠b->W.heap[j]? =w2.heap[j]?)(I:W.heap[b]? =some (.cells (Im a::Im k::Im kind::mk [u,v]).toArray s))
 (J:∀d i:Ex,kF d->d.does.give=g.give->d.jw<=z->kF i->i.does.give=t.give->i.jw<=A->kF (vF T' s a k kind (Bo (d.here d.at') (i.here i.at')) mk {give:=f.give})):mO f k W lo hi w.heap.size W.heap.size (.iface T' (Pt b 0)):=by
 obtain⟨w1,O,P,Z,s2⟩:=F.ex;obtain⟨d,_,_,_,_,_,rfl,_,_,B,Q,R,_,S⟩:=O;obtain⟨i,_,_,_,_,_,rfl,_,_,C,U,V,_,X⟩:=P;refine⟨_,T',b,rJ,0,0,rfl,G,jf ⟨o,x⟩,J d i B Q R C U V,rfl,aV _,λh=>jl (y.symm.trans h) (by decide),λw' p=>⟨?_,Ji y M⟩⟩;have D:qA w2 w' lo m w.heap.size w1.heap.size:=λj K=>(p j (by omega)).trans (n j (by omega));have E:qA w2 w' m b w1.heap.size w2.heap.size:=λj K=>(p j (by omega)).trans (n j (by omega));exact⟨b,_,rfl,o,by omega,⟨_,_,rfl,(B.ok.law _).wide _ _ _ _ _ _ (S w' D).1 (aj _) (by omega),(C.ok.law _).wide _ _ _ _ _ _ (X w' E).1 q N⟩,(p b (jf ⟨o,x⟩)).trans I⟩
theorem aqh(A:nV l)(B:nV r)(L:Int):nV (wG L l r):=by
 have lc:=A.lZ.ok.jw;have rc:=B.lZ.ok.jw;refine⟨afn A.lZ B.lZ L,?_⟩;rintro a w lo hi T b ⟨b',us,hv,Z,h2,⟨m,u,v,rfl,E,F,Q,t⟩,P⟩ hH;cases hv;obtain⟨W,b1,rfl,af,l1,l2,_⟩:=A.lZ.ok.head _ _ _ _ _ Q;obtain⟨X,M,rfl,ag,l3,l4,_⟩:=B.lZ.ok.head _ _ _ _ _ t;obtain⟨N,m1,kM,_⟩:=A.fold _ _ _ _ _ _ Q (by omega);obtain⟨O,m2,qC,_⟩:=B.fold _ _ _ _ _ _ t (by omega);have EG:Hid (∀y,w.drew.grownBy y none->Calls prog N #[Pt b1 0] y λx w1=>∃n o,x=.returned (.iface n (Pt o 0))/\Hid (mO l.does.fd l.jw w1 lo m w.heap.size w1.heap.size (.iface n (Pt o 0))/\Fk w w1 lo m)):=λy G=>by
  have Y:w.grownBy y none:=(DX (aN w none)).trans G;have sy:=Y.size;obtain⟨f,m',_,C⟩:=A.fold _ y _ _ _ _ ((A.lZ.ok.law _).loc _ _ _ _ _ Q λk _ k2=>Y.block k (by omega) (by simp)) (by omega);obtain rfl:f=N:=by
   have h:=(m' w).symm.trans (m1 w);simp only[Result.ok.injEq,Prod.mk.injEq,and_true]at h;exact h
  refine C.mono ?_;rintro x w1 ⟨v',rfl,D,d⟩;obtain⟨n,o,ac⟩:=D.form;subst ac;exact⟨n,o,rfl,D.wide (aj _) (aj _) sy (aj _) (aV _),(Fk.grown Y).trans d⟩
 have V:Hid (∀w1 y,Fk w w1 lo m->w1.grownBy y none->Calls prog O #[Pt M 0] y λx w2=>∃p q,x=.returned (.iface p (Pt q 0))/\Hid (mO r.does.fd r.jw w2 m b w1.heap.size w2.heap.size (.iface p (Pt q 0))/\Fk w1 w2 m b)):=λw1 y s G=>by
  have sy:=G.size;have s1:=s.size;obtain⟨f,m',_,C⟩:=B.fold _ y _ _ _ _ ((B.lZ.ok.law _).loc _ _ _ _ _ t λk k1 k2=>(G.block k (by omega) (by simp)).trans (s.keep k (by omega) (by omega))) (by omega);obtain rfl:f=O:=by
   have h:=(m' w).symm.trans (m2 w);simp only[Result.ok.injEq,Prod.mk.injEq,and_true]at h;exact h
  refine C.mono ?_;rintro x w2 ⟨v',rfl,D,d⟩;obtain⟨p,q,ad⟩:=D.form;subst ad;exact⟨p,q,rfl,D.wide (aj _) (aj _) sy (aj _) (aV _),(Fk.grown G).trans d⟩
 have kM:∀g w,(callFunc N g).run prog w=.ok (.enter N g) w:=kM;have qC:∀g w,(callFunc O g).run prog w=.ok (.enter O g) w:=qC;have c3:w.cell? (Ad b 3)=some (.iface W (Pt b1 0)):=jG P;have c4:w.cell? (Ad b 4)=some (.iface X (Pt M 0)):=jG P;have S:=jA P;have z:b<w.heap.size:=by omega
 have C:Hid (∀w1,Fk w w1 lo m->w1.cell? (Ad b 4)=some (.iface X (Pt M 0))/\w1.cell? (Ad b 3)=some (.iface W (Pt b1 0))/\∀j,w1.frozen? (Ad b j)=false):=λw1 s=>by
  have i:=(s.keep b z (by omega)).trans S.out;exact⟨jG i,jG i,λj=>nA i⟩
 have U:Hid (∀w1 w2,Fk w w1 lo m->Fk w1 w2 m b->w2.cell? (Ad b 4)=some (.iface X (Pt M 0))/\w2.cell? (Ad b 3)=some (.iface W (Pt b1 0))/\∀j,w2.frozen? (Ad b j)=false):=λw1 w2 s ab=>by
  have s1:=s.size;have i:=(ab.keep b (by omega) (by omega)).trans ((s.keep b z (by omega)).trans S.out);exact⟨jG i,jG i,λj=>nA i⟩
 have HE:Hid (∀(w1 w2:jk)(n:jo)(o:Nat)(p:jo)(q:Nat),mO l.does.fd l.jw w1 lo m w.heap.size w1.heap.size (.iface n (Pt o 0))/\Fk w w1 lo m->mO r.does.fd r.jw w2 m b w1.heap.size w2.heap.size (.iface p (Pt q 0))/\Fk w1 w2 m b->
  mO (wG L l r).does.fd (wG L l r).jw ((w2.setCell (Ad b 3) (.iface n (Pt o 0))).setCell (Ad b 4) (.iface p (Pt q 0))) lo hi w.heap.size ((w2.setCell (Ad b 3) (.iface n (Pt o 0))).setCell (Ad b 4) (.iface p (Pt q 0))).heap.size (.iface 398 (Pt b 0))/\Fk w ((w2.setCell (Ad b 3) (.iface n (Pt o 0))).setCell (Ad b 4) (.iface p (Pt q 0))) lo hi):=λw1 w2 n o p q R p2=>by
  have hB:=LZ.mk' R.1 R.2 p2.1 p2.2 E F (by omega);have s1:=R.2.size;have aa:=(p2.2.keep b (by omega) (by omega)).trans ((R.2.keep b z (by omega)).trans S.out);have g3:=mM w2 b 3 (.iface n (Pt o 0));have g4:=mM (w2.setCell (Ad b 3) (.iface n (Pt o 0))) b 4 (.iface p (Pt q 0));refine⟨?_,((hB.fk.wide (aj _) (by omega)).trans (Fk.set Z h2)).trans (Fk.set Z h2)⟩;refine aea (k:=jS [l.jw,r.jw]) (mk:=λus=>us) (by simp[lQ]) (by unfold zi;decide) Z h2 hH E F hB (dH g3.size g4.size) rfl (λj hj=>(qZ j hj).trans (qZ j hj)) (aK _ _ _ _ _ _ (aK _ _ _ _ _ _ aa)) ?_;intro e1 e2 q1 q2 q3 r1 r2 r3;exact afm q1 r1 a _ (rO lc rc) (λs=>by rw[Ap lc.1 lc.2 rc.1 rc.2 s];omega) _ λc I=>YB q2.symm r2.symm 35 I
 refine⟨385,λw=>by kernel_rfl,λg w=>by kernel_rfl,?_⟩;clear Q t P;go_enter func385,ntmps385;go_upto_region 1 with fail;refine aak (f:=10) (λ_=>True) [0,1,2,3,4,7,8,9] #[true,true,true,true,true,false,false,true,true,true,false,false,false,false,false,false,false,false] (λl=>l.take 5++(l.drop 7).take 3) (by kernel_rfl) (by kernel_rfl) (by kernel_rfl) (by kernel_rfl) (by kernel_rfl) (by kernel_rfl) trivial (λ_=>?_);simp only[aC,aO,aG,aQ,bZ,dP]
 iterate 8
  (refine zo.cons (v:=?_) (by rfl) (λw ae=>?_) ?_
   rotate_left
   ·(go_simp;first|done|with_reducible rfl)
   simp only[Act.put,ak,au,ay])
 refine zo.nil ?_;refine aP (rs:=[5,10]) (by kernel_rfl) (by simp) (lW rfl (λK d=>?a1) (lW rfl (λK d=>?b1) aJ));all_goals
  go_simp;refine d.out _ _ trivial (λ_=>?_);clear d K;try simp only[ak,au,ay]
 case' a1=>refine aP (rs:=[6,10]) (by kernel_rfl) (by simp) (lW rfl (λK d=>?c1) (lW rfl (λK d=>?d1) aJ))
 case' b1=>
  refine aP (rs:=[5]) (by kernel_rfl) (by simp) (lW rfl (λK d=>?_) aJ);go_simp;refine d.out _ _ trivial (λ_=>?_);clear d K;try simp only[ak,au,ay]
  refine aP (rs:=[6]) (by kernel_rfl) (by simp) (lW rfl (λK d=>?_) aJ);go_simp
 case' d1=>
  go_simp;refine d.out _ _ trivial (λ_=>?_);clear d K;try simp only[ak,au,ay]
  refine aP (rs:=[6]) (by kernel_rfl) (by simp) (lW rfl (λK d=>?_) aJ);go_simp
 case' c1=>go_simp
 all_goals
  refine(EG.out _ (aN _ _)).mono ?_;rintro x w1 ⟨n,o,rfl,J⟩;obtain⟨z4,z3,zf⟩:=C.out w1 J.out.2;go_wp2_with fail;refine d.out _ _ trivial (λ_=>?_);clear d K;try simp only[ak,au,ay]
 case' c1=>
  refine aP (rs:=[10]) (by kernel_rfl) (by simp) (lW rfl (λK d=>?_) aJ);go_simp;refine d.out _ _ trivial (λ_=>?_);clear d K;try simp only[ak,au,ay]
 all_goals
  refine aP (rs:=[11]) (by kernel_rfl) (by simp) (lW rfl (λK d=>?_) aJ);go_simp;refine(V.out w1 _ J.out.2 (aN _ _)).mono ?_;rintro x w2 ⟨p,q,rfl,P2⟩;obtain⟨y4,y3,yf⟩:=U.out w1 w2 J.out.2 P2.out.2;go_wp2_with fail;refine d.out _ _ trivial (λ_=>?_);clear d K;try simp only[ak,au,ay]
  refine aP (rs:=[12]) (by kernel_rfl) (by simp) (lW rfl (λK d=>?_) aJ);go_simp;refine d.out _ _ trivial (λ_=>?_);clear d K;try simp only[ak,au,ay]
  refine aP (rs:=[13]) (by kernel_rfl) (by simp) (lW rfl (λK d=>?_) aJ);go_simp;refine d.out _ _ trivial (λ_=>?_);clear d K;try simp only[ak,au,ay]
  refine aP (rs:=[14]) (by kernel_rfl) (by simp) (lW rfl (λK d=>?_) aJ);go_simp;refine d.out _ _ trivial (λ_=>?_);clear d K;try simp only[ak,au,ay]
  refine aP (rs:=[15]) (by kernel_rfl) (by simp) (lW rfl (λK d=>?_) aJ);go_simp;refine d.out _ _ trivial (λ_=>?_);clear d K;try simp only[ak,au,ay]
  refine aP (rs:=[16]) (by kernel_rfl) (by simp) (lW rfl (λK d=>?_) aJ);go_simp;refine d.out _ _ trivial (λ_=>?_);clear d K;try simp only[ak,au,ay]
  refine aP (rs:=[17]) (by kernel_rfl) (by simp) (lW rfl (λK d=>?_) aJ);go_simp;refine d.out _ _ trivial (λ_=>?_);clear d K;try simp only[ak,au,ay]
  refine wpAnyH_done (by kernel_rfl) ?_ _;refine NoPanic.normal ?_;go_wp2_with fail;go_ret;exact⟨_,rfl,HE.out w1 w2 n o p q J.out P2.out⟩
end
end
section
open Go.RowKit Hx
attribute [local go_sem ↓] Go.wp_at_zero Go.wp_at_succ
attribute [local go_sem] kN
section
variable {w w' w1 w2 w3:jk}{lo hi m b H:Nat}{u v:jm}{e l r:Ex}{a:Int}{T:jo}{c:Co}
theorem anU{f g:oK}{q s:jo}{t x:Nat}(z:w.cell? (Ad b 4)=some (.iface q (Pt t 0)))(A:w.cell? (Ad b 5)=some (.iface s (Pt x 0)))
 (j:Hid (∀h:Bool,Calls prog 342 #[.iface q (Pt t 0),.bool h] w λe w'=>e=.returned (.bool (f.lg h))/\w'=w))(k:Hid (∀h:Bool,Calls prog 342 #[.iface s (Pt x 0),.bool h] w λe w'=>e=.returned (.bool (g.lg h))/\w'=w))(d:Bool):
 Calls prog 360 #[Pt b 0,.bool d] w λe w'=>e=.returned (if f.lg d||g.lg (!d)then .iface q (Pt t 0)else if g.lg d||f.lg (!d)then .iface s (Pt x 0)else .iface 374 (Pt b 0))/\w'=w:=by
 cases o:f.lg d
 .cases h2:g.lg (!d)
  .cases h3:g.lg d
   .cases h4:f.lg (!d);all_goals
     have i:=jA (j.out d);have n:=jA (k.out (!d));have p:=jA (k.out d);have y:=jA (j.out (!d));rw[o]at i;rw[h2]at n;rw[h3]at p;rw[h4]at y;clear j k o h2 h3 h4;simp only[iQ,iE,aH,cZ,dM];go_enter func360,ntmps360;go_wp2_with fail;refine i.out.mono ?_;rintro e w' ⟨rfl,rfl⟩;go_wp2_with fail;refine n.out.mono ?_;rintro e w' ⟨rfl,rfl⟩;go_wp2_with fail;refine p.out.mono ?_;rintro e w' ⟨rfl,rfl⟩;go_wp2_with fail;refine y.out.mono ?_;rintro e w' ⟨rfl,rfl⟩;go_wp2_with fail;go_ret;exact⟨rfl,rfl⟩
   .have i:=jA (j.out d);have n:=jA (k.out (!d));have p:=jA (k.out d);rw[o]at i;rw[h2]at n;rw[h3]at p;clear j k o h2 h3;simp only[iQ,iD,aH,cZ,dM];go_enter func360,ntmps360;go_wp2_with fail;refine i.out.mono ?_;rintro e w' ⟨rfl,rfl⟩;go_wp2_with fail;refine n.out.mono ?_;rintro e w' ⟨rfl,rfl⟩;go_wp2_with fail;refine p.out.mono ?_;rintro e w' ⟨rfl,rfl⟩;go_wp2_with fail;go_ret;exact⟨rfl,rfl⟩
  .have i:=jA (j.out d);have n:=jA (k.out (!d));rw[o]at i;rw[h2]at n;clear j k o h2;simp only[iE,dM];go_enter func360,ntmps360;go_wp2_with fail;refine i.out.mono ?_;rintro e w' ⟨rfl,rfl⟩;go_wp2_with fail;refine n.out.mono ?_;rintro e w' ⟨rfl,rfl⟩;go_wp2_with fail;go_ret;exact⟨rfl,rfl⟩
 .have i:=jA (j.out d);rw[o]at i;clear j k o;simp only[iD,dM];go_enter func360,ntmps360;go_wp2_with fail;refine i.out.mono ?_;rintro e w' ⟨rfl,rfl⟩;go_wp2_with fail;go_ret;exact⟨rfl,rfl⟩
end
end
end Go.Proofs.YthllhabjfchgiaaGreatDoor
