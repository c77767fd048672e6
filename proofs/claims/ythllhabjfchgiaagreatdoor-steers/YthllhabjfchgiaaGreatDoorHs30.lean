import Derived.Test.YthllhabjfchgiaaGreatDoorHs29
set_option maxRecDepth 100000
set_option maxHeartbeats 8000000
set_option linter.unusedSimpArgs false
namespace Go.Proofs.YthllhabjfchgiaaGreatDoor
open _root_.Go.Proofs.Tryz
section
open Go.RowKit Hx
attribute [local go_sem ↓] Go.wp_at_zero Go.wp_at_succ
attribute [local go_sem] kN
section
variable {w w' w1 w2:jk}{C lo hi b:Nat}{c:Co}{u:jm}{e f:Ex}{a:Int}{T:jo}{x:Sx}
structure qh(s:jI):Prop where
 ok:oI s
 pos:1<=s.jw
 jy:∀c,∃more,(s.does.lay c).jy=c.jy++more/\more.length<=1
 len:∀c,s.jw<=1000000->((s.does.lay c).code.length:Int)<=c.code.length+200 * s.jw
 lay:∀w lo hi T b C c,s.here w lo hi (.iface T (Pt b 0))->hi<=C->kG w C c->Room c s.jw->
  ∃f,(∀w,(method 576 T (Pt b 0) "helm/lang.lay").run prog w=.ok (f,Pt b 0) w)/\Enters f/\
   Calls prog f #[Pt b 0,Pt C 0] w λen w'=>en=.returned (.tuple #[])/\kG w' C (s.does.lay c)/\Gk w w' C
def wY(T' T:jo)(at' jw:Int)(K:Hx.Kids)(mk:List jm->List jm)(ds:Ds:={}):jI:=
 ⟨jw,λw lo hi v=>∃b us,v=.iface T' (Pt b 0)/\lo<=b/\b<hi/\K w lo hi us/\w.heap[b]? =some (.cells (Im at'::Im jw::mk us).toArray T),ds⟩
theorem Jf{T' T:jo}{at' jw:Int}{K:Hx.Kids}{mk:List jm->List jm}{ds:Ds}(r:o7 T')(p:zh K)(A:1<=jw/\jw<=1000001):oI (wY T' T at' jw K mk ds):=by
 refine⟨⟨?_,?_⟩,?_,by show 0<=jw/\jw<=1000001;omega⟩
 .rintro w w' lo hi v ⟨b,o,j,g,h,n,i⟩ q;exact⟨b,o,j,g,h,p.loc _ _ _ _ _ n q,(q b g h).trans i⟩
 .rintro w lo hi z s v ⟨b,o,j,g,h,n,i⟩ t y;exact⟨b,o,j,by omega,by omega,p.wide _ _ _ _ _ _ n t y,i⟩
 .rintro w lo hi v ⟨b,o,j,g,h,n,i⟩;exact⟨T',b,j,r,g,h,jG i⟩
theorem KX{T' T:jo}{at' jw:Int}{K j:Hx.Kids}{mk:List jm->List jm}{ds i:Ds}{v:jm}(r:∀w lo b hi g,K w lo b g->b<=hi->j w lo hi g)(h:(yS T' T at' jw K mk ds).here w lo hi v):(wY T' T at' jw j mk i).here w lo hi v:=by
 obtain⟨b,g,s,n,o,p,q⟩:=h;exact⟨b,g,s,n,o,r _ _ _ _ _ p (by omega),q⟩
theorem qh.of{s i:jI}(h:qh i)(y:oI s)(p:∀w lo hi v,s.here w lo hi v->i.here w lo hi v)(g:s.jw=i.jw)(j:s.does.lay=i.does.lay):qh s:=
 ⟨y,by rw[g];exact h.pos,λc=>by rw[j];exact h.jy c,λc q=>by rw[j,g];exact h.len c (by rw[<-g];exact q),λw lo hi T b C c t n o r=>by rw[j];exact h.lay w lo hi T b C c (p _ _ _ _ t) n o (by rw[<-g];exact r)⟩
theorem Jo{c i:Co}(h:i.jy=c.jy):∃g,i.jy=c.jy++g/\g.length<=1:=⟨[],by rw[h,aX],by simp⟩
theorem yE{xs:List Int}(h:∀x∈xs,0<=x/\x<=1000001):1<=jS xs:=by
 have g:=xZ xs h;unfold jS;generalize kZ xs=t at *;unfold kZ;simp only[bP,eF];omega
theorem XQ(a:Int):qh (yV a):=by
 refine⟨agA a,aV 1,λc=>Jo rfl,λc _=>?_,?_⟩
 .have:=oN c 1 [];simp only[bg]at this;show(((c.lay 1 []).code.length:Nat):Int)<=c.code.length+200 * 1;omega
 rintro w lo hi T b C c ⟨t,D,s,z,A,p,q⟩ B i r;cases s;refine⟨332,λw=>by kernel_rfl,λh w=>by kernel_rfl,?_⟩;have g:=jA (GU i 1 (by have:=r.code;have:(yV a).jw=1:=rfl;omega));clear q i p;go_enter func332,ntmps332;go_wp2_with fail;refine g.out.mono ?_;rintro y w1 ⟨rfl,j,n⟩;have o:=jA (jd j n);clear j n g;go_wp2_with fail;go_end0;exact⟨rfl,o.out⟩
theorem ahD(g:kF e)(slot:Int):(c.store slot e.does).jy=c.jy:=by
 show(if (e.does.give c slot).2=slot then (e.does.give c slot).1 else (e.does.give c slot).1.lay 7 [slot,(e.does.give c slot).2]).jy=c.jy;split
 .exact g.jy c slot
 .exact g.jy c slot
theorem ahB(h:kF e)(slot:Int)(i:e.jw<=1000000):((c.store slot e.does).code.length:Int)<=c.code.length+200 * e.jw+71:=by
 have j:=h.len c slot i;have g:=oN (e.does.give c slot).1 7 [slot,(e.does.give c slot).2];simp only[aF,bg]at g;show((if (e.does.give c slot).2=slot then (e.does.give c slot).1 else (e.does.give c slot).1.lay 7 [slot,(e.does.give c slot).2]).code.length:Int)<=_;split<;>omega
theorem acW(t:kF e)(y:e.here e.at' w lo hi u)(N:hi<=C)(F:kG w C c)(z:Room c e.jw)(slot:Int):
 Calls prog 313 #[Pt C 0,Im slot,u] w λL w'=>L=.returned (.tuple #[])/\kG w' C (c.store slot e.does)/\Gk w w' C:=by
 obtain⟨S,U,rfl,_⟩:=t.ok.head _ _ _ _ _ y;obtain⟨D,X,G,n⟩:=t.give _ _ _ _ _ _ C c slot y N F z;have G:∀h w,(callFunc D h).run prog w=.ok (.enter D h) w:=G;have n:=jA (n);have Q:=t.NH z slot;obtain⟨Y,R,E⟩:=F;have V:=jJ 2 E.jM rfl;clear E y z;unfold Co.store;generalize e.does.give c slot=r at *;obtain⟨I,o⟩:=r;simp only at n Q⊢;generalize P:c.free=i at *;by_cases p:o=slot
 .rw[jh p];have O:(o !=slot)=false:=by simp[p]
  go_enter func313,ntmps313;go_wp2_with fail;refine n.out.mono ?_;rintro K w1 ⟨rfl,⟨A,q,g⟩,j⟩;have J:=jJ 2 g.jM rfl;have M:=qV g.jM;have s:Hid (kG (w1.setCell (Ad C 2) (Im i)) C (I.kC i)/\Gk w (w1.setCell (Ad C 2) (Im i)) C):=⟨⟨A,q,g.kC i⟩,j.trans (Gk.free _ _ _)⟩;clear g j n;go_wp2_with fail;go_end0;exact⟨rfl,s.out⟩
 .rw[jg p];have O:(o !=slot)=true:=by simp[p]
  go_enter func313,ntmps313;go_wp2_with fail;refine n.out.mono ?_;rintro K w1 ⟨rfl,g,j⟩;have B:=jA (Bf g 7 slot o (by omega));have H:=jA j;clear g j n;go_wp2_with fail;refine B.out.mono ?_;rintro W w2 ⟨rfl,⟨A,q,g⟩,j⟩;have J:=jJ 2 g.jM rfl;have M:=qV g.jM;have s:Hid (kG (w2.setCell (Ad C 2) (Im i)) C ((I.lay 7 [slot,o]).kC i)/\Gk w (w2.setCell (Ad C 2) (Im i)) C):=⟨⟨A,q,g.kC i⟩,(H.out.trans j).trans (Gk.free _ _ _)⟩;clear g j B H;go_wp2_with fail;go_end0;exact⟨rfl,s.out⟩
theorem ahF(h:kF e)(a i:Int){k:Int}(j:1<=k/\k<=1000001)(o:k<=1000000->1+e.jw<=k):qh (wY 327 329 a k (oD (e.here e.at')) (λG=>Im i::G) (ahE i e)):=by
 have U:=h.ok.jw;refine⟨Jf (by simp[o7]) (qW (h.ok.law _)) j,j.1,λc=>Jo (ahD h i),λc y=>?_,?_⟩
 .have y:=y;have O:=o y;have:=ahB (c:=c) h i (by omega);show(((c.store i e.does).code.length:Nat):Int)<=c.code.length+200 * k;omega
 rintro w lo hi T b C c ⟨Q,G,P,V,W,⟨u,rfl,z⟩,s⟩ N t p;cases P;have p:Room c (k):=p;have O:=o p.jw;obtain⟨I,J,rfl,_⟩:=h.ok.head _ _ _ _ _ z;have R:=jJ 2 s rfl;have S:=jJ 3 s rfl;have B:Hid (∀n,Calls prog 313 #[Pt C 0,Im i,.iface I (Pt J 0)] (w.drewN n) λr w'=>r=.returned (.tuple #[])/\kG w' C (c.store i e.does)/\Gk w w' C):=λn=>by
  have g:=lu w n;have gk:=Gk.grown g t.lt;refine(acW h ((h.ok.law _).gk z gk (by omega)) N (t.grow g) (p.less (by omega)) i).mono ?_;rintro r w' ⟨K,L,M⟩;exact⟨K,L,gk.trans M⟩
 refine⟨319,λw=>by kernel_rfl,λD w=>by kernel_rfl,?_⟩;clear z s t p;go_enter func319,ntmps319;go_wp2_with fail;refine nO 9 (by kernel_rfl) (by kernel_rfl) ?_;simp only[aC,aO,aG,aQ];repeat (go_big_quiet_step (fail))
 refine bF ?_;intro _ A;obtain⟨X,q⟩:=A;subst q;go_wp2_with fail;refine(B.out _).mono ?_;rintro r w1 ⟨rfl,E,F⟩;have H:=jA (jd E F);clear E F B;go_wp2_with fail;go_end0;exact⟨rfl,H.out⟩
theorem ahG(g:kF e)(a i:Int):qh (uQ a i e):=(ahF g a i ⟨yE (by simpa using g.ok.jw),(qx g.ok.jw).2⟩ (λj=>by rw[yU g.ok.jw.1 g.ok.jw.2 j];omega)).of (uO (by simp[o7]) (qW (g.ok.law _)) (qx g.ok.jw)) (λ_ _ _ _ h=>KX (Rh (g.ok.law _)) h) rfl rfl
theorem ag8(j:kF e)(t:Wd)(a:Int){k:Int}(p:1<=k/\k<=1000001)(q:k<=1000000->1+e.jw<=k):qh (wY 321 326 a k (oD (e.here e.at')) (λK=>.string t.text::Im t.at'::K) (ag7 t e)):=by
 obtain⟨h,ta⟩:=t;have ec:=j.ok.jw;refine⟨Jf (by simp[o7]) (qW (j.ok.law _)) p,p.1,λc=>Jo (ahD j _),λc A=>?_,?_⟩
 .have A:=A;have U:=q A;have:=ahB (c:=c) j (c.wK h) (by omega);show(((c.store (c.wK h) e.does).code.length:Nat):Int)<=c.code.length+200 * k;omega
 rintro w lo hi T b C c ⟨X,K,W,h1,h2,⟨u,rfl,B⟩,z⟩ Q r n;cases W;have n:Room c (k):=n;have U:=q n.jw;have V:=n.jy;obtain⟨E,G,rfl,_⟩:=j.ok.head _ _ _ _ _ B;have L:=r.lt;have Y:∀x:Ext w,x.val.cell? (Ad b 2)=some (.string h):=λx=>jG ((x.grown.block b (by omega) (by simp)).trans z);have Z:∀x:Ext w,x.val.cell? (Ad b 4)=some (.iface E (Pt G 0)):=λx=>jG ((x.grown.block b (by omega) (by simp)).trans z);have s:Hid (∀x:Ext w,Calls prog 314 #[Pt C 0,.string h] x.val λi w'=>i=.returned (Im (c.wK h))/\x.val.grownBy w' none):=λx=>acV (r.grow x.grown) h (by omega);have D:Hid (∀y,w.grownBy y none->Calls prog 313 #[Pt C 0,Im (c.wK h),.iface E (Pt G 0)] y λi w'=>i=.returned (.tuple #[])/\kG w' C (c.store (c.wK h) e.does)/\Gk w w' C):=λy g=>by
  have gk:=Gk.grown g L;refine(acW j ((j.ok.law _).gk B gk (by omega)) Q (r.grow g) (n.less (by omega)) (c.wK h)).mono ?_;rintro i w' ⟨N,O,P⟩;exact⟨N,O,gk.trans P⟩
 refine⟨310,λw=>by kernel_rfl,λF w=>by kernel_rfl,?_⟩;clear B z r n;show Calls prog 310 #[Pt b 0,Pt C 0] w λi w'=>i=.returned (.tuple #[])/\kG w' C (c.store (c.wK h) e.does)/\Gk w w' C;generalize c.store (c.wK h) e.does=R at *;generalize c.wK h=sl at *;go_enter func310,ntmps310;go_wp2_with fail;have S:=Qs w;refine TQ 12 (by kernel_rfl) (by kernel_rfl) ?_;simp only[aC,aO,aG,aQ];repeat (go_big_quiet_step ((go_at_call 314;exact Calls.Vg (s.out _))))
 refine bF ?_;intro w' H;have o:=jA (D.out w' H);clear D H;go_wp2_with fail;refine o.out.mono ?_;rintro i w1 ⟨rfl,I,J⟩;have M:=jA (jd I J);clear I J o;go_wp2_with fail;go_end0;exact⟨rfl,M.out⟩
theorem ag9(g:kF e)(t:Wd):qh (sV t e):=(ag8 g t t.at' ⟨yE (by simpa using g.ok.jw),(qx g.ok.jw).2⟩ (λi=>by rw[yU g.ok.jw.1 g.ok.jw.2 i];omega)).of (uO (by simp[o7]) (qW (g.ok.law _)) (qx g.ok.jw)) (λ_ _ _ _ h=>KX (Rh (g.ok.law _)) h) rfl rfl
theorem agj(h:kF e)(n:kF f)(a:Int){k:Int}(s:1<=k/\k<=1000001)(t:k<=1000000->1+(e.jw+f.jw)<=k):qh (wY 333 335 a k (Bo (e.here e.at') (f.here f.at')) (λus=>us) (XK e f)):=by
 have ec:=h.ok.jw;have fc:=n.ok.jw;refine⟨Jf (by simp[o7]) (Rk (h.ok.law _) (n.ok.law _)) s,s.1,λc=>Jo ?_,λc H=>?_,?_⟩
 .show(f.does.give (e.does.give c (-1)).1 (-1)).1.jy=c.jy;rw[n.jy,h.jy]
 .have H:=H;have hp:=t H;have h1:=h.len c (-1) (by omega);have h2:=n.len (e.does.give c (-1)).1 (-1) (by omega);have h3:=oN (f.does.give (e.does.give c (-1)).1 (-1)).1 36 [(e.does.give c (-1)).2,(f.does.give (e.does.give c (-1)).1 (-1)).2];simp only[aF,bg]at h3;show((((f.does.give (e.does.give c (-1)).1 (-1)).1.lay 36 [(e.does.give c (-1)).2,(f.does.give (e.does.give c (-1)).1 (-1)).2]).code.length:Nat):Int)<=c.code.length+200 * k;omega
 rintro w lo hi T b C c ⟨b',us,hv,h1,h2,⟨u,v,rfl,M,o⟩,F⟩ hC V i;cases hv;have i:Room c (k):=i;have hp:=t i.jw;have J:=i.code;have L:=i.jy;have K:=i.jw;obtain⟨T1,b1,rfl,_⟩:=h.ok.head _ _ _ _ _ M;obtain⟨T2,b2,rfl,_⟩:=n.ok.head _ _ _ _ _ o;obtain⟨R,m1,X,q⟩:=h.give _ _ _ _ _ _ C c (-1) M (by omega) V (i.less (by omega));have X:∀g w,(callFunc R g).run prog w=.ok (.enter R g) w:=X;have q:=jA (q);have I:=h.len c (-1) (by omega);have A:=h.jy c (-1);have p:Hid (kF f/\f.here f.at' w lo hi (.iface T2 (Pt b2 0))/\Room (e.does.give c (-1)).1 f.jw):=⟨n,o,⟨by omega,by omega,by rw[A];omega⟩⟩;have z:=n.NH p.out.2.2 (-1);have d2:=jJ 2 F rfl;have d3:=jJ 3 F rfl;obtain⟨v0,Lc,U⟩:=V;have c2:=jJ 2 U.jM rfl;have G:b<C:=by omega
 refine⟨328,λw=>by kernel_rfl,λg w=>by kernel_rfl,?_⟩;clear U M o i I A F J L K;show Calls prog 328 #[Pt b 0,Pt C 0] w λen w'=>en=.returned (.tuple #[])/\kG w' C (((f.does.give (e.does.give c (-1)).1 (-1)).1.lay 36 [(e.does.give c (-1)).2,(f.does.give (e.does.give c (-1)).1 (-1)).2]).kC c.free)/\Gk w w' C;generalize e.does.give c (-1)=x at *;obtain⟨xc,O⟩:=x;simp only at q p z⊢;generalize W:f.does.give xc (-1)=y at *;have HY:=jA W;clear W;obtain⟨yc,P⟩:=y;simp only at z⊢;generalize aa:c.free=B at *;go_enter func328,ntmps328;go_wp2_with fail;refine q.out.mono ?_;rintro e1 w1 ⟨rfl,p1,E⟩;have k3:=(E.cell G).trans d3;obtain⟨S,m2,qC,r⟩:=p.out.1.give _ _ _ _ _ _ C xc (-1) ((p.out.1.ok.law _).gk p.out.2.1 E (by omega)) (by omega) p1 p.out.2.2;have qC:∀g w,(callFunc S g).run prog w=.ok (.enter S g) w:=qC;rw[HY.out]at r;have r:=jA (r);have Y:Hid (Gk w w1 C):=E;clear p1 E q;go_wp2_with fail;refine r.out.mono ?_;rintro e2 w2 ⟨rfl,p2,q2⟩;have Q:=jA (Bf p2 36 O P (by omega));have Z:Hid (Gk w w2 C):=Y.out.trans q2;clear p2 q2 r Y;go_wp2_with fail;refine Q.out.mono ?_;rintro e3 w3 ⟨rfl,⟨v3,N,D⟩,q3⟩;have k2:w3.cell? (Ad C 2)=some (Im (yc.lay 36 [O,P]).free):=jG D.jM;have fz:∀j,w3.frozen? (Ad C j)=false:=λj=>nA D.jM;have HE:Hid (kG (w3.setCell (Ad C 2) (Im B)) C ((yc.lay 36 [O,P]).kC B)/\Gk w (w3.setCell (Ad C 2) (Im B)) C):=⟨⟨v3,N,D.kC B⟩,(Z.out.trans q3).trans (Gk.free _ _ _)⟩;clear D q3 Q Z
 go_wp2_with fail;go_end0;exact⟨rfl,HE.out⟩
theorem agk(g:kF e)(i:kF f)(a:Int):qh (sQ a e f):=(agj g i a ⟨yE (by simp;exact⟨g.ok.jw,i.ok.jw⟩),(rO g.ok.jw i.ok.jw).2⟩ (λj=>by rw[Ap g.ok.jw.1 g.ok.jw.2 i.ok.jw.1 i.ok.jw.2 j];omega)).of (uO (by simp[o7]) (wU (g.ok.law _) (i.ok.law _)) (rO g.ok.jw i.ok.jw)) (λ_ _ _ _ h=>KX (ad9 (g.ok.law _) (i.ok.law _)) h) rfl rfl
theorem aeI(q:kF e)(a:Int)(t:Wd){k:Int}(G:1<=k/\k<=1000001)(H:k<=1000000->1+e.jw<=k):qh (wY 331 332 a k (oD (e.here e.at')) (λS=>.string t.text::Im t.at'::S) (RI t e)):=by
 obtain⟨o,D⟩:=t;have ec:=q.ok.jw;have N:∀c,(wY 331 332 a k (oD (e.here e.at')) (λS=>.string (⟨o,D⟩:Wd).text::Im (⟨o,D⟩:Wd).at'::S) (RI ⟨o,D⟩ e)).does.lay c=((if (e.does.give c (-1)).2=c.free then (e.does.give c (-1)).1 else (e.does.give c (-1)).1.lay 7 [c.free,(e.does.give c (-1)).2]).kC (wrap64 (c.free+1))).know o c.free:=λ_=>rfl;refine⟨Jf (by simp[o7]) (qW (q.ok.law _)) G,G.1,λc=>⟨[(o,c.free)],?_,by simp⟩,λc W=>?_,?_⟩
 .rw[N];show(if (e.does.give c (-1)).2=c.free then (e.does.give c (-1)).1 else (e.does.give c (-1)).1.lay 7 [c.free,(e.does.give c (-1)).2]).jy++[(o,c.free)]=_
  congr 1
  split
  .exact q.jy c (-1)
  .exact q.jy c (-1)
 .have W:=W;have hp:=H W;have h1:=q.len c (-1) (by omega);have h2:=oN (e.does.give c (-1)).1 7 [c.free,(e.does.give c (-1)).2];simp only[aF,bg]at h2;rw[N];show((if (e.does.give c (-1)).2=c.free then (e.does.give c (-1)).1 else (e.does.give c (-1)).1.lay 7 [c.free,(e.does.give c (-1)).2]).code.length:Int)<=c.code.length+200 * k;split<;>omega
 rintro w lo hi T b C c ⟨b',S,hv,h1,h2,⟨u,rfl,Y⟩,B⟩ hC hc A;cases hv;have A:Room c (k):=A;have hp:=H A.jw;have X:=A.jy;obtain⟨T1,b1,rfl,_⟩:=q.ok.head _ _ _ _ _ Y;obtain⟨f1,m1,kM,s⟩:=q.give _ _ _ _ _ _ C c (-1) Y (by omega) hc (A.less (by omega));have kM:∀i w,(callFunc f1 i).run prog w=.ok (.enter f1 i) w:=kM;have s:=jA (s);have hl:=q.NH (A.less (by omega):Room c e.jw) (-1);have z:(e.does.give c (-1)).1.jy.length<=3000000:=by rw[q.jy];omega
 obtain⟨v0,Lc,h0⟩:=hc;have c2:=jJ 2 h0.jM rfl;have d4:=jJ 4 B rfl;have F:b<C:=by omega
 have R:Hid (∀y,Gk w y C->y.cell? (Ad b 2)=some (.string o)/\y.cell? (Ad b 3)=some (Im D)):=λy P=>⟨(P.cell F).trans (jG B),(P.cell F).trans (jG B)⟩;refine⟨322,λw=>by kernel_rfl,λi w=>by kernel_rfl,?_⟩;rw[N];clear h0 Y A B N X;generalize e.does.give c (-1)=r at *;obtain⟨rc,L⟩:=r;simp only at s hl z⊢;generalize aa:c.free=g at *;have Q:Hid (∀E y,kG y C E->E.jy.length<=3000000->Gk w y C->(∃u,y.cell? (Ad C 2)=some u)/\(∀j,y.frozen? (Ad C j)=false)/\Gk w (y.setCell (Ad C 2) (Im (wrap64 (g+1)))) C/\Calls prog 324 #[Pt C 0,.agg #[.string o,Im D],Im g] (y.setCell (Ad C 2) (Im (wrap64 (g+1)))) λM w'=>M=.returned (.tuple #[])/\kG w' C ((E.kC (wrap64 (g+1))).know o g)/\Gk w w' C):=λE y hg hn P=>by
  obtain⟨v1,Am,h⟩:=hg;have I:=P.trans (Gk.free y (Im (wrap64 (g+1))) C);refine⟨⟨_,jG h.jM⟩,λj=>nA h.jM,I,(Vu ⟨v1,Am,h.kC _⟩ o D g (by show E.jy.length<=_;omega)).mono ?_⟩;rintro M w' ⟨V,e2,e3⟩;exact⟨V,e2,I.trans e3⟩
 by_cases O:L=g
 .rw[jh O];have B:(L !=g)=false:=by simp[O]
  go_enter func322,ntmps322;go_wp2_with fail;refine s.out.mono ?_;rintro V w1 ⟨rfl,h,n⟩;obtain⟨⟨uu,k2⟩,fz,z1,p⟩:=Q.out rc w1 h z n;obtain⟨y2,y3⟩:=R.out w1 n;have nb:¬b=C:=by omega
  have p:=jA p;clear h n s z1 Q R;go_wp2_with fail;refine p.out.mono ?_;rintro M w3 ⟨rfl,J,K⟩;have U:=jA (jd J K);clear J K p;go_wp2_with fail;go_end0;exact⟨rfl,U.out⟩
 .rw[jg O];have B:(L !=g)=true:=by simp[O]
  go_enter func322,ntmps322;go_wp2_with fail;refine s.out.mono ?_;rintro V w1 ⟨rfl,h,n⟩;have HL:=jA (Bf h 7 g L (by omega));have Z:=jA n;clear h n s;go_wp2_with fail;refine HL.out.mono ?_;rintro e2 w2 ⟨rfl,h,n⟩;obtain⟨⟨uu,k2⟩,fz,z1,p⟩:=Q.out (rc.lay 7 [g,L]) w2 h z (Z.out.trans n);obtain⟨y2,y3⟩:=R.out w2 (Z.out.trans n);have nb:¬b=C:=by omega
  have p:=jA p;clear h n z1 Q R HL Z;go_wp2_with fail;refine p.out.mono ?_;rintro M w3 ⟨rfl,J,K⟩;have U:=jA (jd J K);clear J K p;go_wp2_with fail;go_end0;exact⟨rfl,U.out⟩
theorem aeJ(g:kF e)(a:Int)(t:Wd):qh (sF a t e):=(aeI g a t ⟨yE (by simpa using g.ok.jw),(qx g.ok.jw).2⟩ (λi=>by rw[yU g.ok.jw.1 g.ok.jw.2 i];omega)).of (uO (by simp[o7]) (qW (g.ok.law _)) (qx g.ok.jw)) (λ_ _ _ _ h=>KX (Rh (g.ok.law _)) h) rfl rfl
end
section
variable {w w' w1 w2 w3 w4:jk}{C lo hi b d m k:Nat}{c:Ck}{u v:jm}{e f:Ex}{a:Int}{T:jo}{x:Sx}
theorem atm(h:mg k e)(hk:k<=10000 * d)(t:Wd):AQ d (sV t e):=by
 obtain⟨j,i⟩:=t;refine⟨atn _ h.ok,λc=>Lr ?_,?_⟩
 .show((e.does.look (if (lJ c.jy j).isVar then c else c.fail 2 i)).want (e.does.jZ (if (lJ c.jy j).isVar then c else c.fail 2 i).jy) e.at' (lJ c.jy j).kind).jy=c.jy;rw[wL,h.jy];split
  .rfl
  .exact J4 _ _ _
 rintro w lo hi T b C c ⟨b',us,hv,h1,h2,⟨u,rfl,hu⟩,hb⟩ hC hc hn;cases hv;have Af:=hc.lt;obtain⟨M,A,rfl,ad,_⟩:=h.ok.head _ _ _ _ _ hu;have c2:=jJ 2 hb rfl;have HF:Hid (Calls prog 315 #[Pt C 0,.string j] w λy w'=>y=.returned (.agg #[.string (lJ c.jy j).name,Im (lJ c.jy j).kind,.bool (lJ c.jy j).isVar])/\w.grownBy w' none):=U6 hc j (by omega);have s:Hid (mg k e/\hi<=C/\c.jy.length+k<=899999/\e.here e.at' w lo b (.iface M (Pt A 0))):=⟨h,hC,by omega,hu⟩;have S:=jA hb;have JB:=jA (λw' (hg:w.grownBy w' none) o=>jd (hc.grow (hg.trans (ah w' o none))) (jd (Dt.new (hc.grow hg) o) (Lk.grown (hg.trans (ah w' o none)) Af)));refine⟨311,λw=>by kernel_rfl,λg w=>by kernel_rfl,?_⟩;have V:Hid (∀q w1 w2 Z,Z=(if (lJ c.jy j).isVar then c else c.fail 2 i)->Lk w q 0 0 C->og e e.at' q w1 lo b (.iface M (Pt A 0)) A C Z->Lk w1 w2 0 0 C->kV w2 C ((e.does.look Z).want (e.does.jZ Z.jy) e.at' (lJ c.jy j).kind)->(sV ⟨j,i⟩ e).here w2 lo hi (.iface 321 (Pt b 0))/\kV w2 C ((sV ⟨j,i⟩ e).does.look c)/\Lk w w2 lo hi C):=λq w1 w2 Z ae q0 q1 q2 q3=>by
  subst ae;exact WG s.out.1.ok h1 h2 s.out.2.1 S.out q0 q1 q2 q3
 have F:b<C:=by omega
 clear hu hb hc hn hC h ad;generalize lJ c.jy j=r at *;obtain⟨rt,J,rv⟩:=r;simp only at HF V;have aa:(c.fail 2 i).jy=c.jy:=J4 _ _ _;have ac:Hid ((c.fail 2 i).jy=c.jy):=aa;clear aa;cases rv with
 |true=>
  simp only[dM]at V;go_enter func311,ntmps311;go_wp2_with fail;refine HF.out.mono ?_;rintro y q ⟨rfl,N⟩;have p:=JB.out q N (.cells #[.string rt,Im J,.bool true] 446);have z:=(N.block b (by omega) (by simp)).trans S.out;have d3:=jJ 3 z rfl;have d4:=jJ 4 z rfl;have n0:¬b=q.heap.size:=by have:=lT z;omega
  have n1:=lT z;generalize hW:q.alloc (.cells #[.string rt,Im J,.bool true] 446)=W at *;have HX:=jA p;have D:=(p.2.2.keep b F (je (bD _))).trans S.out;have Un:=jA hW;have G:=(s.out.1.ok.law _).lk s.out.2.2.2 p.2.2 (by omega) (je (bD _));obtain⟨Q,m1,kM,K⟩:=s.out.1.look _ _ _ _ _ _ C _ G (by omega) p.1 (by have:=s.out.2.2.1;omega);have kM:∀g w,(callFunc Q g).run prog w=.ok (.enter Q g) w:=kM;have K:=jA K;have L:=jA D;clear p D G hW N z;go_wp2_with fail;rw[Un.out];refine K.out.mono ?_;rintro y w1 ⟨rfl,H⟩;have B:=HX.out.2.1.lk H.keep;have E:=(H.keep.keep b F (je (aj _))).trans L.out;have e4:=jJ 4 E rfl;have x1:=jJ 1 B.at' rfl;have Uo:=jA (λn=>H.want s.out.1.ok J n);have HL:=jA H;clear H B E K;go_wp2_with fail;refine nO 7 (by kernel_rfl) (by kernel_rfl) ?_;simp only[aC,aO,aG,aQ];repeat (go_big_quiet_step (fail))
  refine bF ?_;intro _ P;obtain⟨n3,I⟩:=P;subst I;go_wp2_with fail;refine(Uo.out _).mono ?_;rintro y w2 ⟨rfl,p1,p2⟩;have HE:=jA (V.out _ _ _ _ rfl HX.out.2.2 HL.out p2 p1);clear p1 p2;go_wp2_with fail;go_end0;exact⟨rfl,HE.out⟩
 |false=>
  simp only[aH,cZ]at V;go_enter func311,ntmps311;go_wp2_with fail;refine HF.out.mono ?_;rintro y q ⟨rfl,N⟩;have p:=JB.out q N (.cells #[.string rt,Im J,.bool false] 446);have z:=(N.block b (by omega) (by simp)).trans S.out;have d3:=jJ 3 z rfl;have d4:=jJ 4 z rfl;have n0:¬b=q.heap.size:=by have:=lT z;omega
  have n1:=lT z;generalize hW:q.alloc (.cells #[.string rt,Im J,.bool false] 446)=W at *;have HX:=jA p;have D:=(p.2.2.keep b F (je (bD _))).trans S.out;have Un:=jA hW;have U:=jA (NC p.1 2 i);have L:=jA D;clear p D hW N z;go_wp2_with fail;rw[Un.out];refine U.out.mono ?_;rintro y R ⟨rfl,p3,p4⟩;have p:=HX.out;have Y:=p.2.1.lk p4;have O:=(p4.keep b F (je (bD _))).trans L.out;have f4:=jJ 4 O rfl;have X:Hid (Dt R C q.heap.size (.cells #[.string rt,Im J,.bool false] 446)/\Lk w R 0 0 C):=⟨Y,p.2.2.trans p4⟩;have ab:Hid (R.heap[b]? =some (.cells (Im i::Im (jS [e.jw])::[.string j,Im i,.iface M (Pt A 0)]).toArray 326)):=O;have G:=(s.out.1.ok.law _).lk s.out.2.2.2 (p.2.2.trans p4) (by omega) (je (bD _));obtain⟨Q,m1,kM,K⟩:=s.out.1.look _ _ _ _ _ _ C _ G (by omega) p3 (by rw[ac.out];have:=s.out.2.2.1;omega);have kM:∀g w,(callFunc Q g).run prog w=.ok (.enter Q g) w:=kM;have K:Hid (Calls prog Q #[Pt A 0,Pt C 0] R λy w'=>y=.returned (.tuple #[])/\og e e.at' R w' lo b (.iface M (Pt A 0)) A C (c.fail 2 i)):=K;clear p G p3 p4 Y O U;go_wp2_with fail;refine K.out.mono ?_;rintro y w1 ⟨rfl,H⟩;have B:=X.out.1.lk H.keep;have E:=(H.keep.keep b F (je (aj _))).trans ab.out;have e4:w1.cell? (Ad b 4)=some (.iface M (Pt A 0)):=jG E;have x1:w1.cell? (Ad q.heap.size 1)=some (Im J):=jG B.at'
  have Uo:Hid (∀n,Calls prog 317 #[Pt C 0,.iface M (Pt A 0),Im J] (w1.drewN n) λy w2=>y=.returned (.tuple #[])/\kV w2 C ((e.does.look (c.fail 2 i)).want (e.does.jZ (c.fail 2 i).jy) e.at' J)/\Lk w1 w2 0 0 C):=λn=>H.want s.out.1.ok J n;have HL:Hid (og e e.at' R w1 lo b (.iface M (Pt A 0)) A C (c.fail 2 i)):=H;clear H B E K;go_wp2_with fail;refine nO 7 (by kernel_rfl) (by kernel_rfl) ?_;simp only[aC,aO,aG,aQ];repeat (go_big_quiet_step (fail))
  refine bF ?_;intro _ P;obtain⟨n3,I⟩:=P;subst I;go_wp2_with fail;refine(Uo.out _).mono ?_;rintro y w2 ⟨rfl,p1,p2⟩;have HE:Hid ((sV ⟨j,i⟩ e).here w2 lo hi (.iface 321 (Pt b 0))/\kV w2 C ((sV ⟨j,i⟩ e).does.look c)/\Lk w w2 lo hi C):=V.out _ _ _ _ rfl X.out.2 HL.out p2 p1;clear p1 p2;go_wp2_with fail;go_end0;exact⟨rfl,HE.out⟩
theorem arz(t:mg k e)(A:mg k f)(hk:k<=10000 * d)(a:Int):AQ d (sQ a e f):=by
 refine⟨arA a t.ok A.ok,λc=>Lr ?_,?_⟩
 .show((f.does.look ((e.does.look c).want (e.does.jZ c.jy) e.at' 3)).want (f.does.jZ ((e.does.look c).want (e.does.jZ c.jy) e.at' 3).jy) f.at' 4).jy=c.jy;rw[wL,A.jy,wL,t.jy]
 rintro w lo hi T b C c ⟨b',us,hv,h1,h2,⟨m,u,v,rfl,y,q,U,r⟩,O⟩ hC S hn;cases hv;obtain⟨Z,L,M,rfl,aa,l1,l2,m1,V,E⟩:=t.use (C:=C) (c:=c) U (by omega) S (by omega);have V:∀g w,(callFunc M g).run prog w=.ok (.enter M g) w:=V;have E:Hid (Calls prog M #[Pt L 0,Pt C 0] w λo w'=>o=.returned (.tuple #[])/\og e e.at' w w' lo m (.iface Z (Pt L 0)) L C c):=E;obtain⟨R,K,rfl,ab,_⟩:=A.ok.head _ _ _ _ _ r;have c2:=jJ 2 O rfl;have Q:=jA O;have h:Hid (mg k e/\mg k f/\hi<=C/\c.jy.length+k<=900000/\f.here f.at' w m b (.iface R (Pt K 0))):=⟨t,A,hC,by omega,r⟩;refine⟨329,λw=>by kernel_rfl,λg w=>by kernel_rfl,?_⟩;clear U O S hn r t A;go_enter func329,ntmps329;go_wp2_with fail;refine E.out.mono ?_;rintro o w1 ⟨rfl,I⟩;have p:=(I.keep.keep b (by omega) (je q)).trans Q.out;have e2:=jJ 2 p rfl;have H:=jA (I.want h.out.1.ok 3 0);have G:=jA (jd I p);clear I p E;go_wp2_with fail;refine H.out.mono ?_;rintro o w2 ⟨rfl,D,j⟩;have i:=(j.keep b (by omega) (je (bD _))).trans G.out.2;have e3:=jJ 3 i rfl;have B:=(h.out.2.1.ok.law _).lk ((h.out.2.1.ok.law _).lk h.out.2.2.2.2 G.out.1.keep (by omega) (je (aj _))) j (by omega) (je (bD _));have z:((e.does.look c).want (e.does.jZ c.jy) e.at' 3).jy=c.jy:=by rw[wL,h.out.1.jy]
 obtain⟨N,m2,X,F⟩:=h.out.2.1.look _ _ _ _ _ _ C _ B (by omega) D (by rw[z];exact h.out.2.2.2.1);have X:∀g w,(callFunc N g).run prog w=.ok (.enter N g) w:=X;have F:Hid (Calls prog N #[Pt K 0,Pt C 0] w2 λo w'=>o=.returned (.tuple #[])/\og f f.at' w2 w' m b (.iface R (Pt K 0)) K C ((e.does.look c).want (e.does.jZ c.jy) e.at' 3)):=F;have P:=jA (jd j i);clear D j i B z H;go_wp2_with fail;refine F.out.mono ?_;rintro o w3 ⟨rfl,J⟩;have s:=(J.keep.keep b (by omega) (je (aj _))).trans P.out.2;have e5:=jJ 3 s rfl;have H:=jA (J.want h.out.2.1.ok 4 0);have n:=jA J;clear J s F;go_wp2_with fail;refine H.out.mono ?_;rintro o w4 ⟨rfl,D,j⟩;have Y:Hid ((sQ a e f).here w4 lo hi (.iface 333 (Pt b 0))/\kV w4 C ((sQ a e f).does.look c)/\Lk w w4 lo hi C):=by
  have W:=((G.out.1.keep.wide (aj _) q).trans (P.out.1.all _ _)).trans ((n.out.keep.wide y (aj _)).trans (j.all _ _));have i:=(W.keep b (by omega) (je (aj _))).trans Q.out;have q1:=(h.out.1.ok.law _).lk G.out.1.here P.out.1 (by omega) (je (bD _));have q2:=(h.out.1.ok.law _).lk q1 n.out.keep (by omega) (jf (aj _));have q3:=(h.out.1.ok.law _).lk q2 j (by omega) (je (bD _));have q4:=(h.out.2.1.ok.law _).lk n.out.here j (by omega) (je (bD _));exact⟨⟨b,_,rfl,h1,h2,⟨m,_,_,rfl,y,q,q3,q4⟩,i⟩,D,W.wide (aj _) (by omega)⟩
 clear D j;go_wp2_with fail;go_end0;exact⟨rfl,Y.out⟩
end
section
variable {w w' w1 w2 w3 w4:jk}{C lo hi b d m k:Nat}{c:Ck}{u v:jm}{e f:Ex}{a:Int}{T:jo}{x:Sx}{l:List jI}
theorem Ym{g:Nat}:∀{h:List jI}{w:jk}{lo hi i:Nat}{j:List jm}{b:jI},(∀b∈h,Lawful b.here)->tJ g h w lo hi j->h[i]? =some b->
 ∃l m u,j[i]? =some u/\lo<=l/\l<=m/\m<=hi/\(g<l\/m<=g)/\b.here w l m u/\∀w',(∀k,lo<=k->k<hi->k<l\/m<=k->w'.heap[k]? =w.heap[k]?)->b.here w' l m u->tJ g h w' lo hi j
 |[],_,_,_,_,_,_,_,_,hb=>by simp at hb
 |b0::h,w,lo,hi,0,j,b,hl,⟨l,m,u,us',h0,h1,h2,h3,h4,h5,h6⟩,hb=>by
  simp only[dw,bJ]at hb;subst hb h0;refine⟨l,m,u,rfl,h1,h2,h3,h4,h5,λw' n q=>⟨l,m,u,us',rfl,h1,h2,h3,h4,q,?_⟩⟩;exact LK (λc p=>hl c (aI _ p)) h6 (λk r o=>n k (by omega) o (je r))
 |b0::h,w,lo,hi,i+1,j,b,hl,⟨l,m,u,us',h0,h1,h2,h3,h4,h5,h6⟩,hb=>by
  subst h0;obtain⟨t,y,G,z,H,A,B,D,E,F⟩:=Ym (i:=i) (λc p=>hl c (aI _ p)) h6 (by simpa using hb);refine⟨t,y,G,by simpa using z,by omega,A,B,D,E,λw' n q=>⟨l,m,u,us',rfl,h1,h2,h3,h4,?_,F w' (λk r o s=>n k (by omega) o s) q⟩⟩;exact(hl b0 (aW ..)).loc _ _ _ _ _ h5 (λk r o=>n k (by omega) (by omega) (jf (by omega)))
def oJ(l:List jI)(c:Ck):Ck:=l.foldl (λc s=>s.does.look c) c
theorem aoS(l:List jI)(c:Ck)(i:Nat)(s:jI)(h:l[i]? =some s):oJ (l.take (i+1)) c=s.does.look (oJ (l.take i) c):=by
 have g:l.take (i+1)=l.take i++[s]:=by rw[fU,h];rfl
 rw[g];unfold oJ;rw[dV]
 rfl
theorem WU:∀(l:List jI)(c:Ck),(∀s∈l,AQ d s)->∃g,(oJ l c).jy=c.jy++g/\g.length<=l.length
 |[],c,_=>⟨[],by simp[oJ],aj _⟩
 |s::l,c,h=>by
  obtain⟨o,i,r⟩:=(h s (aW ..)).jy c;obtain⟨p,j,t⟩:=WU l (s.does.look c) (λq n=>h q (aI _ n));refine⟨o++p,?_,by simp only[aA,aF];omega⟩;show(oJ l (s.does.look c)).jy=_;rw[j,i,bY]
structure zY(d:Nat)(l:List jI):Prop where
 ok:∀s∈l,oI s
 jy:∀c,(qK l c).jy=c.jy
 look:∀w lo hi v C c,mY l w lo hi v->hi<=C->kV w C c->c.jy.length+10000 * d<=800000->Calls prog 89 #[Pt C 0,v] w λen w'=>en=.returned (.tuple #[])/\mY l w' lo hi v/\kV w' C (qK l c)/\Lk w w' lo hi C
structure TR(l:List jI)(g:Nat)(w wr:jk)(lo hi C:Nat)(us:List jm)(arr:Array jm)(c:Ck)(i:Nat):Prop where
 row:wr.heap[g]? =some (.cells arr 192)
 tH:tJ g l wr lo hi us
 ck:kV wr C (oJ (l.take i) c)
 keep:Lk w wr lo hi C
theorem kV.back{n:Nat}(h:kV w C c)(y:n<=c.jy.length):∃a i,w.cell? (Ad C 0)=some (.slice a c.jy.length i)/\(∀j,w.frozen? (Ad C j)=false)/\n<=i/\kV (w.setCell (Ad C 0) (.slice a n i)) C (c.cut n)/\Lk w (w.setCell (Ad C 0) (.slice a n i)) 0 0 C:=by
 obtain⟨v,q⟩:=h;obtain⟨a,i,rfl⟩:=BG q.row;have o:=jJ 0 q.jM rfl;refine⟨a,i,o,λj=>nA q.jM,?_,⟨_,q.cut y⟩,?_⟩
 .rcases q.row with⟨_,⟨s,z⟩|⟨g,r,t,s,_,_,A,_⟩⟩
  .omega
  .cases s;omega
 .exact Lk.named (v:=.slice a c.jy.length i) (aN _ _) q.lt o (λk p=>by have:=(q.row.lt k p).1;omega) (λk p=>jf (afR p))
theorem aoT(h:∀s∈l,AQ d s)(c:Ck):(qK l c).jy=c.jy:=by
 obtain⟨g,e,_⟩:=WU l c h;show((oJ l c).cut c.jy.length).jy=c.jy;unfold Ck.cut;rw[e];simp
theorem aek(h:∀s∈l,AQ d s)(ag:l.length<=5000):zY d l:=by
 refine⟨λs G=>(h s G).ok,aoT h,?_⟩;intro w lo hi v C c hh hC L hn;rcases hh with⟨rfl,rfl⟩|⟨g,B,U,t,rfl,g1,g2,M,hg,A⟩
 .obtain⟨P,o,b1,b2,b3,Q,R⟩:=L.back (aj _);have V:Hid (mY [] (w.setCell (Ad C 0) (.slice P c.jy.length o)) lo hi (Nl)/\kV (w.setCell (Ad C 0) (.slice P c.jy.length o)) C (qK [] c)/\Lk w (w.setCell (Ad C 0) (.slice P c.jy.length o)) lo hi C):=⟨jf ⟨rfl,rfl⟩,Q,R.all _ _⟩;have i0:(0:Int)<=(c.jy.length:Int):=by omega
  have i1:(c.jy.length:Int)<=(o:Int):=by omega
  clear L Q R hn;generalize c.jy.length=y at *;go_enter func89,ntmps89;go_wp2_with fail;refine wp_loop_rounds 1 ?_;rw[rounds_succ];go_wp2_with fail;go_end0;exact⟨rfl,V.out⟩
 .obtain⟨P,o,b1,b2,b3,Q,R⟩:=L.back (aj _);have H:=jA (jd h (jd hn (jd A (jd hC (jd g1 g2)))));have HO:Hid (TR l g w w lo hi C U t c 0):=⟨hg,M,L,Lk.refl _ _ _ _⟩;clear M hg A h hn L b2 b3 Q R;obtain⟨y,F⟩:∃y,c.jy.length=y:=⟨_,rfl⟩;have yj:=jA F;rw[F]at b1;clear F;go_enter func89,ntmps89;go_wp2_with fail;go_loopg [14] (l.length+1) (λgg i wr=>Hid (∃k:Nat,k+gg=l.length+1/\k<=l.length/\i=Im k/\TR l g w wr lo hi C U t c k))
  case atStart=>exact⟨0,by omega,bD _,rfl,HO.out⟩
  case round=>
   obtain⟨k,ae,af,rfl,q⟩:=hrel.out;clear hrel HO;obtain⟨O,n,E⟩:=WU (d:=d) (l.take k) c (λs G=>H.out.1 s (dS G));have I:O.length<=5000:=by rw[gI]at E;omega
   by_cases ab:k<l.length
   .have d1:decide ((k:Int)<(l.length:Int))=true:=by simp;omega
    have i0:(0:Int)<=(k:Int):=by omega
    have i1:(k:Int)<(l.length:Int):=by omega
    have r:l[k]? =some l[k]:=by simp
    have hQ:=H.out.1 l[k] (fG ab);obtain⟨q1,S,q3,q4,q5⟩:=H.out.2;obtain⟨l',m',u',e0,e1,e2,e3,e4,Y,e6⟩:=Ym (λs G=>(H.out.1 s G).ok.law) q.tH r;obtain⟨T1,J,ac,_⟩:=hQ.ok.head _ _ _ _ Y;subst ac;have k0:wr.cell? (Ad g k)=some (.iface T1 (Pt J 0)):=(jG q.row).trans (S _ _ e0);obtain⟨f1,m1,kM,H1⟩:=hQ.look _ _ _ _ _ C _ Y (by omega) q.ck (by rw[n,aA];omega);have kM:∀z w,(callFunc f1 z).run prog w=.ok (.enter f1 z) w:=kM;have rU:Hid (Calls prog f1 #[Pt J 0,Pt C 0] wr λZ w'=>Z=.returned (.tuple #[])/\TR l g w w' lo hi C U t c (k+1)):=H1.mono λZ w' ⟨r1,r2,r3,r4⟩=>by
     refine⟨r1,(r4.keep g (by omega) (by omega)).trans q.row,e6 w' (λj j1 j2 j3=>r4.keep j (by omega) j3) r2,?_,q.keep.trans (r4.wide (by omega) (by omega))⟩;rw[aoS _ _ _ _ r];exact r3
    obtain⟨g',ad⟩:∃g',gk=g'+1:=⟨gk-1,by omega⟩;clear r hQ q1 S q3 q4 q5 e0 e1 e2 e3 e4 Y e6 q H1 n E I;go_wp2_with fail;refine rU.out.mono ?_;rintro Z w2 ⟨rfl,K⟩;have W:=jA K;clear K rU;go_wp2_with fail;go_roundg g'
    case measure=>omega
    case rel=>exact⟨k+1,by omega,by omega,by go_num,W.out⟩
   .have d1:decide ((k:Int)<(l.length:Int))=false:=by simp;omega
    have D:=q.ck;have N:l.take k=l:=eU (by omega);rw[N]at D n;have aa:y<=(oJ l c).jy.length:=by rw[n,aA,yj.out];omega
    obtain⟨X,p,z1,z2,z3,z4,z5⟩:=D.back aa;have V:Hid (mY l (wr.setCell (Ad C 0) (.slice X y p)) lo hi (.slice (some (Ad g 0)) l.length B)/\kV (wr.setCell (Ad C 0) (.slice X y p)) C (qK l c)/\Lk w (wr.setCell (Ad C 0) (.slice X y p)) lo hi C):=by
     obtain⟨q1,S,q3,q4,q5⟩:=H.out.2;have IW:Lawful (mY l):=Rz λs G=>(H.out.1 s G).ok.law;have h0:mY l wr lo hi (.slice (some (Ad g 0)) l.length B):=je ⟨g,B,U,t,rfl,q4,q5,q.tH,q.row,S⟩;refine⟨IW.lk h0 z5 (by omega) (je (bD _)),?_,q.keep.trans (z5.all _ _)⟩;show kV _ C ((oJ l c).cut c.jy.length);rw[yj.out];exact z4
    clear q D N n E I z4 z5;have j0:(0:Int)<=(y:Int):=by omega
    have j1:(y:Int)<=(p:Int):=by omega
    generalize (oJ l c).jy.length=nn at *;go_wp2_with fail;go_end0;exact⟨rfl,V.out⟩
end
section
variable {w w' w1 w2:jk}{C lo hi b:Nat}{c:Co}{u v:jm}{l:List jI}
def lS(l:List jI):Int:=(l.map λs=>s.jw).sum
theorem CO{l:List jI}(h:∀s∈l,1<=s.jw):(l.length:Int)<=lS l:=by
 unfold lS;induction l with
 |nil=>simp
 |cons s l ih=>
  have i:=ih λx g=>h x (aI _ g);have j:=h s (aW ..);simp only[dL,gY,aF];omega
theorem acO:∀(l:List jI)(a:Int),(∀s∈l,1<=s.jw)->0<=a->l.foldl (λa e=>kZ [a,e.jw]) a<=1000000->l.foldl (λa e=>kZ [a,e.jw]) a=a+lS l
 |[],a,_,_,_=>by simp[lS]
 |s::l,a,h,ha,hk=>by
  have i:∀x∈l,1<=x.jw:=λx p=>h x (aI _ p);have q:=h s (aW ..);rw[bP]at hk⊢;have g:0<=kZ [a,s.jw]:=by
   unfold kZ;simp only[bP,eF];omega
  have j:=acO l (kZ [a,s.jw]) i g hk;have n:=CO i;rw[j]at hk⊢;have o:=FP (a:=a) (b:=s.jw) (by omega) (by omega);rw[o];simp only[lS,dL,gY]at n⊢;omega
theorem Ia(h:∀s∈l,1<=s.jw)(g:sumOf l<=1000000):sumOf l=lS l:=by
 have:=acO l 0 h (aV 0) g;unfold sumOf;omega
def qX(l:List jI)(c:Co):Co:=l.foldl (λc s=>s.does.lay c) c
theorem aor(l:List jI)(c:Co)(i:Nat)(s:jI)(h:l[i]? =some s):qX (l.take (i+1)) c=s.does.lay (qX (l.take i) c):=by
 have g:l.take (i+1)=l.take i++[s]:=by rw[fU,h];rfl
 rw[g];unfold qX;rw[dV]
 rfl
theorem Ox:∀(l:List jI)(c:Co),(∀s∈l,qh s)->(∃g,(qX l c).jy=c.jy++g/\g.length<=l.length)/\(lS l<=1000000->((qX l c).code.length:Int)<=c.code.length+200 * lS l)
 |[],c,_=>⟨⟨[],by simp[qX],by simp⟩,λ_=>by simp[qX,lS]⟩
 |s::l,c,h=>by
  have i:=h s (aW ..);have n:∀x∈l,qh x:=λx j=>h x (aI _ j);obtain⟨⟨z,B,F⟩,D⟩:=Ox l (s.does.lay c) n;obtain⟨y,A,E⟩:=i.jy c;have e:qX (s::l) c=qX l (s.does.lay c):=rfl;have p:=CO λx j=>(n x j).pos;have t:=i.pos;refine⟨⟨y++z,by rw[e,B,A,bY],by simp only[aA,aF];omega⟩,λq=>?_⟩;have r:s.jw+lS l<=1000000:=by simpa [lS]using q
  have G:=D (by omega);have H:=i.len c (by omega);rw[e];have o:lS (s::l)=s.jw+lS l:=by simp[lS]
  rw[o];omega
theorem acf(h:∀s∈l,1<=s.jw)(i:Nat)(s:jI)(j:l[i]? =some s):(i:Int)+s.jw<=lS l/\lS (l.take i)+s.jw<=lS l:=by
 have n:l=l.take i++s::l.drop (i+1):=by
  obtain⟨hi,q⟩:=List.getElem?_eq_some_iff.1 j;rw[<-q,<-dA hi,List.take_append_drop]
 have r:lS l=lS (l.take i)+(s.jw+lS (l.drop (i+1))):=by
  have:lS l=lS (l.take i++s::l.drop (i+1)):=by rw[<-n]
  rw[this];simp[lS]
 have t:=CO (l:=l.drop (i+1)) λx g=>h x (gU g);have o:=CO (l:=l.take i) λx g=>h x (dS g);have p:(l.take i).length=i:=by
  rw[gI];have:=(List.getElem?_eq_some_iff.1 j).1;omega
 rw[p]at o;omega
def wW(l:List jI):Hx.tk:=λw lo hi v=>
 (l=[]/\v=Nl)\/
 ∃g cap arr,v=.slice (some (Ad g 0)) l.length cap/\lo<=g/\g<hi/\w.heap[g]? =some (.cells arr 192)/\∀(k:Nat)(s:jI),l[k]? =some s->∃u,arr[k]? =some u/\s.here w lo hi u
theorem aoB(h:∀s∈l,Lawful s.here):Lawful (wW l):=by
 constructor
 .rintro w w' lo hi v n B;rcases n with n|⟨g,j,i,r,t,y,z,A⟩
  .exact jf n
  .refine je ⟨g,j,i,r,t,y,(B g t y).trans z,λk s o=>?_⟩;obtain⟨u,p,q⟩:=A k s o;exact⟨u,p,(h s (bT o)).loc _ _ _ _ _ q B⟩
 .rintro w lo hi G D v n E F;rcases n with n|⟨g,j,i,r,t,y,z,A⟩
  .exact jf n
  .refine je ⟨g,j,i,r,by omega,by omega,z,λk s o=>?_⟩;obtain⟨u,p,q⟩:=A k s o;exact⟨u,p,(h s (bT o)).wide _ _ _ _ _ _ q E F⟩
theorem aoC(h:∀s∈l,Lawful s.here){v:jm}(D:mY l w lo hi v):wW l w lo hi v:=by
 rcases D with A|⟨g,n,L,j,p,y,z,o,B,i⟩
 .exact jf A
 .refine je ⟨g,n,j,p,y,z,B,λk s q=>?_⟩;obtain⟨J,K,E,r,p,F,G,H,t,I⟩:=Ym h o q;exact⟨E,i _ _ r,(h s (bT q)).wide _ _ _ _ _ _ t (by omega) (by omega)⟩
structure tV(l:List jI):Prop where
 ok:∀s∈l,oI s
 jy:∀c,(kW l c).jy=c.jy
 len:∀c,sumOf l<=1000000->((kW l c).code.length:Int)<=c.code.length+200 * sumOf l
 lay:∀w lo hi v C c,wW l w lo hi v->hi<=C->kG w C c->Room c (sumOf l)->Calls prog 91 #[Pt C 0,v] w λen w'=>en=.returned (.tuple #[])/\kG w' C (kW l c)/\Gk w w' C
theorem tV.law(h:tV l):Lawful (mY l):=Rz λs g=>(h.ok s g).law
theorem tV.Ai(h:tV l):Lawful (wW l):=aoB λs g=>(h.ok s g).law
theorem tV.flat(h:tV l){v:jm}(g:mY l w lo hi v):wW l w lo hi v:=aoC (λs i=>(h.ok s i).law) g
theorem kG.leave{i:Co}(h:kG w C i){n:Nat}(y:n<=i.jy.length)(fr:Int):∃a g,w.cell? (Ad C 1)=some (.slice a i.jy.length g)/\i.jy.length<=g/\w.cell? (Ad C 2)=some (Im i.free)/\(∀j,w.frozen? (Ad C j)=false)/\kG ((w.setCell (Ad C 1) (.slice a n g)).setCell (Ad C 2) (Im fr)) C ((i.cut n).kC fr)/\Gk w ((w.setCell (Ad C 1) (.slice a n g)).setCell (Ad C 2) (Im fr)) C:=by
 obtain⟨a,g,p,q,r,⟨v,o,s⟩,t⟩:=h.back y;refine⟨a,g,p,q,?_,r,⟨v,o,s.kC fr⟩,t.trans (Gk.free _ _ _)⟩;obtain⟨v,o,h⟩:=h;exact jG h.jM
theorem I9(h:∀s∈l,qh s):tV l:=by
 have q:∀s∈l,1<=s.jw:=λs r=>(h s r).pos;refine⟨λs r=>(h s r).ok,λc=>?_,λc A=>?_,?_⟩
 .obtain⟨⟨p,Z,_⟩,_⟩:=Ox l c h;show((qX l c).jy.take c.jy.length)=c.jy;rw[Z];simp
 .have r:=Ia q A;rw[r]at A⊢;exact(Ox l c h).2 A
 intro w lo hi v C c hh hC N D;have r:=Ia q D.jw;rw[r]at D;have ad:=D.code;have af:=D.jy;have ae:=D.jw;have ai:(l.length:Int)<=1000000:=by have:=CO q;omega
 obtain⟨a0,ah,c1,_,c2,_⟩:=N.leave (aj _) 0;have HP:Hid (∀k,∃p,(qX (l.take k) c).jy=c.jy++p):=λk=>by
  obtain⟨⟨p,Z,_⟩,_⟩:=Ox (l.take k) c λs r=>h s (dS r);exact⟨p,Z⟩
 have E:Hid (∀k s,l[k]? =some s->Room (qX (l.take k) c) s.jw):=λk s I=>by
  obtain⟨⟨p,p1,Q⟩,p3⟩:=Ox (l.take k) c λs r=>h s (dS r);obtain⟨r1,r2⟩:=acf q k s I;have r3:0<=lS (l.take k):=by have:=CO (l:=l.take k) λx hx=>q x (dS hx);omega
  have r4:=q s (bT I);have r5:=p3 (by omega);refine⟨by omega,by omega,?_⟩;rw[p1,aA];rw[gI]at Q;have:(p.length:Int)<=k:=by omega
  omega
 have HA:Hid (∀(k:Nat)(y:jk)(A:k<l.length),Gk w y C->kG y C (qX (l.take k) c)->∃g T b f,(∃o,v=.slice (some (Ad g 0)) l.length o)/\y.cell? (Ad g k)=some (.iface T (Pt b 0))/\(∀w,(method 576 T (Pt b 0) "helm/lang.lay").run prog w=.ok (f,Pt b 0) w)/\Enters f/\
  Calls prog f #[Pt b 0,Pt C 0] y λX w'=>X=.returned (.tuple #[])/\kG w' C (qX (l.take (k+1)) c)/\Gk w w' C):=by
  intro k y A K aa;rcases hh with⟨hf,_⟩|⟨g,o,W,rfl,g1,g2,O,G⟩
  .rw[hf]at A;simp at A
  have t:l[k]? =some l[k]:=by simp
  have hQ:=h l[k] (fG A);obtain⟨u',e0,e5⟩:=G k _ t;obtain⟨T1,b1,ag,_⟩:=hQ.ok.head _ _ _ _ e5;subst ag;obtain⟨L,m1,P,B⟩:=hQ.lay _ _ _ _ _ C _ (hQ.ok.law.gk e5 K (by omega)) (by omega) aa (E.out k _ t);refine⟨g,T1,b1,L,⟨o,rfl⟩,(K.cell (by omega)).trans ((jG O).trans e0),m1,P,B.mono ?_⟩;rintro X w' ⟨r1,r2,r3⟩;rw[aor l c k _ t];exact⟨r1,r2,K.trans r3⟩
 obtain⟨va,vc,hv⟩:∃va vc,v=.slice va l.length vc:=by
  rcases hh with⟨hf,rfl⟩|⟨g,o,W,rfl,_⟩
  .exact⟨none,0,by rw[hf];rfl⟩
  .exact⟨_,_,rfl⟩
 subst hv;have HZ:Hid (∀y,kG y C (qX (l.take l.length) c)->Gk w y C->∃a n o,y.cell? (Ad C 1)=some (.slice a n o)/\(c.jy.length:Int)<=o/\(∃u,y.cell? (Ad C 2)=some u)/\(∀j,y.frozen? (Ad C j)=false)/\kG ((y.setCell (Ad C 1) (.slice a c.jy.length o)).setCell (Ad C 2) (Im c.free)) C (kW l c)/\Gk w ((y.setCell (Ad C 1) (.slice a c.jy.length o)).setCell (Ad C 2) (Im c.free)) C):=λy O K=>by
  obtain⟨p,J⟩:=HP.out l.length;rw[eU (aj _)]at O J;have ab:c.jy.length<=(qX l c).jy.length:=by rw[J];simp
  obtain⟨a,o,z1,z2,z3,z4,S,U⟩:=O.leave ab c.free;exact⟨a,_,o,z1,by omega,⟨_,z3⟩,z4,S,K.trans U⟩
 have HO:=jA (λn=>jd (N.grow (lu w n)) (Gk.grown (lu w n) N.lt));clear hh N D h E HP r ad af ae;generalize kW l c=R at *;generalize c.free=fr at *;generalize an:c.jy.length=nl at *;go_enter func91,ntmps91;go_wp2_with fail;go_quiet (fail);go_wp2_with fail;go_loopg [19] (l.length+1) (λgg i wr=>Hid (∃k:Nat,k+gg=l.length+1/\k<=l.length/\i=Im k/\kG wr C (qX (l.take k) c)/\Gk w wr C))
 case atStart=>exact⟨0,by omega,bD _,rfl,HO.out _⟩
 case round=>
  obtain⟨k,al,am,rfl,F,M⟩:=hrel.out;clear hrel HO;by_cases ac:k<l.length
  .have d1:decide ((k:Int)<(l.length:Int))=true:=by simp;omega
   have i0:(0:Int)<=(k:Int):=by omega
   have i1:(k:Int)<(l.length:Int):=by omega
   obtain⟨g,T1,b1,L,⟨o,hv⟩,k0,m1,P,B⟩:=HA.out k wr ac M F;cases hv;have P:∀z w,(callFunc L z).run prog w=.ok (.enter L z) w:=P;have B:=jA B;obtain⟨Y,ak⟩:∃Y,gk=Y+1:=⟨gk-1,by omega⟩;clear F M;go_wp2_with fail;refine B.out.mono ?_;rintro X w2 ⟨rfl,Q,q2⟩;have V:=jA (jd Q q2);clear Q q2 B;go_wp2_with fail;go_roundg Y
   case measure=>omega
   case rel=>exact⟨k+1,by omega,by omega,by go_num,V.out⟩
  .have d1:decide ((k:Int)<(l.length:Int))=false:=by simp;omega
   have H:k=l.length:=by omega
   obtain⟨a,n,o,z1,z2,⟨ao,z3⟩,z4,S,U⟩:=HZ.out wr (by rw[H]at F;exact F) M;have V:=jA (jd S U);have j0:(0:Int)<=(nl:Int):=by omega
   clear F M H S U;go_wp2_with fail;go_end0;exact⟨rfl,V.out⟩
end
end
end Go.Proofs.YthllhabjfchgiaaGreatDoor
