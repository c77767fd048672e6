import Derived.Test.YthllhabjfchgiaaGreatDoorHb29
set_option maxRecDepth 100000
set_option maxHeartbeats 8000000
set_option linter.unusedSimpArgs false
namespace Go.Proofs.YthllhabjfchgiaaGreatDoor
open _root_.Go.Proofs.Tryz
section
open Go.RowKit Hx
attribute [local go_sem ↓] Go.wp_at_zero Go.wp_at_succ
attribute [local go_sem] kL
section
variable {w w' w1 w2:jo}{C lo hi b:Nat}{c:Co}{u:jr}{e f:Ex}{a:Int}{T:jv}{x:Sx}
structure pV(s:jK):Prop where
 ok:nZ s
 pos:1<=s.jy
 jA:∀c,∃more,(s.does.lay c).jA=c.jA++more/\more.length<=1
 len:∀c,s.jy<=1000000->((s.does.lay c).code.length:Int)<=c.code.length+200 * s.jy
 lay:∀w lo hi T b C c,s.here w lo hi (.iface T (Pt b 0))->hi<=C->kF w C c->Room c s.jy->
  ∃f,(∀w,(method 576 T (Pt b 0) "helm/lang.lay").run prog w=.ok (f,Pt b 0) w)/\Enters f/\
   Calls prog f #[Pt b 0,Pt C 0] w λen w'=>en=.returned (.tuple #[])/\kF w' C (s.does.lay c)/\Gk w w' C
def wG(T' T:jv)(at' jy:Int)(K:Hx.Kids)(mk:List jr->List jr)(ds:Ds:={}):jK:=
 ⟨jy,λw lo hi v=>∃b us,v=.iface T' (Pt b 0)/\lo<=b/\b<hi/\K w lo hi us/\w.heap[b]? =some (.cells (Im at'::Im jy::mk us).toArray T),ds⟩
theorem Ii{T' T:jv}{at' jy:Int}{K:Hx.Kids}{mk:List jr->List jr}{ds:Ds}(hT:oO T')(hK:yI K)(hc:1<=jy/\jy<=1000001):nZ (wG T' T at' jy K mk ds):=by
 refine⟨⟨?_,?_⟩,?_,by show 0<=jy/\jy<=1000001;omega⟩
 .rintro w w' lo hi v ⟨b,us,hv,h1,h2,h3,h4⟩ hk;exact⟨b,us,hv,h1,h2,hK.loc _ _ _ _ _ h3 hk,(hk b h1 h2).trans h4⟩
 .rintro w lo hi lo' hi' v ⟨b,us,hv,h1,h2,h3,h4⟩ l1 l2;exact⟨b,us,hv,by omega,by omega,hK.wide _ _ _ _ _ _ h3 l1 l2,h4⟩
 .rintro w lo hi v ⟨b,us,hv,h1,h2,h3,h4⟩;exact⟨T',b,hv,hT,h1,h2,jH h4⟩
theorem JM{T' T:jv}{at' jy:Int}{K K':Hx.Kids}{mk:List jr->List jr}{ds ds':Ds}{v:jr}(hK:∀w lo b hi us,K w lo b us->b<=hi->K' w lo hi us)(h:(yw T' T at' jy K mk ds).here w lo hi v):(wG T' T at' jy K' mk ds').here w lo hi v:=by
 obtain⟨b,us,hv,h1,h2,h3,h4⟩:=h;exact⟨b,us,hv,h1,h2,hK _ _ _ _ _ h3 (by omega),h4⟩
theorem pV.of{s s':jK}(h:pV s')(ok:nZ s)(hh:∀w lo hi v,s.here w lo hi v->s'.here w lo hi v)(hc:s.jy=s'.jy)(hd:s.does.lay=s'.does.lay):pV s:=
 ⟨ok,by rw[hc];exact h.pos,λc=>by rw[hd];exact h.jA c,λc hk=>by rw[hd,hc];exact h.len c (by rw[<-hc];exact hk),λw lo hi T b C c hv hC hg hr=>by rw[hd];exact h.lay w lo hi T b C c (hh _ _ _ _ hv) hC hg (by rw[<-hc];exact hr)⟩
theorem Iy{c c':Co}(h:c'.jA=c.jA):∃more,c'.jA=c.jA++more/\more.length<=1:=⟨[],by rw[h,aX],by simp⟩
theorem xK{xs:List Int}(h:∀x∈xs,0<=x/\x<=1000001):1<=jS xs:=by
 have h1:=xQ xs h;unfold jS;generalize lg xs=t at *;unfold lg;simp only[bP,eF];omega
theorem Wu(a:Int):pV (yC a):=by
 refine⟨aeN a,aV 1,λc=>Iy rfl,λc _=>?_,?_⟩
 .have:=oD c 1 [];simp only[bg]at this;show(((c.lay 1 []).code.length:Nat):Int)<=c.code.length+200 * 1;omega
 rintro w lo hi T b C c ⟨b',us,hv,h1,h2,h3,hb⟩ hC hc hr;cases hv;refine⟨332,λw=>by kernel_rfl,λargs w=>by kernel_rfl,?_⟩;have HL:=jB (FU hc 1 (by have:=hr.code;have:(yC a).jy=1:=rfl;omega));clear hb hc h3;go_enter func332,ntmps332;go_wp2_with fail;refine HL.out.mono ?_;rintro en w1 ⟨rfl,p1,q1⟩;have HE:=jB (jg p1 q1);clear p1 q1 HL;go_wp2_with fail;go_end0;exact⟨rfl,HE.out⟩
theorem afN(he:kE e)(slot:Int):(c.store slot e.does).jA=c.jA:=by
 show(if (e.does.give c slot).2=slot then (e.does.give c slot).1 else (e.does.give c slot).1.lay 7 [slot,(e.does.give c slot).2]).jA=c.jA;split
 .exact he.jA c slot
 .exact he.jA c slot
theorem afL(he:kE e)(slot:Int)(hk:e.jy<=1000000):((c.store slot e.does).code.length:Int)<=c.code.length+200 * e.jy+71:=by
 have h1:=he.len c slot hk;have h2:=oD (e.does.give c slot).1 7 [slot,(e.does.give c slot).2];simp only[aF,bg]at h2;show((if (e.does.give c slot).2=slot then (e.does.give c slot).1 else (e.does.give c slot).1.lay 7 [slot,(e.does.give c slot).2]).code.length:Int)<=_;split<;>omega
theorem abe(he:kE e)(hh:e.here e.at' w lo hi u)(hC:hi<=C)(hc:kF w C c)(hr:Room c e.jy)(slot:Int):
 Calls prog 313 #[Pt C 0,Im slot,u] w λen w'=>en=.returned (.tuple #[])/\kF w' C (c.store slot e.does)/\Gk w w' C:=by
 obtain⟨T1,b1,rfl,_⟩:=he.ok.head _ _ _ _ _ hh;obtain⟨f1,m1,kK,H1⟩:=he.give _ _ _ _ _ _ C c slot hh hC hc hr;have kK:∀args w,(callFunc f1 args).run prog w=.ok (.enter f1 args) w:=kK;have H1:=jB (H1);have hl:=he.Lr hr slot;obtain⟨v0,JU,h0⟩:=hc;have c2:=jJ 2 h0.jL rfl;clear h0 hh hr;unfold Co.store;generalize e.does.give c slot=r at *;obtain⟨rc,rs⟩:=r;simp only at H1 hl⊢;generalize hfr:c.free=fr at *;by_cases hs:rs=slot
 .rw[jl hs];have hb:(rs !=slot)=false:=by simp[hs]
  go_enter func313,ntmps313;go_wp2_with fail;refine H1.out.mono ?_;rintro e1 w1 ⟨rfl,⟨v1,zI,p1⟩,q1⟩;have d2:=jJ 2 p1.jL rfl;have fz:=qJ p1.jL;have HE:Hid (kF (w1.setCell (Ad C 2) (Im fr)) C (rc.jZ fr)/\Gk w (w1.setCell (Ad C 2) (Im fr)) C):=⟨⟨v1,zI,p1.jZ fr⟩,q1.trans (Gk.free _ _ _)⟩;clear p1 q1 H1;go_wp2_with fail;go_end0;exact⟨rfl,HE.out⟩
 .rw[jk hs];have hb:(rs !=slot)=true:=by simp[hs]
  go_enter func313,ntmps313;go_wp2_with fail;refine H1.out.mono ?_;rintro e1 w1 ⟨rfl,p1,q1⟩;have HL:=jB (Aa p1 7 slot rs (by omega));have lZ:=jB q1;clear p1 q1 H1;go_wp2_with fail;refine HL.out.mono ?_;rintro e2 w2 ⟨rfl,⟨v1,zI,p1⟩,q1⟩;have d2:=jJ 2 p1.jL rfl;have fz:=qJ p1.jL;have HE:Hid (kF (w2.setCell (Ad C 2) (Im fr)) C ((rc.lay 7 [slot,rs]).jZ fr)/\Gk w (w2.setCell (Ad C 2) (Im fr)) C):=⟨⟨v1,zI,p1.jZ fr⟩,(lZ.out.trans q1).trans (Gk.free _ _ _)⟩;clear p1 q1 HL lZ;go_wp2_with fail;go_end0;exact⟨rfl,HE.out⟩
theorem afP(he:kE e)(a i:Int){k:Int}(hk1:1<=k/\k<=1000001)(hke:k<=1000000->1+e.jy<=k):pV (wG 327 329 a k (nX (e.here e.at')) (λus=>Im i::us) (afO i e)):=by
 have ec:=he.ok.jy;refine⟨Ii (by simp[oO]) (qO (he.ok.law _)) hk1,hk1.1,λc=>Iy (afN he i),λc hk=>?_,?_⟩
 .have hk:=hk;have hp:=hke hk;have:=afL (c:=c) he i (by omega);show(((c.store i e.does).code.length:Nat):Int)<=c.code.length+200 * k;omega
 rintro w lo hi T b C c ⟨b',us,hv,h1,h2,⟨u,rfl,hu⟩,hb⟩ hC hc hr;cases hv;have hr:Room c (k):=hr;have hp:=hke hr.jy;obtain⟨T1,b1,rfl,_⟩:=he.ok.head _ _ _ _ _ hu;have c2:=jJ 2 hb rfl;have c3:=jJ 3 hb rfl;have HS:Hid (∀n,Calls prog 313 #[Pt C 0,Im i,.iface T1 (Pt b1 0)] (w.drewN n) λen w'=>en=.returned (.tuple #[])/\kF w' C (c.store i e.does)/\Gk w w' C):=λn=>by
  have g:=lH w n;have gk:=Gk.grown g hc.lt;refine(abe he ((he.ok.law _).gk hu gk (by omega)) hC (hc.grow g) (hr.less (by omega)) i).mono ?_;rintro en w' ⟨e1,e2,e3⟩;exact⟨e1,e2,gk.trans e3⟩
 refine⟨319,λw=>by kernel_rfl,λargs w=>by kernel_rfl,?_⟩;clear hu hb hc hr;go_enter func319,ntmps319;go_wp2_with fail;refine nJ 9 (by kernel_rfl) (by kernel_rfl) ?_;simp only[aC,aO,aG,aQ];repeat (go_big_quiet_step (fail))
 refine bF ?_;intro _ hw';obtain⟨k3,hw''⟩:=hw';subst hw'';go_wp2_with fail;refine(HS.out _).mono ?_;rintro en w1 ⟨rfl,p1,q1⟩;have HE:=jB (jg p1 q1);clear p1 q1 HS;go_wp2_with fail;go_end0;exact⟨rfl,HE.out⟩
theorem afQ(he:kE e)(a i:Int):pV (yE a i e):=(afP he a i ⟨xK (by simpa using he.ok.jy),(pW he.ok.jy).2⟩ (λhk=>by rw[yA he.ok.jy.1 he.ok.jy.2 hk];omega)).of (uF (by simp[oO]) (qO (he.ok.law _)) (pW he.ok.jy)) (λ_ _ _ _ h=>JM (PY (he.ok.law _)) h) rfl rfl
theorem afm(he:kE e)(t:Wd)(a:Int){k:Int}(hk1:1<=k/\k<=1000001)(hke:k<=1000000->1+e.jy<=k):pV (wG 321 326 a k (nX (e.here e.at')) (λus=>.string t.text::Im t.at'::us) (afl t e)):=by
 obtain⟨tt,ta⟩:=t;have ec:=he.ok.jy;refine⟨Ii (by simp[oO]) (qO (he.ok.law _)) hk1,hk1.1,λc=>Iy (afN he _),λc hk=>?_,?_⟩
 .have hk:=hk;have hp:=hke hk;have:=afL (c:=c) he (c.vW tt) (by omega);show(((c.store (c.vW tt) e.does).code.length:Nat):Int)<=c.code.length+200 * k;omega
 rintro w lo hi T b C c ⟨b',us,hv,h1,h2,⟨u,rfl,hu⟩,hb⟩ hC hc hr;cases hv;have hr:Room c (k):=hr;have hp:=hke hr.jy;have hrn:=hr.jA;obtain⟨T1,b1,rfl,_⟩:=he.ok.head _ _ _ _ _ hu;have yU:=hc.lt;have c2:∀x:Ext w,x.val.cell? (Ad b 2)=some (.string tt):=λx=>jH ((x.grown.block b (by omega) (by simp)).trans hb);have c4:∀x:Ext w,x.val.cell? (Ad b 4)=some (.iface T1 (Pt b1 0)):=λx=>jH ((x.grown.block b (by omega) (by simp)).trans hb);have HSl:Hid (∀x:Ext w,Calls prog 314 #[Pt C 0,.string tt] x.val λen w'=>en=.returned (Im (c.vW tt))/\x.val.grownBy w' none):=λx=>abd (hc.grow x.grown) tt (by omega);have HS:Hid (∀y,w.grownBy y none->Calls prog 313 #[Pt C 0,Im (c.vW tt),.iface T1 (Pt b1 0)] y λen w'=>en=.returned (.tuple #[])/\kF w' C (c.store (c.vW tt) e.does)/\Gk w w' C):=λy g=>by
  have gk:=Gk.grown g yU;refine(abe he ((he.ok.law _).gk hu gk (by omega)) hC (hc.grow g) (hr.less (by omega)) (c.vW tt)).mono ?_;rintro en w' ⟨e1,e2,e3⟩;exact⟨e1,e2,gk.trans e3⟩
 refine⟨310,λw=>by kernel_rfl,λargs w=>by kernel_rfl,?_⟩;clear hu hb hc hr;show Calls prog 310 #[Pt b 0,Pt C 0] w λen w'=>en=.returned (.tuple #[])/\kF w' C (c.store (c.vW tt) e.does)/\Gk w w' C;generalize c.store (c.vW tt) e.does=R at *;generalize c.vW tt=sl at *;go_enter func310,ntmps310;go_wp2_with fail;have hne:=OU w;refine RN 12 (by kernel_rfl) (by kernel_rfl) ?_;simp only[aC,aO,aG,aQ];repeat (go_big_quiet_step ((go_at_call 314;exact Calls.TU (HSl.out _))))
 refine bF ?_;intro w' hg;have HS2:=jB (HS.out w' hg);clear HS hg;go_wp2_with fail;refine HS2.out.mono ?_;rintro en w1 ⟨rfl,p1,q1⟩;have HE:=jB (jg p1 q1);clear p1 q1 HS2;go_wp2_with fail;go_end0;exact⟨rfl,HE.out⟩
theorem afn(he:kE e)(t:Wd):pV (sQ t e):=(afm he t t.at' ⟨xK (by simpa using he.ok.jy),(pW he.ok.jy).2⟩ (λhk=>by rw[yA he.ok.jy.1 he.ok.jy.2 hk];omega)).of (uF (by simp[oO]) (qO (he.ok.law _)) (pW he.ok.jy)) (λ_ _ _ _ h=>JM (PY (he.ok.law _)) h) rfl rfl
theorem aew(he:kE e)(hf:kE f)(a:Int){k:Int}(hk1:1<=k/\k<=1000001)(hke:k<=1000000->1+(e.jy+f.jy)<=k):pV (wG 333 335 a k (Ai (e.here e.at') (f.here f.at')) (λus=>us) (Wh e f)):=by
 have ec:=he.ok.jy;have fc:=hf.ok.jy;refine⟨Ii (by simp[oO]) (P6 (he.ok.law _) (hf.ok.law _)) hk1,hk1.1,λc=>Iy ?_,λc hk=>?_,?_⟩
 .show(f.does.give (e.does.give c (-1)).1 (-1)).1.jA=c.jA;rw[hf.jA,he.jA]
 .have hk:=hk;have hp:=hke hk;have h1:=he.len c (-1) (by omega);have h2:=hf.len (e.does.give c (-1)).1 (-1) (by omega);have h3:=oD (f.does.give (e.does.give c (-1)).1 (-1)).1 36 [(e.does.give c (-1)).2,(f.does.give (e.does.give c (-1)).1 (-1)).2];simp only[aF,bg]at h3;show((((f.does.give (e.does.give c (-1)).1 (-1)).1.lay 36 [(e.does.give c (-1)).2,(f.does.give (e.does.give c (-1)).1 (-1)).2]).code.length:Nat):Int)<=c.code.length+200 * k;omega
 rintro w lo hi T b C c ⟨b',us,hv,h1,h2,⟨u,v,rfl,hu,hv2⟩,hb⟩ hC hc hr;cases hv;have hr:Room c (k):=hr;have hp:=hke hr.jy;have hrc:=hr.code;have hrn:=hr.jA;have hrk:=hr.jy;obtain⟨T1,b1,rfl,_⟩:=he.ok.head _ _ _ _ _ hu;obtain⟨T2,b2,rfl,_⟩:=hf.ok.head _ _ _ _ _ hv2;obtain⟨f1,m1,kK,H1⟩:=he.give _ _ _ _ _ _ C c (-1) hu (by omega) hc (hr.less (by omega));have kK:∀args w,(callFunc f1 args).run prog w=.ok (.enter f1 args) w:=kK;have H1:=jB (H1);have hl1:=he.len c (-1) (by omega);have hn1:=he.jA c (-1);have HR:Hid (kE f/\f.here f.at' w lo hi (.iface T2 (Pt b2 0))/\Room (e.does.give c (-1)).1 f.jy):=⟨hf,hv2,⟨by omega,by omega,by rw[hn1];omega⟩⟩;have hl2:=hf.Lr HR.out.2.2 (-1);have d2:=jJ 2 hb rfl;have d3:=jJ 3 hb rfl;obtain⟨v0,JU,h0⟩:=hc;have c2:=jJ 2 h0.jL rfl;have hbC:b<C:=by omega
 refine⟨328,λw=>by kernel_rfl,λargs w=>by kernel_rfl,?_⟩;clear h0 hu hv2 hr hl1 hn1 hb hrc hrn hrk;show Calls prog 328 #[Pt b 0,Pt C 0] w λen w'=>en=.returned (.tuple #[])/\kF w' C (((f.does.give (e.does.give c (-1)).1 (-1)).1.lay 36 [(e.does.give c (-1)).2,(f.does.give (e.does.give c (-1)).1 (-1)).2]).jZ c.free)/\Gk w w' C;generalize e.does.give c (-1)=x at *;obtain⟨xc,xs⟩:=x;simp only at H1 HR hl2⊢;generalize hy:f.does.give xc (-1)=y at *;have HY:=jB hy;clear hy;obtain⟨yc,ys⟩:=y;simp only at hl2⊢;generalize hfr:c.free=fr at *;go_enter func328,ntmps328;go_wp2_with fail;refine H1.out.mono ?_;rintro e1 w1 ⟨rfl,p1,q1⟩;have k3:=(q1.cell hbC).trans d3;obtain⟨f2,m2,qg,H2⟩:=HR.out.1.give _ _ _ _ _ _ C xc (-1) ((HR.out.1.ok.law _).gk HR.out.2.1 q1 (by omega)) (by omega) p1 HR.out.2.2;have qg:∀args w,(callFunc f2 args).run prog w=.ok (.enter f2 args) w:=qg;rw[HY.out]at H2;have H2:=jB (H2);have lZ:Hid (Gk w w1 C):=q1;clear p1 q1 H1;go_wp2_with fail;refine H2.out.mono ?_;rintro e2 w2 ⟨rfl,p2,q2⟩;have HL:=jB (Aa p2 36 xs ys (by omega));have lK:Hid (Gk w w2 C):=lZ.out.trans q2;clear p2 q2 H2 lZ;go_wp2_with fail;refine HL.out.mono ?_;rintro e3 w3 ⟨rfl,⟨v3,nv3,p3⟩,q3⟩;have k2:w3.cell? (Ad C 2)=some (Im (yc.lay 36 [xs,ys]).free):=jH p3.jL;have fz:∀j,w3.frozen? (Ad C j)=false:=λj=>oh p3.jL;have HE:Hid (kF (w3.setCell (Ad C 2) (Im fr)) C ((yc.lay 36 [xs,ys]).jZ fr)/\Gk w (w3.setCell (Ad C 2) (Im fr)) C):=⟨⟨v3,nv3,p3.jZ fr⟩,(lK.out.trans q3).trans (Gk.free _ _ _)⟩;clear p3 q3 HL lK
 go_wp2_with fail;go_end0;exact⟨rfl,HE.out⟩
theorem aex(he:kE e)(hf:kE f)(a:Int):pV (vU a e f):=(aew he hf a ⟨xK (by simp;exact⟨he.ok.jy,hf.ok.jy⟩),(rC he.ok.jy hf.ok.jy).2⟩ (λhk=>by rw[zJ he.ok.jy.1 he.ok.jy.2 hf.ok.jy.1 hf.ok.jy.2 hk];omega)).of (uF (by simp[oO]) (wC (he.ok.law _) (hf.ok.law _)) (rC he.ok.jy hf.ok.jy)) (λ_ _ _ _ h=>JM (acv (he.ok.law _) (hf.ok.law _)) h) rfl rfl
theorem ac4(he:kE e)(a:Int)(t:Wd){k:Int}(hk1:1<=k/\k<=1000001)(hke:k<=1000000->1+e.jy<=k):pV (wG 331 332 a k (nX (e.here e.at')) (λus=>.string t.text::Im t.at'::us) (Qn t e)):=by
 obtain⟨tt,ta⟩:=t;have ec:=he.ok.jy;have hD:∀c,(wG 331 332 a k (nX (e.here e.at')) (λus=>.string (⟨tt,ta⟩:Wd).text::Im (⟨tt,ta⟩:Wd).at'::us) (Qn ⟨tt,ta⟩ e)).does.lay c=((if (e.does.give c (-1)).2=c.free then (e.does.give c (-1)).1 else (e.does.give c (-1)).1.lay 7 [c.free,(e.does.give c (-1)).2]).jZ (wrap64 (c.free+1))).know tt c.free:=λ_=>rfl;refine⟨Ii (by simp[oO]) (qO (he.ok.law _)) hk1,hk1.1,λc=>⟨[(tt,c.free)],?_,by simp⟩,λc hk=>?_,?_⟩
 .rw[hD];show(if (e.does.give c (-1)).2=c.free then (e.does.give c (-1)).1 else (e.does.give c (-1)).1.lay 7 [c.free,(e.does.give c (-1)).2]).jA++[(tt,c.free)]=_
  congr 1
  split
  .exact he.jA c (-1)
  .exact he.jA c (-1)
 .have hk:=hk;have hp:=hke hk;have h1:=he.len c (-1) (by omega);have h2:=oD (e.does.give c (-1)).1 7 [c.free,(e.does.give c (-1)).2];simp only[aF,bg]at h2;rw[hD];show((if (e.does.give c (-1)).2=c.free then (e.does.give c (-1)).1 else (e.does.give c (-1)).1.lay 7 [c.free,(e.does.give c (-1)).2]).code.length:Int)<=c.code.length+200 * k;split<;>omega
 rintro w lo hi T b C c ⟨b',us,hv,h1,h2,⟨u,rfl,hu⟩,hb⟩ hC hc hr;cases hv;have hr:Room c (k):=hr;have hp:=hke hr.jy;have hrn:=hr.jA;obtain⟨T1,b1,rfl,_⟩:=he.ok.head _ _ _ _ _ hu;obtain⟨f1,m1,kK,H1⟩:=he.give _ _ _ _ _ _ C c (-1) hu (by omega) hc (hr.less (by omega));have kK:∀args w,(callFunc f1 args).run prog w=.ok (.enter f1 args) w:=kK;have H1:=jB (H1);have hl:=he.Lr (hr.less (by omega):Room c e.jy) (-1);have hn1:(e.does.give c (-1)).1.jA.length<=3000000:=by rw[he.jA];omega
 obtain⟨v0,JU,h0⟩:=hc;have c2:=jJ 2 h0.jL rfl;have d4:=jJ 4 hb rfl;have hbC:b<C:=by omega
 have rE:Hid (∀y,Gk w y C->y.cell? (Ad b 2)=some (.string tt)/\y.cell? (Ad b 3)=some (Im ta)):=λy hy=>⟨(hy.cell hbC).trans (jH hb),(hy.cell hbC).trans (jH hb)⟩;refine⟨322,λw=>by kernel_rfl,λargs w=>by kernel_rfl,?_⟩;rw[hD];clear h0 hu hr hb hD hrn;generalize e.does.give c (-1)=r at *;obtain⟨rc,rs⟩:=r;simp only at H1 hl hn1⊢;generalize hfr:c.free=fr at *;have nR:Hid (∀cc y,kF y C cc->cc.jA.length<=3000000->Gk w y C->(∃u,y.cell? (Ad C 2)=some u)/\(∀j,y.frozen? (Ad C j)=false)/\Gk w (y.setCell (Ad C 2) (Im (wrap64 (fr+1)))) C/\Calls prog 324 #[Pt C 0,.agg #[.string tt,Im ta],Im fr] (y.setCell (Ad C 2) (Im (wrap64 (fr+1)))) λen w'=>en=.returned (.tuple #[])/\kF w' C ((cc.jZ (wrap64 (fr+1))).know tt fr)/\Gk w w' C):=λcc y hg hn hy=>by
  obtain⟨v1,zI,p1⟩:=hg;have hy2:=hy.trans (Gk.free y (Im (wrap64 (fr+1))) C);refine⟨⟨_,jH p1.jL⟩,λj=>oh p1.jL,hy2,(Ue ⟨v1,zI,p1.jZ _⟩ tt ta fr (by show cc.jA.length<=_;omega)).mono ?_⟩;rintro en w' ⟨e1,e2,e3⟩;exact⟨e1,e2,hy2.trans e3⟩
 by_cases hs:rs=fr
 .rw[jl hs];have hb:(rs !=fr)=false:=by simp[hs]
  go_enter func322,ntmps322;go_wp2_with fail;refine H1.out.mono ?_;rintro e1 w1 ⟨rfl,p1,q1⟩;obtain⟨⟨uu,k2⟩,fz,z1,HN⟩:=nR.out rc w1 p1 hn1 q1;obtain⟨y2,y3⟩:=rE.out w1 q1;have nb:¬b=C:=by omega
  have HN:=jB HN;clear p1 q1 H1 z1 nR rE;go_wp2_with fail;refine HN.out.mono ?_;rintro en w3 ⟨rfl,p3,q3⟩;have HE:=jB (jg p3 q3);clear p3 q3 HN;go_wp2_with fail;go_end0;exact⟨rfl,HE.out⟩
 .rw[jk hs];have hb:(rs !=fr)=true:=by simp[hs]
  go_enter func322,ntmps322;go_wp2_with fail;refine H1.out.mono ?_;rintro e1 w1 ⟨rfl,p1,q1⟩;have HL:=jB (Aa p1 7 fr rs (by omega));have lZ:=jB q1;clear p1 q1 H1;go_wp2_with fail;refine HL.out.mono ?_;rintro e2 w2 ⟨rfl,p1,q1⟩;obtain⟨⟨uu,k2⟩,fz,z1,HN⟩:=nR.out (rc.lay 7 [fr,rs]) w2 p1 hn1 (lZ.out.trans q1);obtain⟨y2,y3⟩:=rE.out w2 (lZ.out.trans q1);have nb:¬b=C:=by omega
  have HN:=jB HN;clear p1 q1 z1 nR rE HL lZ;go_wp2_with fail;refine HN.out.mono ?_;rintro en w3 ⟨rfl,p3,q3⟩;have HE:=jB (jg p3 q3);clear p3 q3 HN;go_wp2_with fail;go_end0;exact⟨rfl,HE.out⟩
theorem ac5(he:kE e)(a:Int)(t:Wd):pV (uD a t e):=(ac4 he a t ⟨xK (by simpa using he.ok.jy),(pW he.ok.jy).2⟩ (λhk=>by rw[yA he.ok.jy.1 he.ok.jy.2 hk];omega)).of (uF (by simp[oO]) (qO (he.ok.law _)) (pW he.ok.jy)) (λ_ _ _ _ h=>JM (PY (he.ok.law _)) h) rfl rfl
end
section
variable {w w' w1 w2 w3 w4:jo}{C lo hi b d m k:Nat}{c:Ck}{u v:jr}{e f:Ex}{a:Int}{T:jv}{x:Sx}
theorem aqn(h:l7 k e)(hk:k<=10000 * d)(t:Wd):zU d (sQ t e):=by
 obtain⟨tt,ta⟩:=t;refine⟨aqo _ h.ok,λc=>JY ?_,?_⟩
 .show((e.does.look (if (lG c.jA tt).isVar then c else c.fail 2 ta)).want (e.does.jU (if (lG c.jA tt).isVar then c else c.fail 2 ta).jA) e.at' (lG c.jA tt).kind).jA=c.jA;rw[vY,h.jA];split
  .rfl
  .exact Jh _ _ _
 rintro w lo hi T b C c ⟨b',us,hv,h1,h2,⟨u,rfl,hu⟩,hb⟩ hC hc hn;cases hv;have yU:=hc.lt;obtain⟨T1,b1,rfl,hT1,_⟩:=h.ok.head _ _ _ _ _ hu;have c2:=jJ 2 hb rfl;have HF:Hid (Calls prog 315 #[Pt C 0,.string tt] w λen w'=>en=.returned (.agg #[.string (lG c.jA tt).name,Im (lG c.jA tt).kind,.bool (lG c.jA tt).isVar])/\w.grownBy w' none):=TJ hc tt (by omega);have HC:Hid (l7 k e/\hi<=C/\c.jA.length+k<=899999/\e.here e.at' w lo b (.iface T1 (Pt b1 0))):=⟨h,hC,by omega,hu⟩;have HB:=jB hb;have IU:=jB (λw' (hg:w.grownBy w' none) o=>jg (hc.grow (hg.trans (ah w' o none))) (jg (BZ.new (hc.grow hg) o) (Lk.grown (hg.trans (ah w' o none)) yU)));refine⟨311,λw=>by kernel_rfl,λargs w=>by kernel_rfl,?_⟩;have HR:Hid (∀w0 w1 w2 c1,c1=(if (lG c.jA tt).isVar then c else c.fail 2 ta)->Lk w w0 0 0 C->nT e e.at' w0 w1 lo b (.iface T1 (Pt b1 0)) b1 C c1->Lk w1 w2 0 0 C->kX w2 C ((e.does.look c1).want (e.does.jU c1.jA) e.at' (lG c.jA tt).kind)->(sQ ⟨tt,ta⟩ e).here w2 lo hi (.iface 321 (Pt b 0))/\kX w2 C ((sQ ⟨tt,ta⟩ e).does.look c)/\Lk w w2 lo hi C):=λw0 w1 w2 c1 hc1 q0 q1 q2 q3=>by
  subst hc1;exact U5 HC.out.1.ok h1 h2 HC.out.2.1 HB.out q0 q1 q2 q3
 have hbC:b<C:=by omega
 clear hu hb hc hn hC h hT1;generalize lG c.jA tt=r at *;obtain⟨rt,rk,rv⟩:=r;simp only at HF HR;have hnf:(c.fail 2 ta).jA=c.jA:=Jh _ _ _;have HNf:Hid ((c.fail 2 ta).jA=c.jA):=hnf;clear hnf;cases rv with
 |true=>
  simp only[dM]at HR;go_enter func311,ntmps311;go_wp2_with fail;refine HF.out.mono ?_;rintro en w0 ⟨rfl,g0⟩;have hX:=IU.out w0 g0 (.cells #[.string rt,Im rk,.bool true] 446);have BF:=(g0.block b (by omega) (by simp)).trans HB.out;have d3:=jJ 3 BF rfl;have d4:=jJ 4 BF rfl;have n0:¬b=w0.heap.size:=by have:=lN BF;omega
  have n1:=lN BF;generalize hW:w0.alloc (.cells #[.string rt,Im rk,.bool true] 446)=W at *;have HX:=jB hX;have hb0:=(hX.2.2.keep b hbC (jh (bD _))).trans HB.out;have SC:=jB hW;have hh0:=(HC.out.1.ok.law _).lk HC.out.2.2.2 hX.2.2 (by omega) (jh (bD _));obtain⟨f1,m1,kK,H1⟩:=HC.out.1.look _ _ _ _ _ _ C _ hh0 (by omega) hX.1 (by have:=HC.out.2.2.1;omega);have kK:∀args w,(callFunc f1 args).run prog w=.ok (.enter f1 args) w:=kK;have H1:=jB H1;have HB0:=jB hb0;clear hX hb0 hh0 hW g0 BF;go_wp2_with fail;rw[SC.out];refine H1.out.mono ?_;rintro en w1 ⟨rfl,hl⟩;have bx1:=HX.out.2.1.lk hl.keep;have hb1:=(hl.keep.keep b hbC (jh (aj _))).trans HB0.out;have e4:=jJ 4 hb1 rfl;have x1:=jJ 1 bx1.at' rfl;have SG:=jB (λn=>hl.want HC.out.1.ok rk n);have HL:=jB hl;clear hl bx1 hb1 H1;go_wp2_with fail;refine nJ 7 (by kernel_rfl) (by kernel_rfl) ?_;simp only[aC,aO,aG,aQ];repeat (go_big_quiet_step (fail))
  refine bF ?_;intro _ hw';obtain⟨n3,hw''⟩:=hw';subst hw'';go_wp2_with fail;refine(SG.out _).mono ?_;rintro en w2 ⟨rfl,p1,p2⟩;have HE:=jB (HR.out _ _ _ _ rfl HX.out.2.2 HL.out p2 p1);clear p1 p2;go_wp2_with fail;go_end0;exact⟨rfl,HE.out⟩
 |false=>
  simp only[aH,cZ]at HR;go_enter func311,ntmps311;go_wp2_with fail;refine HF.out.mono ?_;rintro en w0 ⟨rfl,g0⟩;have hX:=IU.out w0 g0 (.cells #[.string rt,Im rk,.bool false] 446);have BF:=(g0.block b (by omega) (by simp)).trans HB.out;have d3:=jJ 3 BF rfl;have d4:=jJ 4 BF rfl;have n0:¬b=w0.heap.size:=by have:=lN BF;omega
  have n1:=lN BF;generalize hW:w0.alloc (.cells #[.string rt,Im rk,.bool false] 446)=W at *;have HX:=jB hX;have hb0:=(hX.2.2.keep b hbC (jh (bD _))).trans HB.out;have SC:=jB hW;have YV:=jB (Ll hX.1 2 ta);have HB0:=jB hb0;clear hX hb0 hW g0 BF;go_wp2_with fail;rw[SC.out];refine YV.out.mono ?_;rintro en w5 ⟨rfl,p3,p4⟩;have hX:=HX.out;have Z7:=hX.2.1.lk p4;have hb5:=(p4.keep b hbC (jh (bD _))).trans HB0.out;have f4:=jJ 4 hb5 rfl;have Zd:Hid (BZ w5 C w0.heap.size (.cells #[.string rt,Im rk,.bool false] 446)/\Lk w w5 0 0 C):=⟨Z7,hX.2.2.trans p4⟩;have HB5:Hid (w5.heap[b]? =some (.cells (Im ta::Im (jS [e.jy])::[.string tt,Im ta,.iface T1 (Pt b1 0)]).toArray 326)):=hb5;have hh0:=(HC.out.1.ok.law _).lk HC.out.2.2.2 (hX.2.2.trans p4) (by omega) (jh (bD _));obtain⟨f1,m1,kK,H1⟩:=HC.out.1.look _ _ _ _ _ _ C _ hh0 (by omega) p3 (by rw[HNf.out];have:=HC.out.2.2.1;omega);have kK:∀args w,(callFunc f1 args).run prog w=.ok (.enter f1 args) w:=kK;have H1:Hid (Calls prog f1 #[Pt b1 0,Pt C 0] w5 λen w'=>en=.returned (.tuple #[])/\nT e e.at' w5 w' lo b (.iface T1 (Pt b1 0)) b1 C (c.fail 2 ta)):=H1;clear hX hh0 p3 p4 Z7 hb5 YV;go_wp2_with fail;refine H1.out.mono ?_;rintro en w1 ⟨rfl,hl⟩;have bx1:=Zd.out.1.lk hl.keep;have hb1:=(hl.keep.keep b hbC (jh (aj _))).trans HB5.out;have e4:w1.cell? (Ad b 4)=some (.iface T1 (Pt b1 0)):=jH hb1;have x1:w1.cell? (Ad w0.heap.size 1)=some (Im rk):=jH bx1.at'
  have SG:Hid (∀n,Calls prog 317 #[Pt C 0,.iface T1 (Pt b1 0),Im rk] (w1.drewN n) λen w2=>en=.returned (.tuple #[])/\kX w2 C ((e.does.look (c.fail 2 ta)).want (e.does.jU (c.fail 2 ta).jA) e.at' rk)/\Lk w1 w2 0 0 C):=λn=>hl.want HC.out.1.ok rk n;have HL:Hid (nT e e.at' w5 w1 lo b (.iface T1 (Pt b1 0)) b1 C (c.fail 2 ta)):=hl;clear hl bx1 hb1 H1;go_wp2_with fail;refine nJ 7 (by kernel_rfl) (by kernel_rfl) ?_;simp only[aC,aO,aG,aQ];repeat (go_big_quiet_step (fail))
  refine bF ?_;intro _ hw';obtain⟨n3,hw''⟩:=hw';subst hw'';go_wp2_with fail;refine(SG.out _).mono ?_;rintro en w2 ⟨rfl,p1,p2⟩;have HE:Hid ((sQ ⟨tt,ta⟩ e).here w2 lo hi (.iface 321 (Pt b 0))/\kX w2 C ((sQ ⟨tt,ta⟩ e).does.look c)/\Lk w w2 lo hi C):=HR.out _ _ _ _ rfl Zd.out.2 HL.out p2 p1;clear p1 p2;go_wp2_with fail;go_end0;exact⟨rfl,HE.out⟩
theorem aoV(hl:l7 k e)(hr:l7 k f)(hk:k<=10000 * d)(a:Int):zU d (vU a e f):=by
 refine⟨aoW a hl.ok hr.ok,λc=>JY ?_,?_⟩
 .show((f.does.look ((e.does.look c).want (e.does.jU c.jA) e.at' 3)).want (f.does.jU ((e.does.look c).want (e.does.jU c.jA) e.at' 3).jA) f.at' 4).jA=c.jA;rw[vY,hr.jA,vY,hl.jA]
 rintro w lo hi T b C c ⟨b',us,hv,h1,h2,⟨m,u,v,rfl,hm1,hm2,hu,hv2⟩,hb⟩ hC hc hn;cases hv;obtain⟨T1,b1,f1,rfl,hT1,l1,l2,m1,kK,H1⟩:=hl.use (C:=C) (c:=c) hu (by omega) hc (by omega);have kK:∀args w,(callFunc f1 args).run prog w=.ok (.enter f1 args) w:=kK;have H1:Hid (Calls prog f1 #[Pt b1 0,Pt C 0] w λen w'=>en=.returned (.tuple #[])/\nT e e.at' w w' lo m (.iface T1 (Pt b1 0)) b1 C c):=H1;obtain⟨T2,b2,rfl,hT2,_⟩:=hr.ok.head _ _ _ _ _ hv2;have c2:=jJ 2 hb rfl;have HB:=jB hb;have HC:Hid (l7 k e/\l7 k f/\hi<=C/\c.jA.length+k<=900000/\f.here f.at' w m b (.iface T2 (Pt b2 0))):=⟨hl,hr,hC,by omega,hv2⟩;refine⟨329,λw=>by kernel_rfl,λargs w=>by kernel_rfl,?_⟩;clear hu hb hc hn hv2 hl hr;go_enter func329,ntmps329;go_wp2_with fail;refine H1.out.mono ?_;rintro en w1 ⟨rfl,L1⟩;have hb1:=(L1.keep.keep b (by omega) (jh hm2)).trans HB.out;have e2:=jJ 2 hb1 rfl;have HW:=jB (L1.want HC.out.1.ok 3 0);have HL:=jB (jg L1 hb1);clear L1 hb1 H1;go_wp2_with fail;refine HW.out.mono ?_;rintro en w2 ⟨rfl,p1,p2⟩;have hb2:=(p2.keep b (by omega) (jh (bD _))).trans HL.out.2;have e3:=jJ 3 hb2 rfl;have hr2:=(HC.out.2.1.ok.law _).lk ((HC.out.2.1.ok.law _).lk HC.out.2.2.2.2 HL.out.1.keep (by omega) (jh (aj _))) p2 (by omega) (jh (bD _));have hnm:((e.does.look c).want (e.does.jU c.jA) e.at' 3).jA=c.jA:=by rw[vY,HC.out.1.jA]
 obtain⟨f2,m2,qg,H2⟩:=HC.out.2.1.look _ _ _ _ _ _ C _ hr2 (by omega) p1 (by rw[hnm];exact HC.out.2.2.2.1);have qg:∀args w,(callFunc f2 args).run prog w=.ok (.enter f2 args) w:=qg;have H2:Hid (Calls prog f2 #[Pt b2 0,Pt C 0] w2 λen w'=>en=.returned (.tuple #[])/\nT f f.at' w2 w' m b (.iface T2 (Pt b2 0)) b2 C ((e.does.look c).want (e.does.jU c.jA) e.at' 3)):=H2;have lK:=jB (jg p2 hb2);clear p1 p2 hb2 hr2 hnm HW;go_wp2_with fail;refine H2.out.mono ?_;rintro en w3 ⟨rfl,L2⟩;have hb3:=(L2.keep.keep b (by omega) (jh (aj _))).trans lK.out.2;have e5:=jJ 3 hb3 rfl;have HW:=jB (L2.want HC.out.2.1.ok 4 0);have HL2:=jB L2;clear L2 hb3 H2;go_wp2_with fail;refine HW.out.mono ?_;rintro en w4 ⟨rfl,p1,p2⟩;have HE:Hid ((vU a e f).here w4 lo hi (.iface 333 (Pt b 0))/\kX w4 C ((vU a e f).does.look c)/\Lk w w4 lo hi C):=by
  have kk:=((HL.out.1.keep.wide (aj _) hm2).trans (lK.out.1.all _ _)).trans ((HL2.out.keep.wide hm1 (aj _)).trans (p2.all _ _));have hb2:=(kk.keep b (by omega) (jh (aj _))).trans HB.out;have q1:=(HC.out.1.ok.law _).lk HL.out.1.here lK.out.1 (by omega) (jh (bD _));have q2:=(HC.out.1.ok.law _).lk q1 HL2.out.keep (by omega) (ji (aj _));have q3:=(HC.out.1.ok.law _).lk q2 p2 (by omega) (jh (bD _));have q4:=(HC.out.2.1.ok.law _).lk HL2.out.here p2 (by omega) (jh (bD _));exact⟨⟨b,_,rfl,h1,h2,⟨m,_,_,rfl,hm1,hm2,q3,q4⟩,hb2⟩,p1,kk.wide (aj _) (by omega)⟩
 clear p1 p2;go_wp2_with fail;go_end0;exact⟨rfl,HE.out⟩
end
section
variable {w w' w1 w2 w3 w4:jo}{C lo hi b d m k:Nat}{c:Ck}{u v:jr}{e f:Ex}{a:Int}{T:jv}{x:Sx}{l:List jK}
theorem WM{g:Nat}:∀{bs:List jK}{w:jo}{lo hi i:Nat}{us:List jr}{b:jK},(∀b∈bs,Lawful b.here)->sS g bs w lo hi us->bs[i]? =some b->
 ∃l m u,us[i]? =some u/\lo<=l/\l<=m/\m<=hi/\(g<l\/m<=g)/\b.here w l m u/\∀w',(∀k,lo<=k->k<hi->k<l\/m<=k->w'.heap[k]? =w.heap[k]?)->b.here w' l m u->sS g bs w' lo hi us
 |[],_,_,_,_,_,_,_,_,hb=>by simp at hb
 |b0::bs,w,lo,hi,0,us,b,hl,⟨l,m,u,us',h0,h1,h2,h3,h4,h5,h6⟩,hb=>by
  simp only[dw,bJ]at hb;subst hb h0;refine⟨l,m,u,rfl,h1,h2,h3,h4,h5,λw' hk hh=>⟨l,m,u,us',rfl,h1,h2,h3,h4,hh,?_⟩⟩;exact J3 (λc hc=>hl c (aI _ hc)) h6 (λk k1 k2=>hk k (by omega) k2 (jh k1))
 |b0::bs,w,lo,hi,i+1,us,b,hl,⟨l,m,u,us',h0,h1,h2,h3,h4,h5,h6⟩,hb=>by
  subst h0;obtain⟨l',m',u',q0,q1,q2,q3,q4,q5,q6⟩:=WM (i:=i) (λc hc=>hl c (aI _ hc)) h6 (by simpa using hb);refine⟨l',m',u',by simpa using q0,by omega,q2,q3,q4,q5,λw' hk hh=>⟨l,m,u,us',rfl,h1,h2,h3,h4,?_,q6 w' (λk k1 k2 k3=>hk k (by omega) k2 k3) hh⟩⟩;exact(hl b0 (aW ..)).loc _ _ _ _ _ h5 (λk k1 k2=>hk k (by omega) (by omega) (ji (by omega)))
def oG(l:List jK)(c:Ck):Ck:=l.foldl (λc s=>s.does.look c) c
theorem amw(l:List jK)(c:Ck)(i:Nat)(s:jK)(h:l[i]? =some s):oG (l.take (i+1)) c=s.does.look (oG (l.take i) c):=by
 have h1:l.take (i+1)=l.take i++[s]:=by rw[fU,h];rfl
 rw[h1];unfold oG;rw[dV]
 rfl
theorem Vj:∀(l:List jK)(c:Ck),(∀s∈l,zU d s)->∃more,(oG l c).jA=c.jA++more/\more.length<=l.length
 |[],c,_=>⟨[],by simp[oG],aj _⟩
 |s::l,c,h=>by
  obtain⟨m1,e1,n1⟩:=(h s (aW ..)).jA c;obtain⟨m2,e2,n2⟩:=Vj l (s.does.look c) (λs' hs=>h s' (aI _ hs));refine⟨m1++m2,?_,by simp only[aA,aF];omega⟩;show(oG l (s.does.look c)).jA=_;rw[e2,e1,bY]
structure zq(d:Nat)(l:List jK):Prop where
 ok:∀s∈l,nZ s
 jA:∀c,(qC l c).jA=c.jA
 look:∀w lo hi v C c,mO l w lo hi v->hi<=C->kX w C c->c.jA.length+10000 * d<=800000->Calls prog 89 #[Pt C 0,v] w λen w'=>en=.returned (.tuple #[])/\mO l w' lo hi v/\kX w' C (qC l c)/\Lk w w' lo hi C
structure RP(l:List jK)(g:Nat)(w wr:jo)(lo hi C:Nat)(us:List jr)(arr:Array jr)(c:Ck)(i:Nat):Prop where
 row:wr.heap[g]? =some (.cells arr 192)
 vg:sS g l wr lo hi us
 ck:kX wr C (oG (l.take i) c)
 keep:Lk w wr lo hi C
theorem kX.back{n:Nat}(h:kX w C c)(hn:n<=c.jA.length):∃a cap,w.cell? (Ad C 0)=some (.slice a c.jA.length cap)/\(∀j,w.frozen? (Ad C j)=false)/\n<=cap/\kX (w.setCell (Ad C 0) (.slice a n cap)) C (c.cut n)/\Lk w (w.setCell (Ad C 0) (.slice a n cap)) 0 0 C:=by
 obtain⟨v,q⟩:=h;obtain⟨a,cap,rfl⟩:=Aw q.row;have hc0:=jJ 0 q.jL rfl;refine⟨a,cap,hc0,λj=>oh q.jL,?_,⟨_,q.cut hn⟩,?_⟩
 .rcases q.row with⟨_,⟨h2,h3⟩|⟨g,cap',cur,h2,_,_,h5,_⟩⟩
  .omega
  .cases h2;omega
 .exact Lk.named (v:=.slice a c.jA.length cap) (aN _ _) q.lt hc0 (λk hk=>by have:=(q.row.lt k hk).1;omega) (λk hk=>ji (aec hk))
theorem amx(h:∀s∈l,zU d s)(c:Ck):(qC l c).jA=c.jA:=by
 obtain⟨more,e,_⟩:=Vj l c h;show((oG l c).cut c.jA.length).jA=c.jA;unfold Ck.cut;rw[e];simp
theorem acH(h:∀s∈l,zU d s)(hln:l.length<=5000):zq d l:=by
 refine⟨λs hs=>(h s hs).ok,amx h,?_⟩;intro w lo hi v C c hh hC hc hn;rcases hh with⟨rfl,rfl⟩|⟨g,cap,us,arr,rfl,g1,g2,hst,hg,harr⟩
 .obtain⟨a0,cap0,b1,b2,b3,b4,b5⟩:=hc.back (aj _);have HE:Hid (mO [] (w.setCell (Ad C 0) (.slice a0 c.jA.length cap0)) lo hi (Nl)/\kX (w.setCell (Ad C 0) (.slice a0 c.jA.length cap0)) C (qC [] c)/\Lk w (w.setCell (Ad C 0) (.slice a0 c.jA.length cap0)) lo hi C):=⟨ji ⟨rfl,rfl⟩,b4,b5.all _ _⟩;have i0:(0:Int)<=(c.jA.length:Int):=by omega
  have i1:(c.jA.length:Int)<=(cap0:Int):=by omega
  clear hc b4 b5 hn;generalize c.jA.length=nl at *;go_enter func89,ntmps89;go_wp2_with fail;refine wp_loop_rounds 1 ?_;rw[rounds_succ];go_wp2_with fail;go_end0;exact⟨rfl,HE.out⟩
 .obtain⟨a0,cap0,b1,b2,b3,b4,b5⟩:=hc.back (aj _);have HA:=jB (jg h (jg hn (jg harr (jg hC (jg g1 g2)))));have HO:Hid (RP l g w w lo hi C us arr c 0):=⟨hg,hst,hc,Lk.refl _ _ _ _⟩;clear hst hg harr h hn hc b2 b3 b4 b5;obtain⟨nl,hnl⟩:∃nl,c.jA.length=nl:=⟨_,rfl⟩;have xA:=jB hnl;rw[hnl]at b1;clear hnl;go_enter func89,ntmps89;go_wp2_with fail;go_loopg [14] (l.length+1) (λgg i wr=>Hid (∃k:Nat,k+gg=l.length+1/\k<=l.length/\i=Im k/\RP l g w wr lo hi C us arr c k))
  case atStart=>exact⟨0,by omega,bD _,rfl,HO.out⟩
  case round=>
   obtain⟨k,hk1,hk2,rfl,hI⟩:=hrel.out;clear hrel HO;obtain⟨more,hmore,hml⟩:=Vj (d:=d) (l.take k) c (λs hs=>HA.out.1 s (dS hs));have abP:more.length<=5000:=by rw[gI]at hml;omega
   by_cases hlt:k<l.length
   .have d1:decide ((k:Int)<(l.length:Int))=true:=by simp;omega
    have i0:(0:Int)<=(k:Int):=by omega
    have i1:(k:Int)<(l.length:Int):=by omega
    have hget:l[k]? =some l[k]:=by simp
    have hQ:=HA.out.1 l[k] (fG hlt);obtain⟨q1,q2,q3,q4,q5⟩:=HA.out.2;obtain⟨l',m',u',e0,e1,e2,e3,e4,e5,e6⟩:=WM (λs hs=>(HA.out.1 s hs).ok.law) hI.vg hget;obtain⟨T1,b1',hu',_⟩:=hQ.ok.head _ _ _ _ e5;subst hu';have k0:wr.cell? (Ad g k)=some (.iface T1 (Pt b1' 0)):=(jH hI.row).trans (q2 _ _ e0);obtain⟨f1,m1,kK,H1⟩:=hQ.look _ _ _ _ _ C _ e5 (by omega) hI.ck (by rw[hmore,aA];omega);have kK:∀args w,(callFunc f1 args).run prog w=.ok (.enter f1 args) w:=kK;have rE:Hid (Calls prog f1 #[Pt b1' 0,Pt C 0] wr λen w'=>en=.returned (.tuple #[])/\RP l g w w' lo hi C us arr c (k+1)):=H1.mono λen w' ⟨r1,r2,r3,r4⟩=>by
     refine⟨r1,(r4.keep g (by omega) (by omega)).trans hI.row,e6 w' (λj j1 j2 j3=>r4.keep j (by omega) j3) r2,?_,hI.keep.trans (r4.wide (by omega) (by omega))⟩;rw[amw _ _ _ _ hget];exact r3
    obtain⟨g',hg'⟩:∃g',gk=g'+1:=⟨gk-1,by omega⟩;clear hget hQ q1 q2 q3 q4 q5 e0 e1 e2 e3 e4 e5 e6 hI H1 hmore hml abP;go_wp2_with fail;refine rE.out.mono ?_;rintro en w2 ⟨rfl,hI2⟩;have HI2:=jB hI2;clear hI2 rE;go_wp2_with fail;go_roundg g'
    case measure=>omega
    case rel=>exact⟨k+1,by omega,by omega,by go_num,HI2.out⟩
   .have d1:decide ((k:Int)<(l.length:Int))=false:=by simp;omega
    have hck:=hI.ck;have htk:l.take k=l:=eU (by omega);rw[htk]at hck hmore;have hle:nl<=(oG l c).jA.length:=by rw[hmore,aA,xA.out];omega
    obtain⟨a5,cap5,z1,z2,z3,z4,z5⟩:=hck.back hle;have HE:Hid (mO l (wr.setCell (Ad C 0) (.slice a5 nl cap5)) lo hi (.slice (some (Ad g 0)) l.length cap)/\kX (wr.setCell (Ad C 0) (.slice a5 nl cap5)) C (qC l c)/\Lk w (wr.setCell (Ad C 0) (.slice a5 nl cap5)) lo hi C):=by
     obtain⟨q1,q2,q3,q4,q5⟩:=HA.out.2;have H6:Lawful (mO l):=Qh λs hs=>(HA.out.1 s hs).ok.law;have h0:mO l wr lo hi (.slice (some (Ad g 0)) l.length cap):=jh ⟨g,cap,us,arr,rfl,q4,q5,hI.vg,hI.row,q2⟩;refine⟨H6.lk h0 z5 (by omega) (jh (bD _)),?_,hI.keep.trans (z5.all _ _)⟩;show kX _ C ((oG l c).cut c.jA.length);rw[xA.out];exact z4
    clear hI hck htk hmore hml abP z4 z5;have j0:(0:Int)<=(nl:Int):=by omega
    have j1:(nl:Int)<=(cap5:Int):=by omega
    generalize (oG l c).jA.length=nn at *;go_wp2_with fail;go_end0;exact⟨rfl,HE.out⟩
end
section
variable {w w' w1 w2:jo}{C lo hi b:Nat}{c:Co}{u v:jr}{l:List jK}
def lQ(l:List jK):Int:=(l.map λs=>s.jy).sum
theorem Bv{l:List jK}(h:∀s∈l,1<=s.jy):(l.length:Int)<=lQ l:=by
 unfold lQ;induction l with
 |nil=>simp
 |cons s l ih=>
  have h1:=ih λx hx=>h x (aI _ hx);have h2:=h s (aW ..);simp only[dL,gZ,aF];omega
theorem aa3:∀(l:List jK)(a:Int),(∀s∈l,1<=s.jy)->0<=a->l.foldl (λa e=>lg [a,e.jy]) a<=1000000->l.foldl (λa e=>lg [a,e.jy]) a=a+lQ l
 |[],a,_,_,_=>by simp[lQ]
 |s::l,a,h,ha,hk=>by
  have h1:∀x∈l,1<=x.jy:=λx hx=>h x (aI _ hx);have h2:=h s (aW ..);rw[bP]at hk⊢;have ht0:0<=lg [a,s.jy]:=by
   unfold lg;simp only[bP,eF];omega
  have h3:=aa3 l (lg [a,s.jy]) h1 ht0 hk;have h4:=Bv h1;rw[h3]at hk⊢;have h5:=Gv (a:=a) (b:=s.jy) (by omega) (by omega);rw[h5];simp only[lQ,dL,gZ]at h4⊢;omega
theorem Gu(h:∀s∈l,1<=s.jy)(hk:kN l<=1000000):kN l=lQ l:=by
 have:=aa3 l 0 h (aV 0) hk;unfold kN;omega
def qP(l:List jK)(c:Co):Co:=l.foldl (λc s=>s.does.lay c) c
theorem alZ(l:List jK)(c:Co)(i:Nat)(s:jK)(h:l[i]? =some s):qP (l.take (i+1)) c=s.does.lay (qP (l.take i) c):=by
 have h1:l.take (i+1)=l.take i++[s]:=by rw[fU,h];rfl
 rw[h1];unfold qP;rw[dV]
 rfl
theorem ML:∀(l:List jK)(c:Co),(∀s∈l,pV s)->(∃more,(qP l c).jA=c.jA++more/\more.length<=l.length)/\(lQ l<=1000000->((qP l c).code.length:Int)<=c.code.length+200 * lQ l)
 |[],c,_=>⟨⟨[],by simp[qP],by simp⟩,λ_=>by simp[qP,lQ]⟩
 |s::l,c,h=>by
  have h0:=h s (aW ..);have hl:∀x∈l,pV x:=λx hx=>h x (aI _ hx);obtain⟨⟨m2,q1,q2⟩,q3⟩:=ML l (s.does.lay c) hl;obtain⟨m1,p1,p2⟩:=h0.jA c;have e:qP (s::l) c=qP l (s.does.lay c):=rfl;have hcp:=Bv λx hx=>(hl x hx).pos;have hsp:=h0.pos;refine⟨⟨m1++m2,by rw[e,q1,p1,bY],by simp only[aA,aF];omega⟩,λhk=>?_⟩;have hk2:s.jy+lQ l<=1000000:=by simpa [lQ]using hk
  have r1:=q3 (by omega);have r2:=h0.len c (by omega);rw[e];have e2:lQ (s::l)=s.jy+lQ l:=by simp[lQ]
  rw[e2];omega
theorem aay(h:∀s∈l,1<=s.jy)(i:Nat)(s:jK)(hs:l[i]? =some s):(i:Int)+s.jy<=lQ l/\lQ (l.take i)+s.jy<=lQ l:=by
 have h1:l=l.take i++s::l.drop (i+1):=by
  obtain⟨hi,he⟩:=List.getElem?_eq_some_iff.1 hs;rw[<-he,<-dA hi,List.take_append_drop]
 have h2:lQ l=lQ (l.take i)+(s.jy+lQ (l.drop (i+1))):=by
  have:lQ l=lQ (l.take i++s::l.drop (i+1)):=by rw[<-h1]
  rw[this];simp[lQ]
 have h3:=Bv (l:=l.drop (i+1)) λx hx=>h x (gU hx);have h4:=Bv (l:=l.take i) λx hx=>h x (dS hx);have h5:(l.take i).length=i:=by
  rw[gI];have:=(List.getElem?_eq_some_iff.1 hs).1;omega
 rw[h5]at h4;omega
def wF(l:List jK):Hx.sJ:=λw lo hi v=>
 (l=[]/\v=Nl)\/
 ∃g cap arr,v=.slice (some (Ad g 0)) l.length cap/\lo<=g/\g<hi/\w.heap[g]? =some (.cells arr 192)/\∀(k:Nat)(s:jK),l[k]? =some s->∃u,arr[k]? =some u/\s.here w lo hi u
theorem ama(h:∀s∈l,Lawful s.here):Lawful (wF l):=by
 constructor
 .rintro w w' lo hi v h4 hk;rcases h4 with h4|⟨g,cap,arr,k1,k2,k3,k4,k5⟩
  .exact ji h4
  .refine jh ⟨g,cap,arr,k1,k2,k3,(hk g k2 k3).trans k4,λk s hs=>?_⟩;obtain⟨u,e1,e2⟩:=k5 k s hs;exact⟨u,e1,(h s (bT hs)).loc _ _ _ _ _ e2 hk⟩
 .rintro w lo hi lo' hi' v h4 l1 l2;rcases h4 with h4|⟨g,cap,arr,k1,k2,k3,k4,k5⟩
  .exact ji h4
  .refine jh ⟨g,cap,arr,k1,by omega,by omega,k4,λk s hs=>?_⟩;obtain⟨u,e1,e2⟩:=k5 k s hs;exact⟨u,e1,(h s (bT hs)).wide _ _ _ _ _ _ e2 l1 l2⟩
theorem amb(h:∀s∈l,Lawful s.here){v:jr}(hh:mO l w lo hi v):wF l w lo hi v:=by
 rcases hh with h4|⟨g,cap,us,arr,e1,g1,g2,hst,hg,harr⟩
 .exact ji h4
 .refine jh ⟨g,cap,arr,e1,g1,g2,hg,λk s hs=>?_⟩;obtain⟨l',m',u',e0,e1,e2,e3,e4,e5,e6⟩:=WM h hst hs;exact⟨u',harr _ _ e0,(h s (bT hs)).wide _ _ _ _ _ _ e5 (by omega) (by omega)⟩
structure sZ(l:List jK):Prop where
 ok:∀s∈l,nZ s
 jA:∀c,(kU l c).jA=c.jA
 len:∀c,kN l<=1000000->((kU l c).code.length:Int)<=c.code.length+200 * kN l
 lay:∀w lo hi v C c,wF l w lo hi v->hi<=C->kF w C c->Room c (kN l)->Calls prog 91 #[Pt C 0,v] w λen w'=>en=.returned (.tuple #[])/\kF w' C (kU l c)/\Gk w w' C
theorem sZ.law(h:sZ l):Lawful (mO l):=Qh λs hs=>(h.ok s hs).law
theorem sZ.zG(h:sZ l):Lawful (wF l):=ama λs hs=>(h.ok s hs).law
theorem sZ.flat(h:sZ l){v:jr}(hh:mO l w lo hi v):wF l w lo hi v:=amb (λs hs=>(h.ok s hs).law) hh
theorem kF.leave{cc:Co}(h:kF w C cc){n:Nat}(hn:n<=cc.jA.length)(fr:Int):∃a cap,w.cell? (Ad C 1)=some (.slice a cc.jA.length cap)/\cc.jA.length<=cap/\w.cell? (Ad C 2)=some (Im cc.free)/\(∀j,w.frozen? (Ad C j)=false)/\kF ((w.setCell (Ad C 1) (.slice a n cap)).setCell (Ad C 2) (Im fr)) C ((cc.cut n).jZ fr)/\Gk w ((w.setCell (Ad C 1) (.slice a n cap)).setCell (Ad C 2) (Im fr)) C:=by
 obtain⟨a,cap,h1,h2,h3,⟨v,nv,h4⟩,h5⟩:=h.back hn;refine⟨a,cap,h1,h2,?_,h3,⟨v,nv,h4.jZ fr⟩,h5.trans (Gk.free _ _ _)⟩;obtain⟨v,nv,h⟩:=h;exact jH h.jL
theorem Ib(h:∀s∈l,pV s):sZ l:=by
 have hpos:∀s∈l,1<=s.jy:=λs hs=>(h s hs).pos;refine⟨λs hs=>(h s hs).ok,λc=>?_,λc hk=>?_,?_⟩
 .obtain⟨⟨more,h1,_⟩,_⟩:=ML l c h;show((qP l c).jA.take c.jA.length)=c.jA;rw[h1];simp
 .have hs:=Gu hpos hk;rw[hs]at hk⊢;exact(ML l c h).2 hk
 intro w lo hi v C c hh hC hc hr;have hs:=Gu hpos hr.jy;rw[hs]at hr;have hrc:=hr.code;have hrn:=hr.jA;have hrk:=hr.jy;have hlen:(l.length:Int)<=1000000:=by have:=Bv hpos;omega
 obtain⟨a0,cap0,c1,_,c2,_⟩:=hc.leave (aj _) 0;have HP:Hid (∀k,∃more,(qP (l.take k) c).jA=c.jA++more):=λk=>by
  obtain⟨⟨more,h1,_⟩,_⟩:=ML (l.take k) c λs hs=>h s (dS hs);exact⟨more,h1⟩
 have Za:Hid (∀k s,l[k]? =some s->Room (qP (l.take k) c) s.jy):=λk s hks=>by
  obtain⟨⟨more,p1,p2⟩,p3⟩:=ML (l.take k) c λs hs=>h s (dS hs);obtain⟨r1,r2⟩:=aay hpos k s hks;have r3:0<=lQ (l.take k):=by have:=Bv (l:=l.take k) λx hx=>hpos x (dS hx);omega
  have r4:=hpos s (bT hks);have r5:=p3 (by omega);refine⟨by omega,by omega,?_⟩;rw[p1,aA];rw[gI]at p2;have:(more.length:Int)<=k:=by omega
  omega
 have HA:Hid (∀(k:Nat)(y:jo)(hk:k<l.length),Gk w y C->kF y C (qP (l.take k) c)->∃g T b f,(∃cap,v=.slice (some (Ad g 0)) l.length cap)/\y.cell? (Ad g k)=some (.iface T (Pt b 0))/\(∀w,(method 576 T (Pt b 0) "helm/lang.lay").run prog w=.ok (f,Pt b 0) w)/\Enters f/\
  Calls prog f #[Pt b 0,Pt C 0] y λen w'=>en=.returned (.tuple #[])/\kF w' C (qP (l.take (k+1)) c)/\Gk w w' C):=by
  intro k y hk hy hgc;rcases hh with⟨hf,_⟩|⟨g,cap,arr,rfl,g1,g2,hg,harr⟩
  .rw[hf]at hk;simp at hk
  have hget:l[k]? =some l[k]:=by simp
  have hQ:=h l[k] (fG hk);obtain⟨u',e0,e5⟩:=harr k _ hget;obtain⟨T1,b1,hu',_⟩:=hQ.ok.head _ _ _ _ e5;subst hu';obtain⟨f1,m1,kK,H1⟩:=hQ.lay _ _ _ _ _ C _ (hQ.ok.law.gk e5 hy (by omega)) (by omega) hgc (Za.out k _ hget);refine⟨g,T1,b1,f1,⟨cap,rfl⟩,(hy.cell (by omega)).trans ((jH hg).trans e0),m1,kK,H1.mono ?_⟩;rintro en w' ⟨r1,r2,r3⟩;rw[alZ l c k _ hget];exact⟨r1,r2,hy.trans r3⟩
 obtain⟨va,vc,hv⟩:∃va vc,v=.slice va l.length vc:=by
  rcases hh with⟨hf,rfl⟩|⟨g,cap,arr,rfl,_⟩
  .exact⟨none,0,by rw[hf];rfl⟩
  .exact⟨_,_,rfl⟩
 subst hv;have HZ:Hid (∀y,kF y C (qP (l.take l.length) c)->Gk w y C->∃a n cap,y.cell? (Ad C 1)=some (.slice a n cap)/\(c.jA.length:Int)<=cap/\(∃u,y.cell? (Ad C 2)=some u)/\(∀j,y.frozen? (Ad C j)=false)/\kF ((y.setCell (Ad C 1) (.slice a c.jA.length cap)).setCell (Ad C 2) (Im c.free)) C (kU l c)/\Gk w ((y.setCell (Ad C 1) (.slice a c.jA.length cap)).setCell (Ad C 2) (Im c.free)) C):=λy hg hy=>by
  obtain⟨more,hmo⟩:=HP.out l.length;rw[eU (aj _)]at hg hmo;have hle:c.jA.length<=(qP l c).jA.length:=by rw[hmo];simp
  obtain⟨a,cap,z1,z2,z3,z4,z5,z6⟩:=hg.leave hle c.free;exact⟨a,_,cap,z1,by omega,⟨_,z3⟩,z4,z5,hy.trans z6⟩
 have HO:=jB (λn=>jg (hc.grow (lH w n)) (Gk.grown (lH w n) hc.lt));clear hh hc hr h Za HP hs hrc hrn hrk;generalize kU l c=R at *;generalize c.free=fr at *;generalize hnl:c.jA.length=nl at *;go_enter func91,ntmps91;go_wp2_with fail;go_quiet (fail);go_wp2_with fail;go_loopg [19] (l.length+1) (λgg i wr=>Hid (∃k:Nat,k+gg=l.length+1/\k<=l.length/\i=Im k/\kF wr C (qP (l.take k) c)/\Gk w wr C))
 case atStart=>exact⟨0,by omega,bD _,rfl,HO.out _⟩
 case round=>
  obtain⟨k,hk1,hk2,rfl,hI,hG⟩:=hrel.out;clear hrel HO;by_cases hlt:k<l.length
  .have d1:decide ((k:Int)<(l.length:Int))=true:=by simp;omega
   have i0:(0:Int)<=(k:Int):=by omega
   have i1:(k:Int)<(l.length:Int):=by omega
   obtain⟨g,T1,b1,f1,⟨cap,hv⟩,k0,m1,kK,H1⟩:=HA.out k wr hlt hG hI;cases hv;have kK:∀args w,(callFunc f1 args).run prog w=.ok (.enter f1 args) w:=kK;have H1:=jB H1;obtain⟨g',hg'⟩:∃g',gk=g'+1:=⟨gk-1,by omega⟩;clear hI hG;go_wp2_with fail;refine H1.out.mono ?_;rintro en w2 ⟨rfl,p2,q2⟩;have HE:=jB (jg p2 q2);clear p2 q2 H1;go_wp2_with fail;go_roundg g'
   case measure=>omega
   case rel=>exact⟨k+1,by omega,by omega,by go_num,HE.out⟩
  .have d1:decide ((k:Int)<(l.length:Int))=false:=by simp;omega
   have hke:k=l.length:=by omega
   obtain⟨a,n,cap,z1,z2,⟨z3u,z3⟩,z4,z5,z6⟩:=HZ.out wr (by rw[hke]at hI;exact hI) hG;have HE:=jB (jg z5 z6);have j0:(0:Int)<=(nl:Int):=by omega
   clear hI hG hke z5 z6;go_wp2_with fail;go_end0;exact⟨rfl,HE.out⟩
end
end
end Go.Proofs.YthllhabjfchgiaaGreatDoor
