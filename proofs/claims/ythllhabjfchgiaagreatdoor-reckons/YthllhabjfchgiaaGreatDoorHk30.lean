import Derived.Test.YthllhabjfchgiaaGreatDoorHk29
set_option maxRecDepth 100000
set_option maxHeartbeats 8000000
set_option linter.unusedSimpArgs false
namespace Go.Proofs.YthllhabjfchgiaaGreatDoor
open _root_.Go.Proofs.Tryz
section
open Go.RowKit Hx
attribute [local go_sem ↓] Go.wp_at_zero Go.wp_at_succ
attribute [local go_sem] kP
section
variable {w w' w1 w2:jk}{C lo hi b:Nat}{c:Co}{u:jm}{e f:Ex}{a:Int}{T:jo}{x:Sx}
structure qg(s:jG):Prop where
 ok:oI s
 pos:1<=s.jw
 jy:∀c,∃more,(s.does.lay c).jy=c.jy++more/\more.length<=1
 len:∀c,s.jw<=1000000->((s.does.lay c).code.length:Int)<=c.code.length+200 * s.jw
 lay:∀w lo hi T b C c,s.here w lo hi (.iface T (Pt b 0))->hi<=C->kD w C c->Room c s.jw->
  ∃f,(∀w,(method 576 T (Pt b 0) "helm/lang.lay").run prog w=.ok (f,Pt b 0) w)/\Enters f/\
   Calls prog f #[Pt b 0,Pt C 0] w λen w'=>en=.returned (.tuple #[])/\kD w' C (s.does.lay c)/\Gk w w' C
def wM(T' T:jo)(at' jw:Int)(K:Hx.Kids)(mk:List jm->List jm)(ds:Ds:={}):jG:=
 ⟨jw,λw lo hi v=>∃b us,v=.iface T' (Pt b 0)/\lo<=b/\b<hi/\K w lo hi us/\w.heap[b]? =some (.cells (Im at'::Im jw::mk us).toArray T),ds⟩
theorem H8{T' T:jo}{at' jw:Int}{K:Hx.Kids}{mk:List jm->List jm}{ds:Ds}(hT:o7 T')(hK:yK K)(hc:1<=jw/\jw<=1000001):oI (wM T' T at' jw K mk ds):=by
 refine⟨⟨?_,?_⟩,?_,by show 0<=jw/\jw<=1000001;omega⟩
 .rintro w w' lo hi v ⟨b,us,hv,h1,h2,h3,h4⟩ hk;exact⟨b,us,hv,h1,h2,hK.loc _ _ _ _ _ h3 hk,(hk b h1 h2).trans h4⟩
 .rintro w lo hi lo' hi' v ⟨b,us,hv,h1,h2,h3,h4⟩ l1 l2;exact⟨b,us,hv,by omega,by omega,hK.wide _ _ _ _ _ _ h3 l1 l2,h4⟩
 .rintro w lo hi v ⟨b,us,hv,h1,h2,h3,h4⟩;exact⟨T',b,hv,hT,h1,h2,jI h4⟩
theorem JL{T' T:jo}{at' jw:Int}{K K':Hx.Kids}{mk:List jm->List jm}{ds ds':Ds}{v:jm}(hK:∀w lo b hi us,K w lo b us->b<=hi->K' w lo hi us)(h:(yF T' T at' jw K mk ds).here w lo hi v):(wM T' T at' jw K' mk ds').here w lo hi v:=by
 obtain⟨b,us,hv,h1,h2,h3,h4⟩:=h;exact⟨b,us,hv,h1,h2,hK _ _ _ _ _ h3 (by omega),h4⟩
theorem qg.of{s s':jG}(h:qg s')(ok:oI s)(hh:∀w lo hi v,s.here w lo hi v->s'.here w lo hi v)(hc:s.jw=s'.jw)(hd:s.does.lay=s'.does.lay):qg s:=
 ⟨ok,by rw[hc];exact h.pos,λc=>by rw[hd];exact h.jy c,λc hk=>by rw[hd,hc];exact h.len c (by rw[<-hc];exact hk),λw lo hi T b C c hv hC hg hr=>by rw[hd];exact h.lay w lo hi T b C c (hh _ _ _ _ hv) hC hg (by rw[<-hc];exact hr)⟩
theorem Ik{c c':Co}(h:c'.jy=c.jy):∃more,c'.jy=c.jy++more/\more.length<=1:=⟨[],by rw[h,aX],by simp⟩
theorem yh{xs:List Int}(h:∀x∈xs,0<=x/\x<=1000001):1<=jR xs:=by
 have h1:=yu xs h;unfold jR;generalize lu xs=t at *;unfold lu;simp only[bP,eF];omega
theorem V3(a:Int):qg (yH a):=by
 refine⟨aff a,aV 1,λc=>Ik rfl,λc _=>?_,?_⟩
 .have:=oO c 1 [];simp only[bg]at this;show(((c.lay 1 []).code.length:Nat):Int)<=c.code.length+200 * 1;omega
 rintro w lo hi T b C c ⟨b',us,hv,h1,h2,h3,hb⟩ hC hc hr;cases hv;refine⟨332,λw=>by kernel_rfl,λargs w=>by kernel_rfl,?_⟩;have HL:=jA (FM hc 1 (by have:=hr.code;have:(yH a).jw=1:=rfl;omega));clear hb hc h3;go_enter func332,ntmps332;go_wp2_with fail;refine HL.out.mono ?_;rintro en w1 ⟨rfl,p1,q1⟩;have HE:=jA (jd p1 q1);clear p1 q1 HL;go_wp2_with fail;go_end0;exact⟨rfl,HE.out⟩
theorem agn(he:kC e)(slot:Int):(c.store slot e.does).jy=c.jy:=by
 show(if (e.does.give c slot).2=slot then (e.does.give c slot).1 else (e.does.give c slot).1.lay 7 [slot,(e.does.give c slot).2]).jy=c.jy;split
 .exact he.jy c slot
 .exact he.jy c slot
theorem agl(he:kC e)(slot:Int)(hk:e.jw<=1000000):((c.store slot e.does).code.length:Int)<=c.code.length+200 * e.jw+71:=by
 have h1:=he.len c slot hk;have h2:=oO (e.does.give c slot).1 7 [slot,(e.does.give c slot).2];simp only[aF,bg]at h2;show((if (e.does.give c slot).2=slot then (e.does.give c slot).1 else (e.does.give c slot).1.lay 7 [slot,(e.does.give c slot).2]).code.length:Int)<=_;split<;>omega
theorem abp(he:kC e)(hh:e.here e.at' w lo hi u)(hC:hi<=C)(hc:kD w C c)(hr:Room c e.jw)(slot:Int):
 Calls prog 313 #[Pt C 0,Im slot,u] w λen w'=>en=.returned (.tuple #[])/\kD w' C (c.store slot e.does)/\Gk w w' C:=by
 obtain⟨T1,b1,rfl,_⟩:=he.ok.head _ _ _ _ _ hh;obtain⟨f1,m1,kM,H1⟩:=he.give _ _ _ _ _ _ C c slot hh hC hc hr;have kM:∀args w,(callFunc f1 args).run prog w=.ok (.enter f1 args) w:=kM;have H1:=jA (H1);have hl:=he.LD hr slot;obtain⟨v0,JR,h0⟩:=hc;have c2:=jK 2 h0.jM rfl;clear h0 hh hr;unfold Co.store;generalize e.does.give c slot=r at *;obtain⟨rc,rs⟩:=r;simp only at H1 hl⊢;generalize hfr:c.free=fr at *;by_cases hs:rs=slot
 .rw[jh hs];have hb:(rs !=slot)=false:=by simp[hs]
  go_enter func313,ntmps313;go_wp2_with fail;refine H1.out.mono ?_;rintro e1 w1 ⟨rfl,⟨v1,zT,p1⟩,q1⟩;have d2:=jK 2 p1.jM rfl;have fz:=qV p1.jM;have HE:Hid (kD (w1.setCell (Ad C 2) (Im fr)) C (rc.jX fr)/\Gk w (w1.setCell (Ad C 2) (Im fr)) C):=⟨⟨v1,zT,p1.jX fr⟩,q1.trans (Gk.free _ _ _)⟩;clear p1 q1 H1;go_wp2_with fail;go_end0;exact⟨rfl,HE.out⟩
 .rw[jg hs];have hb:(rs !=slot)=true:=by simp[hs]
  go_enter func313,ntmps313;go_wp2_with fail;refine H1.out.mono ?_;rintro e1 w1 ⟨rfl,p1,q1⟩;have HL:=jA (Au p1 7 slot rs (by omega));have mg:=jA q1;clear p1 q1 H1;go_wp2_with fail;refine HL.out.mono ?_;rintro e2 w2 ⟨rfl,⟨v1,zT,p1⟩,q1⟩;have d2:=jK 2 p1.jM rfl;have fz:=qV p1.jM;have HE:Hid (kD (w2.setCell (Ad C 2) (Im fr)) C ((rc.lay 7 [slot,rs]).jX fr)/\Gk w (w2.setCell (Ad C 2) (Im fr)) C):=⟨⟨v1,zT,p1.jX fr⟩,(mg.out.trans q1).trans (Gk.free _ _ _)⟩;clear p1 q1 HL mg;go_wp2_with fail;go_end0;exact⟨rfl,HE.out⟩
theorem agq(he:kC e)(a i:Int){k:Int}(hk1:1<=k/\k<=1000001)(hke:k<=1000000->1+e.jw<=k):qg (wM 327 329 a k (og (e.here e.at')) (λus=>Im i::us) (agp i e)):=by
 have ec:=he.ok.jw;refine⟨H8 (by simp[o7]) (qW (he.ok.law _)) hk1,hk1.1,λc=>Ik (agn he i),λc hk=>?_,?_⟩
 .have hk:=hk;have hp:=hke hk;have:=agl (c:=c) he i (by omega);show(((c.store i e.does).code.length:Nat):Int)<=c.code.length+200 * k;omega
 rintro w lo hi T b C c ⟨b',us,hv,h1,h2,⟨u,rfl,hu⟩,hb⟩ hC hc hr;cases hv;have hr:Room c (k):=hr;have hp:=hke hr.jw;obtain⟨T1,b1,rfl,_⟩:=he.ok.head _ _ _ _ _ hu;have c2:=jK 2 hb rfl;have c3:=jK 3 hb rfl;have HS:Hid (∀n,Calls prog 313 #[Pt C 0,Im i,.iface T1 (Pt b1 0)] (w.drewN n) λen w'=>en=.returned (.tuple #[])/\kD w' C (c.store i e.does)/\Gk w w' C):=λn=>by
  have g:=lK w n;have gk:=Gk.grown g hc.lt;refine(abp he ((he.ok.law _).gk hu gk (by omega)) hC (hc.grow g) (hr.less (by omega)) i).mono ?_;rintro en w' ⟨e1,e2,e3⟩;exact⟨e1,e2,gk.trans e3⟩
 refine⟨319,λw=>by kernel_rfl,λargs w=>by kernel_rfl,?_⟩;clear hu hb hc hr;go_enter func319,ntmps319;go_wp2_with fail;refine nP 9 (by kernel_rfl) (by kernel_rfl) ?_;simp only[aC,aO,aG,aQ];repeat (go_big_quiet_step (fail))
 refine bF ?_;intro _ hw';obtain⟨k3,hw''⟩:=hw';subst hw'';go_wp2_with fail;refine(HS.out _).mono ?_;rintro en w1 ⟨rfl,p1,q1⟩;have HE:=jA (jd p1 q1);clear p1 q1 HS;go_wp2_with fail;go_end0;exact⟨rfl,HE.out⟩
theorem agr(he:kC e)(a i:Int):qg (mY a i e):=(agq he a i ⟨yh (by simpa using he.ok.jw),(qj he.ok.jw).2⟩ (λhk=>by rw[yG he.ok.jw.1 he.ok.jw.2 hk];omega)).of (uK (by simp[o7]) (qW (he.ok.law _)) (qj he.ok.jw)) (λ_ _ _ _ h=>JL (PO (he.ok.law _)) h) rfl rfl
theorem afV(he:kC e)(t:Wd)(a:Int){k:Int}(hk1:1<=k/\k<=1000001)(hke:k<=1000000->1+e.jw<=k):qg (wM 321 326 a k (og (e.here e.at')) (λus=>.string t.text::Im t.at'::us) (afU t e)):=by
 obtain⟨tt,ta⟩:=t;have ec:=he.ok.jw;refine⟨H8 (by simp[o7]) (qW (he.ok.law _)) hk1,hk1.1,λc=>Ik (agn he _),λc hk=>?_,?_⟩
 .have hk:=hk;have hp:=hke hk;have:=agl (c:=c) he (c.wu tt) (by omega);show(((c.store (c.wu tt) e.does).code.length:Nat):Int)<=c.code.length+200 * k;omega
 rintro w lo hi T b C c ⟨b',us,hv,h1,h2,⟨u,rfl,hu⟩,hb⟩ hC hc hr;cases hv;have hr:Room c (k):=hr;have hp:=hke hr.jw;have hrn:=hr.jy;obtain⟨T1,b1,rfl,_⟩:=he.ok.head _ _ _ _ _ hu;have zM:=hc.lt;have c2:∀x:Ext w,x.val.cell? (Ad b 2)=some (.string tt):=λx=>jI ((x.grown.block b (by omega) (by simp)).trans hb);have c4:∀x:Ext w,x.val.cell? (Ad b 4)=some (.iface T1 (Pt b1 0)):=λx=>jI ((x.grown.block b (by omega) (by simp)).trans hb);have HSl:Hid (∀x:Ext w,Calls prog 314 #[Pt C 0,.string tt] x.val λen w'=>en=.returned (Im (c.wu tt))/\x.val.grownBy w' none):=λx=>abo (hc.grow x.grown) tt (by omega);have HS:Hid (∀y,w.grownBy y none->Calls prog 313 #[Pt C 0,Im (c.wu tt),.iface T1 (Pt b1 0)] y λen w'=>en=.returned (.tuple #[])/\kD w' C (c.store (c.wu tt) e.does)/\Gk w w' C):=λy g=>by
  have gk:=Gk.grown g zM;refine(abp he ((he.ok.law _).gk hu gk (by omega)) hC (hc.grow g) (hr.less (by omega)) (c.wu tt)).mono ?_;rintro en w' ⟨e1,e2,e3⟩;exact⟨e1,e2,gk.trans e3⟩
 refine⟨310,λw=>by kernel_rfl,λargs w=>by kernel_rfl,?_⟩;clear hu hb hc hr;show Calls prog 310 #[Pt b 0,Pt C 0] w λen w'=>en=.returned (.tuple #[])/\kD w' C (c.store (c.wu tt) e.does)/\Gk w w' C;generalize c.store (c.wu tt) e.does=R at *;generalize c.wu tt=sl at *;go_enter func310,ntmps310;go_wp2_with fail;have hne:=OL w;refine Rx 12 (by kernel_rfl) (by kernel_rfl) ?_;simp only[aC,aO,aG,aQ];repeat (go_big_quiet_step ((go_at_call 314;exact Calls.TD (HSl.out _))))
 refine bF ?_;intro w' hg;have HS2:=jA (HS.out w' hg);clear HS hg;go_wp2_with fail;refine HS2.out.mono ?_;rintro en w1 ⟨rfl,p1,q1⟩;have HE:=jA (jd p1 q1);clear p1 q1 HS2;go_wp2_with fail;go_end0;exact⟨rfl,HE.out⟩
theorem afW(he:kC e)(t:Wd):qg (sO t e):=(afV he t t.at' ⟨yh (by simpa using he.ok.jw),(qj he.ok.jw).2⟩ (λhk=>by rw[yG he.ok.jw.1 he.ok.jw.2 hk];omega)).of (uK (by simp[o7]) (qW (he.ok.law _)) (qj he.ok.jw)) (λ_ _ _ _ h=>JL (PO (he.ok.law _)) h) rfl rfl
theorem aeT(he:kC e)(hf:kC f)(a:Int){k:Int}(hk1:1<=k/\k<=1000001)(hke:k<=1000000->1+(e.jw+f.jw)<=k):qg (wM 333 335 a k (AP (e.here e.at') (f.here f.at')) (λus=>us) (VU e f)):=by
 have ec:=he.ok.jw;have fc:=hf.ok.jw;refine⟨H8 (by simp[o7]) (PV (he.ok.law _) (hf.ok.law _)) hk1,hk1.1,λc=>Ik ?_,λc hk=>?_,?_⟩
 .show(f.does.give (e.does.give c (-1)).1 (-1)).1.jy=c.jy;rw[hf.jy,he.jy]
 .have hk:=hk;have hp:=hke hk;have h1:=he.len c (-1) (by omega);have h2:=hf.len (e.does.give c (-1)).1 (-1) (by omega);have h3:=oO (f.does.give (e.does.give c (-1)).1 (-1)).1 36 [(e.does.give c (-1)).2,(f.does.give (e.does.give c (-1)).1 (-1)).2];simp only[aF,bg]at h3;show((((f.does.give (e.does.give c (-1)).1 (-1)).1.lay 36 [(e.does.give c (-1)).2,(f.does.give (e.does.give c (-1)).1 (-1)).2]).code.length:Nat):Int)<=c.code.length+200 * k;omega
 rintro w lo hi T b C c ⟨b',us,hv,h1,h2,⟨u,v,rfl,hu,hv2⟩,hb⟩ hC hc hr;cases hv;have hr:Room c (k):=hr;have hp:=hke hr.jw;have hrc:=hr.code;have hrn:=hr.jy;have hrk:=hr.jw;obtain⟨T1,b1,rfl,_⟩:=he.ok.head _ _ _ _ _ hu;obtain⟨T2,b2,rfl,_⟩:=hf.ok.head _ _ _ _ _ hv2;obtain⟨f1,m1,kM,H1⟩:=he.give _ _ _ _ _ _ C c (-1) hu (by omega) hc (hr.less (by omega));have kM:∀args w,(callFunc f1 args).run prog w=.ok (.enter f1 args) w:=kM;have H1:=jA (H1);have hl1:=he.len c (-1) (by omega);have hn1:=he.jy c (-1);have HR:Hid (kC f/\f.here f.at' w lo hi (.iface T2 (Pt b2 0))/\Room (e.does.give c (-1)).1 f.jw):=⟨hf,hv2,⟨by omega,by omega,by rw[hn1];omega⟩⟩;have hl2:=hf.LD HR.out.2.2 (-1);have d2:=jK 2 hb rfl;have d3:=jK 3 hb rfl;obtain⟨v0,JR,h0⟩:=hc;have c2:=jK 2 h0.jM rfl;have hbC:b<C:=by omega
 refine⟨328,λw=>by kernel_rfl,λargs w=>by kernel_rfl,?_⟩;clear h0 hu hv2 hr hl1 hn1 hb hrc hrn hrk;show Calls prog 328 #[Pt b 0,Pt C 0] w λen w'=>en=.returned (.tuple #[])/\kD w' C (((f.does.give (e.does.give c (-1)).1 (-1)).1.lay 36 [(e.does.give c (-1)).2,(f.does.give (e.does.give c (-1)).1 (-1)).2]).jX c.free)/\Gk w w' C;generalize e.does.give c (-1)=x at *;obtain⟨xc,xs⟩:=x;simp only at H1 HR hl2⊢;generalize hy:f.does.give xc (-1)=y at *;have HY:=jA hy;clear hy;obtain⟨yc,ys⟩:=y;simp only at hl2⊢;generalize hfr:c.free=fr at *;go_enter func328,ntmps328;go_wp2_with fail;refine H1.out.mono ?_;rintro e1 w1 ⟨rfl,p1,q1⟩;have k3:=(q1.cell hbC).trans d3;obtain⟨f2,m2,qp,H2⟩:=HR.out.1.give _ _ _ _ _ _ C xc (-1) ((HR.out.1.ok.law _).gk HR.out.2.1 q1 (by omega)) (by omega) p1 HR.out.2.2;have qp:∀args w,(callFunc f2 args).run prog w=.ok (.enter f2 args) w:=qp;rw[HY.out]at H2;have H2:=jA (H2);have mg:Hid (Gk w w1 C):=q1;clear p1 q1 H1;go_wp2_with fail;refine H2.out.mono ?_;rintro e2 w2 ⟨rfl,p2,q2⟩;have HL:=jA (Au p2 36 xs ys (by omega));have lT:Hid (Gk w w2 C):=mg.out.trans q2;clear p2 q2 H2 mg;go_wp2_with fail;refine HL.out.mono ?_;rintro e3 w3 ⟨rfl,⟨v3,nv3,p3⟩,q3⟩;have k2:w3.cell? (Ad C 2)=some (Im (yc.lay 36 [xs,ys]).free):=jI p3.jM;have fz:∀j,w3.frozen? (Ad C j)=false:=λj=>oQ p3.jM;have HE:Hid (kD (w3.setCell (Ad C 2) (Im fr)) C ((yc.lay 36 [xs,ys]).jX fr)/\Gk w (w3.setCell (Ad C 2) (Im fr)) C):=⟨⟨v3,nv3,p3.jX fr⟩,(lT.out.trans q3).trans (Gk.free _ _ _)⟩;clear p3 q3 HL lT
 go_wp2_with fail;go_end0;exact⟨rfl,HE.out⟩
theorem aeU(he:kC e)(hf:kC f)(a:Int):qg (vg a e f):=(aeT he hf a ⟨yh (by simp;exact⟨he.ok.jw,hf.ok.jw⟩),(rG he.ok.jw hf.ok.jw).2⟩ (λhk=>by rw[zU he.ok.jw.1 he.ok.jw.2 hf.ok.jw.1 hf.ok.jw.2 hk];omega)).of (uK (by simp[o7]) (wJ (he.ok.law _) (hf.ok.law _)) (rG he.ok.jw hf.ok.jw)) (λ_ _ _ _ h=>JL (acT (he.ok.law _) (hf.ok.law _)) h) rfl rfl
theorem adr(he:kC e)(a:Int)(t:Wd){k:Int}(hk1:1<=k/\k<=1000001)(hke:k<=1000000->1+e.jw<=k):qg (wM 331 332 a k (og (e.here e.at')) (λus=>.string t.text::Im t.at'::us) (Qg t e)):=by
 obtain⟨tt,ta⟩:=t;have ec:=he.ok.jw;have hD:∀c,(wM 331 332 a k (og (e.here e.at')) (λus=>.string (⟨tt,ta⟩:Wd).text::Im (⟨tt,ta⟩:Wd).at'::us) (Qg ⟨tt,ta⟩ e)).does.lay c=((if (e.does.give c (-1)).2=c.free then (e.does.give c (-1)).1 else (e.does.give c (-1)).1.lay 7 [c.free,(e.does.give c (-1)).2]).jX (wrap64 (c.free+1))).know tt c.free:=λ_=>rfl;refine⟨H8 (by simp[o7]) (qW (he.ok.law _)) hk1,hk1.1,λc=>⟨[(tt,c.free)],?_,by simp⟩,λc hk=>?_,?_⟩
 .rw[hD];show(if (e.does.give c (-1)).2=c.free then (e.does.give c (-1)).1 else (e.does.give c (-1)).1.lay 7 [c.free,(e.does.give c (-1)).2]).jy++[(tt,c.free)]=_
  congr 1
  split
  .exact he.jy c (-1)
  .exact he.jy c (-1)
 .have hk:=hk;have hp:=hke hk;have h1:=he.len c (-1) (by omega);have h2:=oO (e.does.give c (-1)).1 7 [c.free,(e.does.give c (-1)).2];simp only[aF,bg]at h2;rw[hD];show((if (e.does.give c (-1)).2=c.free then (e.does.give c (-1)).1 else (e.does.give c (-1)).1.lay 7 [c.free,(e.does.give c (-1)).2]).code.length:Int)<=c.code.length+200 * k;split<;>omega
 rintro w lo hi T b C c ⟨b',us,hv,h1,h2,⟨u,rfl,hu⟩,hb⟩ hC hc hr;cases hv;have hr:Room c (k):=hr;have hp:=hke hr.jw;have hrn:=hr.jy;obtain⟨T1,b1,rfl,_⟩:=he.ok.head _ _ _ _ _ hu;obtain⟨f1,m1,kM,H1⟩:=he.give _ _ _ _ _ _ C c (-1) hu (by omega) hc (hr.less (by omega));have kM:∀args w,(callFunc f1 args).run prog w=.ok (.enter f1 args) w:=kM;have H1:=jA (H1);have hl:=he.LD (hr.less (by omega):Room c e.jw) (-1);have hn1:(e.does.give c (-1)).1.jy.length<=3000000:=by rw[he.jy];omega
 obtain⟨v0,JR,h0⟩:=hc;have c2:=jK 2 h0.jM rfl;have d4:=jK 4 hb rfl;have hbC:b<C:=by omega
 have rJ:Hid (∀y,Gk w y C->y.cell? (Ad b 2)=some (.string tt)/\y.cell? (Ad b 3)=some (Im ta)):=λy hy=>⟨(hy.cell hbC).trans (jI hb),(hy.cell hbC).trans (jI hb)⟩;refine⟨322,λw=>by kernel_rfl,λargs w=>by kernel_rfl,?_⟩;rw[hD];clear h0 hu hr hb hD hrn;generalize e.does.give c (-1)=r at *;obtain⟨rc,rs⟩:=r;simp only at H1 hl hn1⊢;generalize hfr:c.free=fr at *;have nT:Hid (∀cc y,kD y C cc->cc.jy.length<=3000000->Gk w y C->(∃u,y.cell? (Ad C 2)=some u)/\(∀j,y.frozen? (Ad C j)=false)/\Gk w (y.setCell (Ad C 2) (Im (wrap64 (fr+1)))) C/\Calls prog 324 #[Pt C 0,.agg #[.string tt,Im ta],Im fr] (y.setCell (Ad C 2) (Im (wrap64 (fr+1)))) λen w'=>en=.returned (.tuple #[])/\kD w' C ((cc.jX (wrap64 (fr+1))).know tt fr)/\Gk w w' C):=λcc y hg hn hy=>by
  obtain⟨v1,zT,p1⟩:=hg;have hy2:=hy.trans (Gk.free y (Im (wrap64 (fr+1))) C);refine⟨⟨_,jI p1.jM⟩,λj=>oQ p1.jM,hy2,(TQ ⟨v1,zT,p1.jX _⟩ tt ta fr (by show cc.jy.length<=_;omega)).mono ?_⟩;rintro en w' ⟨e1,e2,e3⟩;exact⟨e1,e2,hy2.trans e3⟩
 by_cases hs:rs=fr
 .rw[jh hs];have hb:(rs !=fr)=false:=by simp[hs]
  go_enter func322,ntmps322;go_wp2_with fail;refine H1.out.mono ?_;rintro e1 w1 ⟨rfl,p1,q1⟩;obtain⟨⟨uu,k2⟩,fz,z1,HN⟩:=nT.out rc w1 p1 hn1 q1;obtain⟨y2,y3⟩:=rJ.out w1 q1;have nb:¬b=C:=by omega
  have HN:=jA HN;clear p1 q1 H1 z1 nT rJ;go_wp2_with fail;refine HN.out.mono ?_;rintro en w3 ⟨rfl,p3,q3⟩;have HE:=jA (jd p3 q3);clear p3 q3 HN;go_wp2_with fail;go_end0;exact⟨rfl,HE.out⟩
 .rw[jg hs];have hb:(rs !=fr)=true:=by simp[hs]
  go_enter func322,ntmps322;go_wp2_with fail;refine H1.out.mono ?_;rintro e1 w1 ⟨rfl,p1,q1⟩;have HL:=jA (Au p1 7 fr rs (by omega));have mg:=jA q1;clear p1 q1 H1;go_wp2_with fail;refine HL.out.mono ?_;rintro e2 w2 ⟨rfl,p1,q1⟩;obtain⟨⟨uu,k2⟩,fz,z1,HN⟩:=nT.out (rc.lay 7 [fr,rs]) w2 p1 hn1 (mg.out.trans q1);obtain⟨y2,y3⟩:=rJ.out w2 (mg.out.trans q1);have nb:¬b=C:=by omega
  have HN:=jA HN;clear p1 q1 z1 nT rJ HL mg;go_wp2_with fail;refine HN.out.mono ?_;rintro en w3 ⟨rfl,p3,q3⟩;have HE:=jA (jd p3 q3);clear p3 q3 HN;go_wp2_with fail;go_end0;exact⟨rfl,HE.out⟩
theorem ads(he:kC e)(a:Int)(t:Wd):qg (sJ a t e):=(adr he a t ⟨yh (by simpa using he.ok.jw),(qj he.ok.jw).2⟩ (λhk=>by rw[yG he.ok.jw.1 he.ok.jw.2 hk];omega)).of (uK (by simp[o7]) (qW (he.ok.law _)) (qj he.ok.jw)) (λ_ _ _ _ h=>JL (PO (he.ok.law _)) h) rfl rfl
end
section
variable {w w' w1 w2 w3 w4:jk}{C lo hi b d m k:Nat}{c:Ck}{u v:jm}{e f:Ex}{a:Int}{T:jo}{x:Sx}
theorem asr(h:mD k e)(hk:k<=10000 * d)(t:Wd):Ae d (sO t e):=by
 obtain⟨tt,ta⟩:=t;refine⟨asu _ h.ok,λc=>J3 ?_,?_⟩
 .show((e.does.look (if (lJ c.jy tt).isVar then c else c.fail 2 ta)).want (e.does.jW (if (lJ c.jy tt).isVar then c else c.fail 2 ta).jy) e.at' (lJ c.jy tt).kind).jy=c.jy;rw[wE,h.jy];split
  .rfl
  .exact Jg _ _ _
 rintro w lo hi T b C c ⟨b',us,hv,h1,h2,⟨u,rfl,hu⟩,hb⟩ hC hc hn;cases hv;have zM:=hc.lt;obtain⟨T1,b1,rfl,hT1,_⟩:=h.ok.head _ _ _ _ _ hu;have c2:=jK 2 hb rfl;have HF:Hid (Calls prog 315 #[Pt C 0,.string tt] w λen w'=>en=.returned (.agg #[.string (lJ c.jy tt).name,Im (lJ c.jy tt).kind,.bool (lJ c.jy tt).isVar])/\w.grownBy w' none):=Tf hc tt (by omega);have HC:Hid (mD k e/\hi<=C/\c.jy.length+k<=899999/\e.here e.at' w lo b (.iface T1 (Pt b1 0))):=⟨h,hC,by omega,hu⟩;have HB:=jA hb;have IC:=jA (λw' (hg:w.grownBy w' none) o=>jd (hc.grow (hg.trans (ah w' o none))) (jd (CQ.new (hc.grow hg) o) (Lk.grown (hg.trans (ah w' o none)) zM)));refine⟨311,λw=>by kernel_rfl,λargs w=>by kernel_rfl,?_⟩;have HR:Hid (∀w0 w1 w2 c1,c1=(if (lJ c.jy tt).isVar then c else c.fail 2 ta)->Lk w w0 0 0 C->nU e e.at' w0 w1 lo b (.iface T1 (Pt b1 0)) b1 C c1->Lk w1 w2 0 0 C->kY w2 C ((e.does.look c1).want (e.does.jW c1.jy) e.at' (lJ c.jy tt).kind)->(sO ⟨tt,ta⟩ e).here w2 lo hi (.iface 321 (Pt b 0))/\kY w2 C ((sO ⟨tt,ta⟩ e).does.look c)/\Lk w w2 lo hi C):=λw0 w1 w2 c1 hc1 q0 q1 q2 q3=>by
  subst hc1;exact UN HC.out.1.ok h1 h2 HC.out.2.1 HB.out q0 q1 q2 q3
 have hbC:b<C:=by omega
 clear hu hb hc hn hC h hT1;generalize lJ c.jy tt=r at *;obtain⟨rt,rk,rv⟩:=r;simp only at HF HR;have hnf:(c.fail 2 ta).jy=c.jy:=Jg _ _ _;have HNf:Hid ((c.fail 2 ta).jy=c.jy):=hnf;clear hnf;cases rv with
 |true=>
  simp only[dM]at HR;go_enter func311,ntmps311;go_wp2_with fail;refine HF.out.mono ?_;rintro en w0 ⟨rfl,g0⟩;have hX:=IC.out w0 g0 (.cells #[.string rt,Im rk,.bool true] 446);have BR:=(g0.block b (by omega) (by simp)).trans HB.out;have d3:=jK 3 BR rfl;have d4:=jK 4 BR rfl;have n0:¬b=w0.heap.size:=by have:=lY BR;omega
  have n1:=lY BR;generalize hW:w0.alloc (.cells #[.string rt,Im rk,.bool true] 446)=W at *;have HX:=jA hX;have hb0:=(hX.2.2.keep b hbC (je (bD _))).trans HB.out;have Si:=jA hW;have hh0:=(HC.out.1.ok.law _).lk HC.out.2.2.2 hX.2.2 (by omega) (je (bD _));obtain⟨f1,m1,kM,H1⟩:=HC.out.1.look _ _ _ _ _ _ C _ hh0 (by omega) hX.1 (by have:=HC.out.2.2.1;omega);have kM:∀args w,(callFunc f1 args).run prog w=.ok (.enter f1 args) w:=kM;have H1:=jA H1;have HB0:=jA hb0;clear hX hb0 hh0 hW g0 BR;go_wp2_with fail;rw[Si.out];refine H1.out.mono ?_;rintro en w1 ⟨rfl,hl⟩;have bx1:=HX.out.2.1.lk hl.keep;have hb1:=(hl.keep.keep b hbC (je (aj _))).trans HB0.out;have e4:=jK 4 hb1 rfl;have x1:=jK 1 bx1.at' rfl;have Sj:=jA (λn=>hl.want HC.out.1.ok rk n);have HL:=jA hl;clear hl bx1 hb1 H1;go_wp2_with fail;refine nP 7 (by kernel_rfl) (by kernel_rfl) ?_;simp only[aC,aO,aG,aQ];repeat (go_big_quiet_step (fail))
  refine bF ?_;intro _ hw';obtain⟨n3,hw''⟩:=hw';subst hw'';go_wp2_with fail;refine(Sj.out _).mono ?_;rintro en w2 ⟨rfl,p1,p2⟩;have HE:=jA (HR.out _ _ _ _ rfl HX.out.2.2 HL.out p2 p1);clear p1 p2;go_wp2_with fail;go_end0;exact⟨rfl,HE.out⟩
 |false=>
  simp only[aH,cZ]at HR;go_enter func311,ntmps311;go_wp2_with fail;refine HF.out.mono ?_;rintro en w0 ⟨rfl,g0⟩;have hX:=IC.out w0 g0 (.cells #[.string rt,Im rk,.bool false] 446);have BR:=(g0.block b (by omega) (by simp)).trans HB.out;have d3:=jK 3 BR rfl;have d4:=jK 4 BR rfl;have n0:¬b=w0.heap.size:=by have:=lY BR;omega
  have n1:=lY BR;generalize hW:w0.alloc (.cells #[.string rt,Im rk,.bool false] 446)=W at *;have HX:=jA hX;have hb0:=(hX.2.2.keep b hbC (je (bD _))).trans HB.out;have Si:=jA hW;have Y8:=jA (Lr hX.1 2 ta);have HB0:=jA hb0;clear hX hb0 hW g0 BR;go_wp2_with fail;rw[Si.out];refine Y8.out.mono ?_;rintro en w5 ⟨rfl,p3,p4⟩;have hX:=HX.out;have bx5:=hX.2.1.lk p4;have hb5:=(p4.keep b hbC (je (bD _))).trans HB0.out;have f4:=jK 4 hb5 rfl;have Zt:Hid (CQ w5 C w0.heap.size (.cells #[.string rt,Im rk,.bool false] 446)/\Lk w w5 0 0 C):=⟨bx5,hX.2.2.trans p4⟩;have NW:Hid (w5.heap[b]? =some (.cells (Im ta::Im (jR [e.jw])::[.string tt,Im ta,.iface T1 (Pt b1 0)]).toArray 326)):=hb5;have hh0:=(HC.out.1.ok.law _).lk HC.out.2.2.2 (hX.2.2.trans p4) (by omega) (je (bD _));obtain⟨f1,m1,kM,H1⟩:=HC.out.1.look _ _ _ _ _ _ C _ hh0 (by omega) p3 (by rw[HNf.out];have:=HC.out.2.2.1;omega);have kM:∀args w,(callFunc f1 args).run prog w=.ok (.enter f1 args) w:=kM;have H1:Hid (Calls prog f1 #[Pt b1 0,Pt C 0] w5 λen w'=>en=.returned (.tuple #[])/\nU e e.at' w5 w' lo b (.iface T1 (Pt b1 0)) b1 C (c.fail 2 ta)):=H1;clear hX hh0 p3 p4 bx5 hb5 Y8;go_wp2_with fail;refine H1.out.mono ?_;rintro en w1 ⟨rfl,hl⟩;have bx1:=Zt.out.1.lk hl.keep;have hb1:=(hl.keep.keep b hbC (je (aj _))).trans NW.out;have e4:w1.cell? (Ad b 4)=some (.iface T1 (Pt b1 0)):=jI hb1;have x1:w1.cell? (Ad w0.heap.size 1)=some (Im rk):=jI bx1.at'
  have Sj:Hid (∀n,Calls prog 317 #[Pt C 0,.iface T1 (Pt b1 0),Im rk] (w1.drewN n) λen w2=>en=.returned (.tuple #[])/\kY w2 C ((e.does.look (c.fail 2 ta)).want (e.does.jW (c.fail 2 ta).jy) e.at' rk)/\Lk w1 w2 0 0 C):=λn=>hl.want HC.out.1.ok rk n;have HL:Hid (nU e e.at' w5 w1 lo b (.iface T1 (Pt b1 0)) b1 C (c.fail 2 ta)):=hl;clear hl bx1 hb1 H1;go_wp2_with fail;refine nP 7 (by kernel_rfl) (by kernel_rfl) ?_;simp only[aC,aO,aG,aQ];repeat (go_big_quiet_step (fail))
  refine bF ?_;intro _ hw';obtain⟨n3,hw''⟩:=hw';subst hw'';go_wp2_with fail;refine(Sj.out _).mono ?_;rintro en w2 ⟨rfl,p1,p2⟩;have HE:Hid ((sO ⟨tt,ta⟩ e).here w2 lo hi (.iface 321 (Pt b 0))/\kY w2 C ((sO ⟨tt,ta⟩ e).does.look c)/\Lk w w2 lo hi C):=HR.out _ _ _ _ rfl Zt.out.2 HL.out p2 p1;clear p1 p2;go_wp2_with fail;go_end0;exact⟨rfl,HE.out⟩
theorem apW(hl:mD k e)(hr:mD k f)(hk:k<=10000 * d)(a:Int):Ae d (vg a e f):=by
 refine⟨apX a hl.ok hr.ok,λc=>J3 ?_,?_⟩
 .show((f.does.look ((e.does.look c).want (e.does.jW c.jy) e.at' 3)).want (f.does.jW ((e.does.look c).want (e.does.jW c.jy) e.at' 3).jy) f.at' 4).jy=c.jy;rw[wE,hr.jy,wE,hl.jy]
 rintro w lo hi T b C c ⟨b',us,hv,h1,h2,⟨m,u,v,rfl,hm1,hm2,hu,hv2⟩,hb⟩ hC hc hn;cases hv;obtain⟨T1,b1,f1,rfl,hT1,l1,l2,m1,kM,H1⟩:=hl.use (C:=C) (c:=c) hu (by omega) hc (by omega);have kM:∀args w,(callFunc f1 args).run prog w=.ok (.enter f1 args) w:=kM;have H1:Hid (Calls prog f1 #[Pt b1 0,Pt C 0] w λen w'=>en=.returned (.tuple #[])/\nU e e.at' w w' lo m (.iface T1 (Pt b1 0)) b1 C c):=H1;obtain⟨T2,b2,rfl,hT2,_⟩:=hr.ok.head _ _ _ _ _ hv2;have c2:=jK 2 hb rfl;have HB:=jA hb;have HC:Hid (mD k e/\mD k f/\hi<=C/\c.jy.length+k<=900000/\f.here f.at' w m b (.iface T2 (Pt b2 0))):=⟨hl,hr,hC,by omega,hv2⟩;refine⟨329,λw=>by kernel_rfl,λargs w=>by kernel_rfl,?_⟩;clear hu hb hc hn hv2 hl hr;go_enter func329,ntmps329;go_wp2_with fail;refine H1.out.mono ?_;rintro en w1 ⟨rfl,L1⟩;have hb1:=(L1.keep.keep b (by omega) (je hm2)).trans HB.out;have e2:=jK 2 hb1 rfl;have HW:=jA (L1.want HC.out.1.ok 3 0);have HL:=jA (jd L1 hb1);clear L1 hb1 H1;go_wp2_with fail;refine HW.out.mono ?_;rintro en w2 ⟨rfl,p1,p2⟩;have hb2:=(p2.keep b (by omega) (je (bD _))).trans HL.out.2;have e3:=jK 3 hb2 rfl;have hr2:=(HC.out.2.1.ok.law _).lk ((HC.out.2.1.ok.law _).lk HC.out.2.2.2.2 HL.out.1.keep (by omega) (je (aj _))) p2 (by omega) (je (bD _));have hnm:((e.does.look c).want (e.does.jW c.jy) e.at' 3).jy=c.jy:=by rw[wE,HC.out.1.jy]
 obtain⟨f2,m2,qp,H2⟩:=HC.out.2.1.look _ _ _ _ _ _ C _ hr2 (by omega) p1 (by rw[hnm];exact HC.out.2.2.2.1);have qp:∀args w,(callFunc f2 args).run prog w=.ok (.enter f2 args) w:=qp;have H2:Hid (Calls prog f2 #[Pt b2 0,Pt C 0] w2 λen w'=>en=.returned (.tuple #[])/\nU f f.at' w2 w' m b (.iface T2 (Pt b2 0)) b2 C ((e.does.look c).want (e.does.jW c.jy) e.at' 3)):=H2;have lT:=jA (jd p2 hb2);clear p1 p2 hb2 hr2 hnm HW;go_wp2_with fail;refine H2.out.mono ?_;rintro en w3 ⟨rfl,L2⟩;have hb3:=(L2.keep.keep b (by omega) (je (aj _))).trans lT.out.2;have e5:=jK 3 hb3 rfl;have HW:=jA (L2.want HC.out.2.1.ok 4 0);have HL2:=jA L2;clear L2 hb3 H2;go_wp2_with fail;refine HW.out.mono ?_;rintro en w4 ⟨rfl,p1,p2⟩;have HE:Hid ((vg a e f).here w4 lo hi (.iface 333 (Pt b 0))/\kY w4 C ((vg a e f).does.look c)/\Lk w w4 lo hi C):=by
  have kk:=((HL.out.1.keep.wide (aj _) hm2).trans (lT.out.1.all _ _)).trans ((HL2.out.keep.wide hm1 (aj _)).trans (p2.all _ _));have hb2:=(kk.keep b (by omega) (je (aj _))).trans HB.out;have q1:=(HC.out.1.ok.law _).lk HL.out.1.here lT.out.1 (by omega) (je (bD _));have q2:=(HC.out.1.ok.law _).lk q1 HL2.out.keep (by omega) (jf (aj _));have q3:=(HC.out.1.ok.law _).lk q2 p2 (by omega) (je (bD _));have q4:=(HC.out.2.1.ok.law _).lk HL2.out.here p2 (by omega) (je (bD _));exact⟨⟨b,_,rfl,h1,h2,⟨m,_,_,rfl,hm1,hm2,q3,q4⟩,hb2⟩,p1,kk.wide (aj _) (by omega)⟩
 clear p1 p2;go_wp2_with fail;go_end0;exact⟨rfl,HE.out⟩
end
section
variable {w w' w1 w2 w3 w4:jk}{C lo hi b d m k:Nat}{c:Ck}{u v:jm}{e f:Ex}{a:Int}{T:jo}{x:Sx}{l:List jG}
theorem WU{g:Nat}:∀{bs:List jG}{w:jk}{lo hi i:Nat}{us:List jm}{b:jG},(∀b∈bs,Lawful b.here)->tC g bs w lo hi us->bs[i]? =some b->
 ∃l m u,us[i]? =some u/\lo<=l/\l<=m/\m<=hi/\(g<l\/m<=g)/\b.here w l m u/\∀w',(∀k,lo<=k->k<hi->k<l\/m<=k->w'.heap[k]? =w.heap[k]?)->b.here w' l m u->tC g bs w' lo hi us
 |[],_,_,_,_,_,_,_,_,hb=>by simp at hb
 |b0::bs,w,lo,hi,0,us,b,hl,⟨l,m,u,us',h0,h1,h2,h3,h4,h5,h6⟩,hb=>by
  simp only[dw,bJ]at hb;subst hb h0;refine⟨l,m,u,rfl,h1,h2,h3,h4,h5,λw' hk hh=>⟨l,m,u,us',rfl,h1,h2,h3,h4,hh,?_⟩⟩;exact J7 (λc hc=>hl c (aI _ hc)) h6 (λk k1 k2=>hk k (by omega) k2 (je k1))
 |b0::bs,w,lo,hi,i+1,us,b,hl,⟨l,m,u,us',h0,h1,h2,h3,h4,h5,h6⟩,hb=>by
  subst h0;obtain⟨l',m',u',q0,q1,q2,q3,q4,q5,q6⟩:=WU (i:=i) (λc hc=>hl c (aI _ hc)) h6 (by simpa using hb);refine⟨l',m',u',by simpa using q0,by omega,q2,q3,q4,q5,λw' hk hh=>⟨l,m,u,us',rfl,h1,h2,h3,h4,?_,q6 w' (λk k1 k2 k3=>hk k (by omega) k2 k3) hh⟩⟩;exact(hl b0 (aW ..)).loc _ _ _ _ _ h5 (λk k1 k2=>hk k (by omega) (by omega) (jf (by omega)))
def oh(l:List jG)(c:Ck):Ck:=l.foldl (λc s=>s.does.look c) c
theorem am2(l:List jG)(c:Ck)(i:Nat)(s:jG)(h:l[i]? =some s):oh (l.take (i+1)) c=s.does.look (oh (l.take i) c):=by
 have h1:l.take (i+1)=l.take i++[s]:=by rw[fU,h];rfl
 rw[h1];unfold oh;rw[dV]
 rfl
theorem U3:∀(l:List jG)(c:Ck),(∀s∈l,Ae d s)->∃more,(oh l c).jy=c.jy++more/\more.length<=l.length
 |[],c,_=>⟨[],by simp[oh],aj _⟩
 |s::l,c,h=>by
  obtain⟨m1,e1,n1⟩:=(h s (aW ..)).jy c;obtain⟨m2,e2,n2⟩:=U3 l (s.does.look c) (λs' hs=>h s' (aI _ hs));refine⟨m1++m2,?_,by simp only[aA,aF];omega⟩;show(oh l (s.does.look c)).jy=_;rw[e2,e1,bY]
structure zF(d:Nat)(l:List jG):Prop where
 ok:∀s∈l,oI s
 jy:∀c,(qy l c).jy=c.jy
 look:∀w lo hi v C c,mW l w lo hi v->hi<=C->kY w C c->c.jy.length+10000 * d<=800000->Calls prog 89 #[Pt C 0,v] w λen w'=>en=.returned (.tuple #[])/\mW l w' lo hi v/\kY w' C (qy l c)/\Lk w w' lo hi C
structure Rz(l:List jG)(g:Nat)(w wr:jk)(lo hi C:Nat)(us:List jm)(arr:Array jm)(c:Ck)(i:Nat):Prop where
 row:wr.heap[g]? =some (.cells arr 192)
 tu:tC g l wr lo hi us
 ck:kY wr C (oh (l.take i) c)
 keep:Lk w wr lo hi C
theorem kY.back{n:Nat}(h:kY w C c)(hn:n<=c.jy.length):∃a cap,w.cell? (Ad C 0)=some (.slice a c.jy.length cap)/\(∀j,w.frozen? (Ad C j)=false)/\n<=cap/\kY (w.setCell (Ad C 0) (.slice a n cap)) C (c.cut n)/\Lk w (w.setCell (Ad C 0) (.slice a n cap)) 0 0 C:=by
 obtain⟨v,q⟩:=h;obtain⟨a,cap,rfl⟩:=Bc q.row;have hc0:=jK 0 q.jM rfl;refine⟨a,cap,hc0,λj=>oQ q.jM,?_,⟨_,q.cut hn⟩,?_⟩
 .rcases q.row with⟨_,⟨h2,h3⟩|⟨g,cap',cur,h2,_,_,h5,_⟩⟩
  .omega
  .cases h2;omega
 .exact Lk.named (v:=.slice a c.jy.length cap) (aN _ _) q.lt hc0 (λk hk=>by have:=(q.row.lt k hk).1;omega) (λk hk=>jf (aer hk))
theorem am3(h:∀s∈l,Ae d s)(c:Ck):(qy l c).jy=c.jy:=by
 obtain⟨more,e,_⟩:=U3 l c h;show((oh l c).cut c.jy.length).jy=c.jy;unfold Ck.cut;rw[e];simp
theorem ac4(h:∀s∈l,Ae d s)(hln:l.length<=5000):zF d l:=by
 refine⟨λs hs=>(h s hs).ok,am3 h,?_⟩;intro w lo hi v C c hh hC hc hn;rcases hh with⟨rfl,rfl⟩|⟨g,cap,us,arr,rfl,g1,g2,hst,hg,harr⟩
 .obtain⟨a0,cap0,b1,b2,b3,b4,b5⟩:=hc.back (aj _);have HE:Hid (mW [] (w.setCell (Ad C 0) (.slice a0 c.jy.length cap0)) lo hi (Nl)/\kY (w.setCell (Ad C 0) (.slice a0 c.jy.length cap0)) C (qy [] c)/\Lk w (w.setCell (Ad C 0) (.slice a0 c.jy.length cap0)) lo hi C):=⟨jf ⟨rfl,rfl⟩,b4,b5.all _ _⟩;have i0:(0:Int)<=(c.jy.length:Int):=by omega
  have i1:(c.jy.length:Int)<=(cap0:Int):=by omega
  clear hc b4 b5 hn;generalize c.jy.length=nl at *;go_enter func89,ntmps89;go_wp2_with fail;refine wp_loop_rounds 1 ?_;rw[rounds_succ];go_wp2_with fail;go_end0;exact⟨rfl,HE.out⟩
 .obtain⟨a0,cap0,b1,b2,b3,b4,b5⟩:=hc.back (aj _);have HA:=jA (jd h (jd hn (jd harr (jd hC (jd g1 g2)))));have HO:Hid (Rz l g w w lo hi C us arr c 0):=⟨hg,hst,hc,Lk.refl _ _ _ _⟩;clear hst hg harr h hn hc b2 b3 b4 b5;obtain⟨nl,hnl⟩:∃nl,c.jy.length=nl:=⟨_,rfl⟩;have xO:=jA hnl;rw[hnl]at b1;clear hnl;go_enter func89,ntmps89;go_wp2_with fail;go_loopg [14] (l.length+1) (λgg i wr=>Hid (∃k:Nat,k+gg=l.length+1/\k<=l.length/\i=Im k/\Rz l g w wr lo hi C us arr c k))
  case atStart=>exact⟨0,by omega,bD _,rfl,HO.out⟩
  case round=>
   obtain⟨k,hk1,hk2,rfl,hI⟩:=hrel.out;clear hrel HO;obtain⟨more,hmore,hml⟩:=U3 (d:=d) (l.take k) c (λs hs=>HA.out.1 s (dS hs));have abY:more.length<=5000:=by rw[gI]at hml;omega
   by_cases hlt:k<l.length
   .have d1:decide ((k:Int)<(l.length:Int))=true:=by simp;omega
    have i0:(0:Int)<=(k:Int):=by omega
    have i1:(k:Int)<(l.length:Int):=by omega
    have hget:l[k]? =some l[k]:=by simp
    have hQ:=HA.out.1 l[k] (fG hlt);obtain⟨q1,q2,q3,q4,q5⟩:=HA.out.2;obtain⟨l',m',u',e0,e1,e2,e3,e4,e5,e6⟩:=WU (λs hs=>(HA.out.1 s hs).ok.law) hI.tu hget;obtain⟨T1,b1',hu',_⟩:=hQ.ok.head _ _ _ _ e5;subst hu';have k0:wr.cell? (Ad g k)=some (.iface T1 (Pt b1' 0)):=(jI hI.row).trans (q2 _ _ e0);obtain⟨f1,m1,kM,H1⟩:=hQ.look _ _ _ _ _ C _ e5 (by omega) hI.ck (by rw[hmore,aA];omega);have kM:∀args w,(callFunc f1 args).run prog w=.ok (.enter f1 args) w:=kM;have rJ:Hid (Calls prog f1 #[Pt b1' 0,Pt C 0] wr λen w'=>en=.returned (.tuple #[])/\Rz l g w w' lo hi C us arr c (k+1)):=H1.mono λen w' ⟨r1,r2,r3,r4⟩=>by
     refine⟨r1,(r4.keep g (by omega) (by omega)).trans hI.row,e6 w' (λj j1 j2 j3=>r4.keep j (by omega) j3) r2,?_,hI.keep.trans (r4.wide (by omega) (by omega))⟩;rw[am2 _ _ _ _ hget];exact r3
    obtain⟨g',hg'⟩:∃g',gk=g'+1:=⟨gk-1,by omega⟩;clear hget hQ q1 q2 q3 q4 q5 e0 e1 e2 e3 e4 e5 e6 hI H1 hmore hml abY;go_wp2_with fail;refine rJ.out.mono ?_;rintro en w2 ⟨rfl,hI2⟩;have HI2:=jA hI2;clear hI2 rJ;go_wp2_with fail;go_roundg g'
    case measure=>omega
    case rel=>exact⟨k+1,by omega,by omega,by go_num,HI2.out⟩
   .have d1:decide ((k:Int)<(l.length:Int))=false:=by simp;omega
    have hck:=hI.ck;have htk:l.take k=l:=eU (by omega);rw[htk]at hck hmore;have hle:nl<=(oh l c).jy.length:=by rw[hmore,aA,xO.out];omega
    obtain⟨a5,cap5,z1,z2,z3,z4,z5⟩:=hck.back hle;have HE:Hid (mW l (wr.setCell (Ad C 0) (.slice a5 nl cap5)) lo hi (.slice (some (Ad g 0)) l.length cap)/\kY (wr.setCell (Ad C 0) (.slice a5 nl cap5)) C (qy l c)/\Lk w (wr.setCell (Ad C 0) (.slice a5 nl cap5)) lo hi C):=by
     obtain⟨q1,q2,q3,q4,q5⟩:=HA.out.2;have G8:Lawful (mW l):=Qa λs hs=>(HA.out.1 s hs).ok.law;have h0:mW l wr lo hi (.slice (some (Ad g 0)) l.length cap):=je ⟨g,cap,us,arr,rfl,q4,q5,hI.tu,hI.row,q2⟩;refine⟨G8.lk h0 z5 (by omega) (je (bD _)),?_,hI.keep.trans (z5.all _ _)⟩;show kY _ C ((oh l c).cut c.jy.length);rw[xO.out];exact z4
    clear hI hck htk hmore hml abY z4 z5;have j0:(0:Int)<=(nl:Int):=by omega
    have j1:(nl:Int)<=(cap5:Int):=by omega
    generalize (oh l c).jy.length=nn at *;go_wp2_with fail;go_end0;exact⟨rfl,HE.out⟩
end
section
variable {w w' w1 w2:jk}{C lo hi b:Nat}{c:Co}{u v:jm}{l:List jG}
def lM(l:List jG):Int:=(l.map λs=>s.jw).sum
theorem BO{l:List jG}(h:∀s∈l,1<=s.jw):(l.length:Int)<=lM l:=by
 unfold lM;induction l with
 |nil=>simp
 |cons s l ih=>
  have h1:=ih λx hx=>h x (aI _ hx);have h2:=h s (aW ..);simp only[dL,gY,aF];omega
theorem abf:∀(l:List jG)(a:Int),(∀s∈l,1<=s.jw)->0<=a->l.foldl (λa e=>lu [a,e.jw]) a<=1000000->l.foldl (λa e=>lu [a,e.jw]) a=a+lM l
 |[],a,_,_,_=>by simp[lM]
 |s::l,a,h,ha,hk=>by
  have h1:∀x∈l,1<=x.jw:=λx hx=>h x (aI _ hx);have h2:=h s (aW ..);rw[bP]at hk⊢;have ht0:0<=lu [a,s.jw]:=by
   unfold lu;simp only[bP,eF];omega
  have h3:=abf l (lu [a,s.jw]) h1 ht0 hk;have h4:=BO h1;rw[h3]at hk⊢;have h5:=Gl (a:=a) (b:=s.jw) (by omega) (by omega);rw[h5];simp only[lM,dL,gY]at h4⊢;omega
theorem Gj(h:∀s∈l,1<=s.jw)(hk:sumOf l<=1000000):sumOf l=lM l:=by
 have:=abf l 0 h (aV 0) hk;unfold sumOf;omega
def qX(l:List jG)(c:Co):Co:=l.foldl (λc s=>s.does.lay c) c
theorem amF(l:List jG)(c:Co)(i:Nat)(s:jG)(h:l[i]? =some s):qX (l.take (i+1)) c=s.does.lay (qX (l.take i) c):=by
 have h1:l.take (i+1)=l.take i++[s]:=by rw[fU,h];rfl
 rw[h1];unfold qX;rw[dV]
 rfl
theorem MQ:∀(l:List jG)(c:Co),(∀s∈l,qg s)->(∃more,(qX l c).jy=c.jy++more/\more.length<=l.length)/\(lM l<=1000000->((qX l c).code.length:Int)<=c.code.length+200 * lM l)
 |[],c,_=>⟨⟨[],by simp[qX],by simp⟩,λ_=>by simp[qX,lM]⟩
 |s::l,c,h=>by
  have h0:=h s (aW ..);have hl:∀x∈l,qg x:=λx hx=>h x (aI _ hx);obtain⟨⟨m2,q1,q2⟩,q3⟩:=MQ l (s.does.lay c) hl;obtain⟨m1,p1,p2⟩:=h0.jy c;have e:qX (s::l) c=qX l (s.does.lay c):=rfl;have hcp:=BO λx hx=>(hl x hx).pos;have hsp:=h0.pos;refine⟨⟨m1++m2,by rw[e,q1,p1,bY],by simp only[aA,aF];omega⟩,λhk=>?_⟩;have hk2:s.jw+lM l<=1000000:=by simpa [lM]using hk
  have r1:=q3 (by omega);have r2:=h0.len c (by omega);rw[e];have e2:lM (s::l)=s.jw+lM l:=by simp[lM]
  rw[e2];omega
theorem aaI(h:∀s∈l,1<=s.jw)(i:Nat)(s:jG)(hs:l[i]? =some s):(i:Int)+s.jw<=lM l/\lM (l.take i)+s.jw<=lM l:=by
 have h1:l=l.take i++s::l.drop (i+1):=by
  obtain⟨hi,he⟩:=List.getElem?_eq_some_iff.1 hs;rw[<-he,<-dA hi,List.take_append_drop]
 have h2:lM l=lM (l.take i)+(s.jw+lM (l.drop (i+1))):=by
  have:lM l=lM (l.take i++s::l.drop (i+1)):=by rw[<-h1]
  rw[this];simp[lM]
 have h3:=BO (l:=l.drop (i+1)) λx hx=>h x (gU hx);have h4:=BO (l:=l.take i) λx hx=>h x (dS hx);have h5:(l.take i).length=i:=by
  rw[gI];have:=(List.getElem?_eq_some_iff.1 hs).1;omega
 rw[h5]at h4;omega
def wL(l:List jG):Hx.sV:=λw lo hi v=>
 (l=[]/\v=Nl)\/
 ∃g cap arr,v=.slice (some (Ad g 0)) l.length cap/\lo<=g/\g<hi/\w.heap[g]? =some (.cells arr 192)/\∀(k:Nat)(s:jG),l[k]? =some s->∃u,arr[k]? =some u/\s.here w lo hi u
theorem amO(h:∀s∈l,Lawful s.here):Lawful (wL l):=by
 constructor
 .rintro w w' lo hi v h4 hk;rcases h4 with h4|⟨g,cap,arr,k1,k2,k3,k4,k5⟩
  .exact jf h4
  .refine je ⟨g,cap,arr,k1,k2,k3,(hk g k2 k3).trans k4,λk s hs=>?_⟩;obtain⟨u,e1,e2⟩:=k5 k s hs;exact⟨u,e1,(h s (bT hs)).loc _ _ _ _ _ e2 hk⟩
 .rintro w lo hi lo' hi' v h4 l1 l2;rcases h4 with h4|⟨g,cap,arr,k1,k2,k3,k4,k5⟩
  .exact jf h4
  .refine je ⟨g,cap,arr,k1,by omega,by omega,k4,λk s hs=>?_⟩;obtain⟨u,e1,e2⟩:=k5 k s hs;exact⟨u,e1,(h s (bT hs)).wide _ _ _ _ _ _ e2 l1 l2⟩
theorem amP(h:∀s∈l,Lawful s.here){v:jm}(hh:mW l w lo hi v):wL l w lo hi v:=by
 rcases hh with h4|⟨g,cap,us,arr,e1,g1,g2,hst,hg,harr⟩
 .exact jf h4
 .refine je ⟨g,cap,arr,e1,g1,g2,hg,λk s hs=>?_⟩;obtain⟨l',m',u',e0,e1,e2,e3,e4,e5,e6⟩:=WU h hst hs;exact⟨u',harr _ _ e0,(h s (bT hs)).wide _ _ _ _ _ _ e5 (by omega) (by omega)⟩
structure tK(l:List jG):Prop where
 ok:∀s∈l,oI s
 jy:∀c,(kZ l c).jy=c.jy
 len:∀c,sumOf l<=1000000->((kZ l c).code.length:Int)<=c.code.length+200 * sumOf l
 lay:∀w lo hi v C c,wL l w lo hi v->hi<=C->kD w C c->Room c (sumOf l)->Calls prog 91 #[Pt C 0,v] w λen w'=>en=.returned (.tuple #[])/\kD w' C (kZ l c)/\Gk w w' C
theorem tK.law(h:tK l):Lawful (mW l):=Qa λs hs=>(h.ok s hs).law
theorem tK.zQ(h:tK l):Lawful (wL l):=amO λs hs=>(h.ok s hs).law
theorem tK.flat(h:tK l){v:jm}(hh:mW l w lo hi v):wL l w lo hi v:=amP (λs hs=>(h.ok s hs).law) hh
theorem kD.leave{cc:Co}(h:kD w C cc){n:Nat}(hn:n<=cc.jy.length)(fr:Int):∃a cap,w.cell? (Ad C 1)=some (.slice a cc.jy.length cap)/\cc.jy.length<=cap/\w.cell? (Ad C 2)=some (Im cc.free)/\(∀j,w.frozen? (Ad C j)=false)/\kD ((w.setCell (Ad C 1) (.slice a n cap)).setCell (Ad C 2) (Im fr)) C ((cc.cut n).jX fr)/\Gk w ((w.setCell (Ad C 1) (.slice a n cap)).setCell (Ad C 2) (Im fr)) C:=by
 obtain⟨a,cap,h1,h2,h3,⟨v,nv,h4⟩,h5⟩:=h.back hn;refine⟨a,cap,h1,h2,?_,h3,⟨v,nv,h4.jX fr⟩,h5.trans (Gk.free _ _ _)⟩;obtain⟨v,nv,h⟩:=h;exact jI h.jM
theorem Ht(h:∀s∈l,qg s):tK l:=by
 have hpos:∀s∈l,1<=s.jw:=λs hs=>(h s hs).pos;refine⟨λs hs=>(h s hs).ok,λc=>?_,λc hk=>?_,?_⟩
 .obtain⟨⟨more,h1,_⟩,_⟩:=MQ l c h;show((qX l c).jy.take c.jy.length)=c.jy;rw[h1];simp
 .have hs:=Gj hpos hk;rw[hs]at hk⊢;exact(MQ l c h).2 hk
 intro w lo hi v C c hh hC hc hr;have hs:=Gj hpos hr.jw;rw[hs]at hr;have hrc:=hr.code;have hrn:=hr.jy;have hrk:=hr.jw;have hlen:(l.length:Int)<=1000000:=by have:=BO hpos;omega
 obtain⟨a0,cap0,c1,_,c2,_⟩:=hc.leave (aj _) 0;have HP:Hid (∀k,∃more,(qX (l.take k) c).jy=c.jy++more):=λk=>by
  obtain⟨⟨more,h1,_⟩,_⟩:=MQ (l.take k) c λs hs=>h s (dS hs);exact⟨more,h1⟩
 have Zp:Hid (∀k s,l[k]? =some s->Room (qX (l.take k) c) s.jw):=λk s hks=>by
  obtain⟨⟨more,p1,p2⟩,p3⟩:=MQ (l.take k) c λs hs=>h s (dS hs);obtain⟨r1,r2⟩:=aaI hpos k s hks;have r3:0<=lM (l.take k):=by have:=BO (l:=l.take k) λx hx=>hpos x (dS hx);omega
  have r4:=hpos s (bT hks);have r5:=p3 (by omega);refine⟨by omega,by omega,?_⟩;rw[p1,aA];rw[gI]at p2;have:(more.length:Int)<=k:=by omega
  omega
 have HA:Hid (∀(k:Nat)(y:jk)(hk:k<l.length),Gk w y C->kD y C (qX (l.take k) c)->∃g T b f,(∃cap,v=.slice (some (Ad g 0)) l.length cap)/\y.cell? (Ad g k)=some (.iface T (Pt b 0))/\(∀w,(method 576 T (Pt b 0) "helm/lang.lay").run prog w=.ok (f,Pt b 0) w)/\Enters f/\
  Calls prog f #[Pt b 0,Pt C 0] y λen w'=>en=.returned (.tuple #[])/\kD w' C (qX (l.take (k+1)) c)/\Gk w w' C):=by
  intro k y hk hy hgc;rcases hh with⟨hf,_⟩|⟨g,cap,arr,rfl,g1,g2,hg,harr⟩
  .rw[hf]at hk;simp at hk
  have hget:l[k]? =some l[k]:=by simp
  have hQ:=h l[k] (fG hk);obtain⟨u',e0,e5⟩:=harr k _ hget;obtain⟨T1,b1,hu',_⟩:=hQ.ok.head _ _ _ _ e5;subst hu';obtain⟨f1,m1,kM,H1⟩:=hQ.lay _ _ _ _ _ C _ (hQ.ok.law.gk e5 hy (by omega)) (by omega) hgc (Zp.out k _ hget);refine⟨g,T1,b1,f1,⟨cap,rfl⟩,(hy.cell (by omega)).trans ((jI hg).trans e0),m1,kM,H1.mono ?_⟩;rintro en w' ⟨r1,r2,r3⟩;rw[amF l c k _ hget];exact⟨r1,r2,hy.trans r3⟩
 obtain⟨va,vc,hv⟩:∃va vc,v=.slice va l.length vc:=by
  rcases hh with⟨hf,rfl⟩|⟨g,cap,arr,rfl,_⟩
  .exact⟨none,0,by rw[hf];rfl⟩
  .exact⟨_,_,rfl⟩
 subst hv;have HZ:Hid (∀y,kD y C (qX (l.take l.length) c)->Gk w y C->∃a n cap,y.cell? (Ad C 1)=some (.slice a n cap)/\(c.jy.length:Int)<=cap/\(∃u,y.cell? (Ad C 2)=some u)/\(∀j,y.frozen? (Ad C j)=false)/\kD ((y.setCell (Ad C 1) (.slice a c.jy.length cap)).setCell (Ad C 2) (Im c.free)) C (kZ l c)/\Gk w ((y.setCell (Ad C 1) (.slice a c.jy.length cap)).setCell (Ad C 2) (Im c.free)) C):=λy hg hy=>by
  obtain⟨more,hmo⟩:=HP.out l.length;rw[eU (aj _)]at hg hmo;have hle:c.jy.length<=(qX l c).jy.length:=by rw[hmo];simp
  obtain⟨a,cap,z1,z2,z3,z4,z5,z6⟩:=hg.leave hle c.free;exact⟨a,_,cap,z1,by omega,⟨_,z3⟩,z4,z5,hy.trans z6⟩
 have HO:=jA (λn=>jd (hc.grow (lK w n)) (Gk.grown (lK w n) hc.lt));clear hh hc hr h Zp HP hs hrc hrn hrk;generalize kZ l c=R at *;generalize c.free=fr at *;generalize hnl:c.jy.length=nl at *;go_enter func91,ntmps91;go_wp2_with fail;go_quiet (fail);go_wp2_with fail;go_loopg [19] (l.length+1) (λgg i wr=>Hid (∃k:Nat,k+gg=l.length+1/\k<=l.length/\i=Im k/\kD wr C (qX (l.take k) c)/\Gk w wr C))
 case atStart=>exact⟨0,by omega,bD _,rfl,HO.out _⟩
 case round=>
  obtain⟨k,hk1,hk2,rfl,hI,hG⟩:=hrel.out;clear hrel HO;by_cases hlt:k<l.length
  .have d1:decide ((k:Int)<(l.length:Int))=true:=by simp;omega
   have i0:(0:Int)<=(k:Int):=by omega
   have i1:(k:Int)<(l.length:Int):=by omega
   obtain⟨g,T1,b1,f1,⟨cap,hv⟩,k0,m1,kM,H1⟩:=HA.out k wr hlt hG hI;cases hv;have kM:∀args w,(callFunc f1 args).run prog w=.ok (.enter f1 args) w:=kM;have H1:=jA H1;obtain⟨g',hg'⟩:∃g',gk=g'+1:=⟨gk-1,by omega⟩;clear hI hG;go_wp2_with fail;refine H1.out.mono ?_;rintro en w2 ⟨rfl,p2,q2⟩;have HE:=jA (jd p2 q2);clear p2 q2 H1;go_wp2_with fail;go_roundg g'
   case measure=>omega
   case rel=>exact⟨k+1,by omega,by omega,by go_num,HE.out⟩
  .have d1:decide ((k:Int)<(l.length:Int))=false:=by simp;omega
   have hke:k=l.length:=by omega
   obtain⟨a,n,cap,z1,z2,⟨z3u,z3⟩,z4,z5,z6⟩:=HZ.out wr (by rw[hke]at hI;exact hI) hG;have HE:=jA (jd z5 z6);have j0:(0:Int)<=(nl:Int):=by omega
   clear hI hG hke z5 z6;go_wp2_with fail;go_end0;exact⟨rfl,HE.out⟩
end
end
end Go.Proofs.YthllhabjfchgiaaGreatDoor
