import Derived.Test.YthllhabjfchgiaaGreatDoorHb07
set_option maxRecDepth 100000
set_option maxHeartbeats 8000000
set_option linter.unusedSimpArgs false
namespace Go.Proofs.YthllhabjfchgiaaGreatDoor
open _root_.Go.Proofs.Tryz
section
open Go.RowKit
open Hx (Rd Pk Vw St Mc jO)
section
def QY:Code->Option Code
 | .scope c=>some c
 | .seq a b=>match QY a with
   |some c=>some c
   |none=>QY b
 | .block _ c=>QY c
 |_=>none
def arJ:Code->Code
 | .seq .skip c=>c
 |c=>c
def yX(f:Func)(l:Nat):Code:=arJ (((f.body.bind QY).bind (findLabel · l)).getD .skip)
set_option maxRecDepth 1000000 in
def nD(cb co H M:Nat)(vv rv:jr)(fuel k:Int)(a:Act):Prop:=
 ∃u4 u7 u11 u13 u14 u15 u16 XY XZ X0 u20 u21 u22 u23 u24 u25 u26 u27 u28 u29 u30 u31 u32 u33 u34 u35 u36 u37 u38 X3 u40 X4 u42 X5 u44 u45 u46 X6 u48 u49 X7 u51 X8 u53 X9 u55 Ya Yb u58 u59 u60 u61 Yc u63 u64 Yd u66 Ye u68 u69 u70 Yf u72 u73 Yg u75 Yh Yi Yj Yk Yl Ym Yn Yo Yp Yq Yr Yt Yu Yv Yw Yx Yy u93 Yz YA YB YC YD YE Xd Xe Xf Xg Xh u105 Xi Xj Xk Xl Xm Xn Xo Xp Xq Xr Xu Xv Xw u119 Xx Xy Xz XA u124 XB XC u127 XD XE XF u131 XG XH XI XJ XK XL u138 u139 XM XO XP XQ XR XT XU XV XW:jr,a=⟨#[Pt cb co,vv,rv,Im fuel,u4,Pt H 0,Pt (H+1) 0,u7,Pt (H+1+1) 0,Pt M 0,Im k,u11,.int .u8 0,u13,u14,u15,u16,XY,XZ,X0,u20,u21,u22,u23,u24,u25,u26,u27,u28,u29,u30,u31,u32,u33,u34,u35,u36,u37,u38,X3,u40,X4,u42,X5,u44,u45,u46,X6,u48,u49,X7,u51,X8,u53,X9,u55,Ya,Yb,u58,u59,u60,u61,Yc,u63,u64,Yd,u66,Ye,u68,u69,u70,Yf,u72,u73,Yg,u75,Yh,Yi,Yj,Yk,Yl,Ym,Yn,Yo,Yp,Yq,Yr,Yt,Yu,Yv,Yw,Yx,Yy,u93,Yz,YA,YB,YC,YD,YE,Xd,Xe,Xf,Xg,Xh,u105,Xi,Xj,Xk,Xl,Xm,Xn,Xo,Xp,Xq,Xr,Xu,Xv,Xw,u119,Xx,Xy,Xz,XA,u124,XB,XC,u127,XD,XE,XF,u131,XG,XH,XI,XJ,XK,XL,u138,u139,XM,XO,XP,XQ,XR,XT,XU,XV,XW],[]⟩
set_option maxRecDepth 1000000 in
def DK(cb co H M:Nat)(vv rv:jr)(st:Int)(a:Act):Prop:=
 ∃u3 u4 u7 u10 u11 u13 u14 u15 u16 XY XZ X0 u20 u21 u22 u23 u24 u25 u26 u27 u28 u29 u30 u31 u32 u33 u34 u35 u36 u37 u38 X3 u40 X4 u42 X5 u44 u45 u46 X6 u48 u49 X7 u51 X8 u53 X9 u55 Ya Yb u58 u59 u60 u61 Yc u63 u64 Yd u66 Ye u68 u69 u70 Yf u72 u73 Yg u75 Yh Yi Yj Yk Yl Ym Yn Yo Yp Yq Yr Yt Yu Yv Yw Yx Yy u93 Yz YA YB YC YD YE Xd Xe Xf Xg Xh u105 Xi Xj Xk Xl Xm Xn Xo Xp Xq Xr Xu Xv Xw u119 Xx Xy Xz XA u124 XB XC u127 XD XE XF u131 XG XH XI XJ XK XL u138 u139 XM XO XP XQ XR XT XU XV XW:jr,a=⟨#[Pt cb co,vv,rv,u3,u4,Pt H 0,Pt (H+1) 0,u7,Pt (H+1+1) 0,Pt M 0,u10,u11,.int .u8 st,u13,u14,u15,u16,XY,XZ,X0,u20,u21,u22,u23,u24,u25,u26,u27,u28,u29,u30,u31,u32,u33,u34,u35,u36,u37,u38,X3,u40,X4,u42,X5,u44,u45,u46,X6,u48,u49,X7,u51,X8,u53,X9,u55,Ya,Yb,u58,u59,u60,u61,Yc,u63,u64,Yd,u66,Ye,u68,u69,u70,Yf,u72,u73,Yg,u75,Yh,Yi,Yj,Yk,Yl,Ym,Yn,Yo,Yp,Yq,Yr,Yt,Yu,Yv,Yw,Yx,Yy,u93,Yz,YA,YB,YC,YD,YE,Xd,Xe,Xf,Xg,Xh,u105,Xi,Xj,Xk,Xl,Xm,Xn,Xo,Xp,Xq,Xr,Xu,Xv,Xw,u119,Xx,Xy,Xz,XA,u124,XB,XC,u127,XD,XE,XF,u131,XG,XH,XI,XJ,XK,XL,u138,u139,XM,XO,XP,XQ,XR,XT,XU,XV,XW],[]⟩
structure uh(B:Nat)(w:jo)(cb co sb so cap:Nat)(jC:List St):Prop where
 FK:cb<B
 Gn:sb<B
 slice:w.cell? (Ad cb co)=some (.slice (some (Ad sb so)) jC.length cap)
 step:∀(i:Nat)(s:St),jC[i]? =some s->zu w sb (so+i * 7) s
theorem uh.keep{B:Nat}{w w':jo}{cb co sb so cap:Nat}{jC:List St}(h:uh B w cb co sb so cap jC)(hb:Below B w w'):uh B w' cb co sb so cap jC:=by
 refine⟨h.FK,h.Gn,by rw[hb.cell (p:=(Ad cb co)) h.FK];exact h.slice,λi s hs=>?_⟩;obtain⟨h0,h1,h2,h3,h4,h5,h6⟩:=h.step i s hs;have hc:∀o,w'.cell? (Ad sb o)=w.cell? (Ad sb o):=λo=>hb.cell (p:=(Ad sb o)) h.Gn;exact⟨by rw[hc];exact h0,by rw[hc];exact h1,by rw[hc];exact h2,by rw[hc];exact h3,by rw[hc];exact h4,by rw[hc];exact h5,by rw[hc];exact h6⟩
variable {B C:Nat}{w:jo}{M SB:Nat}{v:Vw}{m:Mc}{cb co sb so cap:Nat}{jC:List St}
set_option maxRecDepth 1000000 in
theorem ap8(H:Nat)(vv rv:jr)(fuel:Int)(k:Nat){a0:Act}(h0:nD cb co H M vv rv fuel k a0)(Q:Exit->Act->jo->Prop)(hf:fuel<=0)
 (hgo:∀a',DK cb co H M vv rv 2 a'->Q (.goto 0) a' w):
 Code.wp prog (yX Tryz.f16 1) Q a0 w:=by
 unfold nD at h0
 iterate 139 obtain⟨_,h0⟩:=h0
 subst h0;have hd:decide (fuel<=0)=true:=by simpa using hf
 conv=>arg 2;whnf
 go_wp2;go_step3;refine hgo _ ?_;unfold DK
 (repeat apply Exists.intro)
 rfl
set_option maxRecDepth 1000000 in
theorem apZ(H:Nat)(vv rv:jr)(fuel:Int)(k:Nat){a0:Act}(h0:nD cb co H M vv rv fuel k a0)(Q:Exit->Act->jo->Prop)(hf:0<fuel)(hfm:fuel<=9223372036854775807)(hk:k<jC.length)(hlen:jC.length<=1000000)
 (hc:uh B w cb co sb so cap jC)(a b c d dp t:Int)(hst:jC[k]? =some ⟨3,a,b,c,d,dp,t⟩)
 (hgo:∀a' w',nD cb co H M vv rv (fuel-1) t a'->w'=w->Q (.goto 1) a' w'):
 Code.wp prog (yX Tryz.f16 1) Q a0 w:=by
 unfold nD at h0
 iterate 139 obtain⟨_,h0⟩:=h0
 subst h0;have hd:decide (fuel<=0)=false:=by simp;omega
 have i0:(0:Int)<=(k:Int):=by omega
 have j0:(k:Int)<(jC.length:Int):=by omega
 have k1:(k:Int)<=1000000:=by omega
 have hsl:=hc.slice;obtain⟨s0,s1,s2,s3,s4,s5,s6⟩:=hc.step k _ hst;simp only at s0 s1 s2 s3 s4 s5 s6;generalize hN:jC.length=N at *;have HN:Hid (jC.length=N):=hN;clear hN
 conv=>arg 2;whnf
 go_wp2;go_step3;refine hgo _ _ ?_ ?_
 .unfold nD
  (repeat apply Exists.intro)
  rfl
 .rfl
set_option maxRecDepth 1000000 in
theorem ap1(H:Nat)(vv rv:jr)(fuel:Int)(k:Nat){a0:Act}(h0:nD cb co H M vv rv fuel k a0)(Q:Exit->Act->jo->Prop)(hf:0<fuel)(hfm:fuel<=9223372036854775807)(hk:k<jC.length)(hlen:jC.length<=1000000)
 (hm:kM B C w M SB v m)(hc:uh B w cb co sb so cap jC)(a:Nat)(b c d dp t:Int)(hst:jC[k]? =some ⟨2,a,b,c,d,dp,t⟩)(ha:a<m.jE.length)
 (hgo:∀a' w',nD cb co H M vv rv (fuel-1) (if m.jE.getD a 0=0 then t else k+1) a'->(∃n,w'=w.drewN n)->Q (.goto 1) a' w'):
 Code.wp prog (yX Tryz.f16 1) Q a0 w:=by
 unfold nD at h0
 iterate 139 obtain⟨_,h0⟩:=h0
 subst h0;have hd:decide (fuel<=0)=false:=by simp;omega
 have i0:(0:Int)<=(k:Int):=by omega
 have j0:(k:Int)<(jC.length:Int):=by omega
 have k1:(k:Int)<=1000000:=by omega
 have hsl:=hc.slice;obtain⟨s0,s1,s2,s3,s4,s5,s6⟩:=hc.step k _ hst;simp only at s0 s1 s2 s3 s4 s5 s6;generalize hN:jC.length=N at *;have HN:Hid (jC.length=N):=hN;clear hN;have hs:=hm.jE;have ca:=hm.slot a ha;clear hm;generalize m.jE.getD a 0=xa at *;generalize m.jE.length=len at *;have i1:(0:Int)<=(a:Int):=by omega
 have j1:(a:Int)<(len:Int):=by omega
 obtain⟨z,hz⟩:∃z,(xa==0)=z:=⟨_,rfl⟩
 conv=>arg 2;whnf
 cases z with
 |true=>
  have hx:xa=0:=by simpa using hz
  rw[jl hx]at hgo;clear hx;go_wp2_with fail;go_quiet (fail);go_wp2;go_step3;refine hgo _ _ ?_ ?_
  .unfold nD
   (repeat apply Exists.intro)
   rfl
  .exact⟨_,rfl⟩
 |false=>
  have hx:¬xa=0:=by simpa using hz
  rw[jk hx]at hgo;clear hx;go_wp2_with fail;go_quiet (fail);go_wp2;go_step3;refine hgo _ _ ?_ ?_
  .unfold nD
   (repeat apply Exists.intro)
   rfl
  .exact⟨_,rfl⟩
set_option maxRecDepth 1000000 in
theorem ap2(H:Nat)(vv rv:jr)(fuel:Int)(k:Nat){a0:Act}(h0:nD cb co H M vv rv fuel k a0)(Q:Exit->Act->jo->Prop)(hf:0<fuel)(hfm:fuel<=9223372036854775807)(hk:k<jC.length)(hlen:jC.length<=1000000)
 (hm:kM B C w M SB v m)(hc:uh B w cb co sb so cap jC)(l:Int)(b c:Nat)(d:Int)(dp:Nat)(t:Int)(hst:jC[k]? =some ⟨4,l,b,c,d,dp,t⟩)(hb:b<m.jE.length)(hcs:c<m.jE.length)(hdp:dp<8)
 (hgo:∀a' w',nD cb co H M vv rv (fuel-1) (Hx.kR ⟨4,l,b,c,d,dp,t⟩ k (Hx.rG v ⟨4,l,b,c,d,dp,t⟩ m)).2 a'->kM B C w' M SB v (Hx.kR ⟨4,l,b,c,d,dp,t⟩ k (Hx.rG v ⟨4,l,b,c,d,dp,t⟩ m)).1->Below B w w'->Q (.goto 1) a' w'):
 Code.wp prog (yX Tryz.f16 1) Q a0 w:=by
 unfold nD at h0
 iterate 139 obtain⟨_,h0⟩:=h0
 subst h0;have hd:decide (fuel<=0)=false:=by simp;omega
 have i0:(0:Int)<=(k:Int):=by omega
 have j0:(k:Int)<(jC.length:Int):=by omega
 have k1:(k:Int)<=1000000:=by omega
 have Pv:=ahW hm sb (so+k * 7) 4 l b c d dp t (hc.step k _ hst) hcs hdp;have HB:Hid (Calls prog 52 #[Pt M 0,Pt sb (so+k * 7)] w λe w'=>e=.returned (.tuple #[])/\kM B C w' M SB v (Hx.rG v ⟨4,l,b,c,d,dp,t⟩ m)/\Below B w w'):=Pv;clear Pv;have HT:Hid (∀w',kM B C w' M SB v (Hx.rG v ⟨4,l,b,c,d,dp,t⟩ m)->Below B w w'->w'.cell? (Ad cb co)=some (.slice (some (Ad sb so)) jC.length cap)/\
  Calls prog 53 #[Pt M 0,.slice (some (Ad sb so)) jC.length cap,Im k] w' λe w''=>e=.returned (Im (Hx.kR ⟨4,l,b,c,d,dp,t⟩ k (Hx.rG v ⟨4,l,b,c,d,dp,t⟩ m)).2)/\kM B C w'' M SB v (Hx.kR ⟨4,l,b,c,d,dp,t⟩ k (Hx.rG v ⟨4,l,b,c,d,dp,t⟩ m)).1/\Below B w' w''):=λw' h1 h2=>by
  have hc':=hc.keep h2;exact⟨hc'.slice,W9 h1 sb so jC.length cap k _ hc.Gn hk hlen (hc'.step k _ hst) ⟨by show(0:Int)<=(b:Int);omega,by show(b:Int)<_;simp[Hx.rG,Hx.Mc.lU];omega⟩ ⟨by show(0:Int)<=(dp:Int);omega,by show(dp:Int)<8;omega⟩⟩
 have hsl:=hc.slice;obtain⟨s0,s1,s2,s3,s4,s5,s6⟩:=hc.step k _ hst;simp only at s0 s1 s2 s3 s4 s5 s6;generalize hN:jC.length=N at *;have HN:Hid (jC.length=N):=hN;clear hN;clear hm hc
 conv=>arg 2;whnf
 generalize (Hx.kR ⟨4,l,b,c,d,dp,t⟩ k (Hx.rG v ⟨4,l,b,c,d,dp,t⟩ m)).2=nx at *;generalize (Hx.kR ⟨4,l,b,c,d,dp,t⟩ k (Hx.rG v ⟨4,l,b,c,d,dp,t⟩ m)).1=m2 at *;generalize Hx.rG v ⟨4,l,b,c,d,dp,t⟩ m=m1 at *;go_wp2_with fail;refine(HB.out).mono ?_;rintro e w1 ⟨rfl,hm1,hb1⟩;obtain⟨hcl,ht⟩:=HT.out w1 hm1 hb1;have HT2:Hid (Calls prog 53 #[Pt M 0,.slice (some (Ad sb so)) N cap,Im k] w1 λe w''=>e=.returned (Im nx)/\kM B C w'' M SB v m2/\Below B w1 w''):=ht;clear ht;go_wp2_with fail;refine(HT2.out).mono ?_;rintro e w2 ⟨rfl,hm2,hb2⟩;go_wp2;go_step3;refine hgo _ _ ?_ hm2 (hb1.trans hb2);unfold nD
 (repeat apply Exists.intro)
 rfl
set_option maxRecDepth 1000000 in
theorem ap0(H:Nat)(vv rv:jr)(fuel:Int)(k:Nat){a0:Act}(h0:nD cb co H M vv rv fuel k a0)(Q:Exit->Act->jo->Prop)(hf:0<fuel)(hfm:fuel<=9223372036854775807)(hk:k<jC.length)(hlen:jC.length<=1000000)
 (hm:kM B C w M SB v m)(hc:uh B w cb co sb so cap jC)(a:Int)(b c d dp:Int)(t:Nat)(hst:jC[k]? =some ⟨0,a,b,c,d,dp,t⟩)(lp:St)(hlp:jC[t]? =some lp)(hlb:St.slot m.jE.length lp.b)(hld:0<=lp.depth/\lp.depth<8)
 (hgo:∀a' w',nD cb co H M vv rv (fuel-1) (Hx.kR lp t m).2 a'->kM B C w' M SB v (Hx.kR lp t m).1->Below B w w'->Q (.goto 1) a' w'):
 Code.wp prog (yX Tryz.f16 1) Q a0 w:=by
 unfold nD at h0
 iterate 139 obtain⟨_,h0⟩:=h0
 subst h0;have hd:decide (fuel<=0)=false:=by simp;omega
 have i0:(0:Int)<=(k:Int):=by omega
 have j0:(k:Int)<(jC.length:Int):=by omega
 have k1:(k:Int)<=1000000:=by omega
 have htl:t<jC.length:=by
  rcases dG t jC.length with h|h
  .exact h
  .rw[bV h]at hlp;cases hlp
 have HT:Hid (∀n,Calls prog 53 #[Pt M 0,.slice (some (Ad sb so)) jC.length cap,Im t] (w.drewN n) λe w'=>e=.returned (Im (Hx.kR lp t m).2)/\kM B C w' M SB v (Hx.kR lp t m).1/\Below B (w.drewN n) w'):=λn=>by
  have hc':=hc.keep (below_drewN (dK B w) n);exact W9 (hm.drewN n) sb so jC.length cap t lp hc.Gn htl hlen (hc'.step t lp hlp) hlb hld
 have hsl:=hc.slice;obtain⟨s0,s1,s2,s3,s4,s5,s6⟩:=hc.step k _ hst;simp only at s0 s1 s2 s3 s4 s5 s6;generalize hN:jC.length=N at *;have HN:Hid (jC.length=N):=hN;clear hN;clear hm hc hlb hld hlp htl
 conv=>arg 2;whnf
 generalize (Hx.kR lp t m).2=nx at *;generalize (Hx.kR lp t m).1=m2 at *;go_wp2_with fail;refine nJ 9 (by kernel_rfl) (by kernel_rfl) ?_;simp only[aC,aO,aG,aQ];repeat (go_big_quiet_step (fail))
 refine bF ?_;intro _ hw';obtain⟨n3,hw''⟩:=hw';subst hw'';go_wp2_with fail;refine(HT.out n3).mono ?_;rintro e w2 ⟨rfl,hm2,hb2⟩;go_wp2;go_step3;refine hgo _ _ ?_ hm2 ((below_drewN (dK B w) n3).trans hb2);unfold nD
 (repeat apply Exists.intro)
 rfl
set_option maxRecDepth 1000000 in
theorem ap7(H:Nat)(vv rv:jr)(fuel:Int)(k:Nat){a0:Act}(h0:nD cb co H M vv rv fuel k a0)(Q:Exit->Act->jo->Prop)(hf:0<fuel)(hfm:fuel<=9223372036854775807)(hk:k<jC.length)(hlen:jC.length<=1000000)
 (hm:kM B C w M SB v m)(hc:uh B w cb co sb so cap jC)(a:Nat)(b c d dp:Int)(t:Nat)(hst:jC[k]? =some ⟨5,a,b,c,d,dp,t⟩)(ha:a<m.jE.length)(hz:m.jE.getD a 0=0)(lp:St)(hlp:jC[t]? =some lp)(hlb:St.slot m.jE.length lp.b)(hld:0<=lp.depth/\lp.depth<8)
 (hgo:∀a' w',nD cb co H M vv rv (fuel-1) (Hx.kR lp t m).2 a'->kM B C w' M SB v (Hx.kR lp t m).1->Below B w w'->Q (.goto 1) a' w'):
 Code.wp prog (yX Tryz.f16 1) Q a0 w:=by
 unfold nD at h0
 iterate 139 obtain⟨_,h0⟩:=h0
 subst h0;have hd:decide (fuel<=0)=false:=by simp;omega
 have i0:(0:Int)<=(k:Int):=by omega
 have j0:(k:Int)<(jC.length:Int):=by omega
 have k1:(k:Int)<=1000000:=by omega
 have htl:t<jC.length:=by
  rcases dG t jC.length with h|h
  .exact h
  .rw[bV h]at hlp;cases hlp
 have HT:Hid (∀n,Calls prog 53 #[Pt M 0,.slice (some (Ad sb so)) jC.length cap,Im t] (w.drewN n) λe w'=>e=.returned (Im (Hx.kR lp t m).2)/\kM B C w' M SB v (Hx.kR lp t m).1/\Below B (w.drewN n) w'):=λn=>by
  have hc':=hc.keep (below_drewN (dK B w) n);exact W9 (hm.drewN n) sb so jC.length cap t lp hc.Gn htl hlen (hc'.step t lp hlp) hlb hld
 have hsl:=hc.slice;obtain⟨s0,s1,s2,s3,s4,s5,s6⟩:=hc.step k _ hst;simp only at s0 s1 s2 s3 s4 s5 s6;generalize hN:jC.length=N at *;have HN:Hid (jC.length=N):=hN;clear hN;have hs:=hm.jE;have ca:=hm.slot a ha;rw[hz]at ca;clear hm hc hlb hld hlp htl;clear hz;generalize m.jE.length=len at *;have i1:(0:Int)<=(a:Int):=by omega
 have j1:(a:Int)<(len:Int):=by omega
 conv=>arg 2;whnf
 generalize (Hx.kR lp t m).2=nx at *;generalize (Hx.kR lp t m).1=m2 at *;go_wp2_with fail;go_quiet (fail);go_wp2_with fail;refine BR 9 (by kernel_rfl) (by kernel_rfl) ?_;simp only[aC,aO,aG,aQ];repeat (go_big_quiet_step (fail))
 refine bF ?_;intro _ hw';obtain⟨n3,hw''⟩:=hw';subst hw'';go_wp2_with fail;refine(HT.out n3).mono ?_;rintro e w2 ⟨rfl,hm2,hb2⟩;go_wp2;go_step3;refine hgo _ _ ?_ hm2 ((below_drewN (dK B w) n3).trans hb2);unfold nD
 (repeat apply Exists.intro)
 rfl
set_option maxRecDepth 1000000 in
theorem ap9(H:Nat)(vv rv:jr)(fuel:Int)(k:Nat){a0:Act}(h0:nD cb co H M vv rv fuel k a0)(Q:Exit->Act->jo->Prop)(hf:0<fuel)(hfm:fuel<=9223372036854775807)(hk:k<jC.length)(hlen:jC.length<=1000000)
 (hm:kM B C w M SB v m)(hc:uh B w cb co sb so cap jC)(a:Nat)(b c d dp t:Int)(hst:jC[k]? =some ⟨5,a,b,c,d,dp,t⟩)(ha:a<m.jE.length)(hz:¬m.jE.getD a 0=0)
 (hgo:∀a' w',nD cb co H M vv rv (fuel-1) (k+1) a'->(∃n,w'=w.drewN n)->Q (.goto 1) a' w'):
 Code.wp prog (yX Tryz.f16 1) Q a0 w:=by
 unfold nD at h0
 iterate 139 obtain⟨_,h0⟩:=h0
 subst h0;have hd:decide (fuel<=0)=false:=by simp;omega
 have i0:(0:Int)<=(k:Int):=by omega
 have j0:(k:Int)<(jC.length:Int):=by omega
 have k1:(k:Int)<=1000000:=by omega
 have hsl:=hc.slice;obtain⟨s0,s1,s2,s3,s4,s5,s6⟩:=hc.step k _ hst;simp only at s0 s1 s2 s3 s4 s5 s6;generalize hN:jC.length=N at *;have HN:Hid (jC.length=N):=hN;clear hN;have hs:=hm.jE;have ca:=hm.slot a ha;clear hm;generalize m.jE.getD a 0=xa at *;generalize m.jE.length=len at *;have i1:(0:Int)<=(a:Int):=by omega
 have j1:(a:Int)<(len:Int):=by omega
 have hz':(xa==0)=false:=by simpa using hz
 clear hz
 conv=>arg 2;whnf
 go_wp2_with fail;go_quiet (fail);go_wp2;go_step3;refine hgo _ _ ?_ ?_
 .unfold nD
  (repeat apply Exists.intro)
  rfl
 .exact⟨_,rfl⟩
set_option maxRecDepth 1000000 in
theorem ap5(H:Nat)(vv rv:jr)(fuel:Int)(k:Nat){a0:Act}(h0:nD cb co H M vv rv fuel k a0)(Q:Exit->Act->jo->Prop)(hf:0<fuel)(hfm:fuel<=9223372036854775807)(hk:k<jC.length)(hlen:jC.length<=1000000)
 (hm:kM B C w M SB v m)(hc:uh B w cb co sb so cap jC)(a b:Nat)(c d dp t:Int)(hst:jC[k]? =some ⟨36,a,b,c,d,dp,t⟩)(ha:a<m.jE.length)(hb:b<m.jE.length)(h256:m.jP.length<=256)(m2:Mc)(hpu:Hx.push v (m.jE.getD a 0) (m.jE.getD b 0) m=some m2)
 (hgo:∀a' w',nD cb co H M vv rv (fuel-1) (k+1) a'->kM B C w' M SB v m2->Below B w w'->Q (.goto 1) a' w'):
 Code.wp prog (yX Tryz.f16 1) Q a0 w:=by
 unfold nD at h0
 iterate 139 obtain⟨_,h0⟩:=h0
 subst h0;have hd:decide (fuel<=0)=false:=by simp;omega
 have i0:(0:Int)<=(k:Int):=by omega
 have j0:(k:Int)<(jC.length:Int):=by omega
 have k1:(k:Int)<=1000000:=by omega
 have HT:Hid (∀n,Calls prog 54 #[Pt M 0,Im (m.jE.getD a 0),Im (m.jE.getD b 0)] (w.drewN n) λe w'=>e=.returned (.bool true)/\(∀m',Hx.push v (m.jE.getD a 0) (m.jE.getD b 0) m=some m'->kM B C w' M SB v m')/\Below B (w.drewN n) w'):=λn=>by
  have:=aes (hm.drewN n) (m.jE.getD a 0) (m.jE.getD b 0) (hm.Df b).2 h256;rw[hpu]at this⊢;exact this
 have hsl:=hc.slice;obtain⟨s0,s1,s2,s3,s4,s5,s6⟩:=hc.step k _ hst;simp only at s0 s1 s2 s3 s4 s5 s6;generalize hN:jC.length=N at *;have HN:Hid (jC.length=N):=hN;clear hN;have hs:=hm.jE;have ca:=hm.slot a ha;have cb':=hm.slot b hb;clear hm hc;have Sl:=hpu;generalize m.jE.getD a 0=xa at *;generalize m.jE.getD b 0=xb at *;have HP:Hid (Hx.push v xa xb m=some m2):=hpu;clear hpu Sl;generalize m.jE.length=len at *;have i1:(0:Int)<=(a:Int):=by omega
 have j1:(a:Int)<(len:Int):=by omega
 have i2:(0:Int)<=(b:Int):=by omega
 have j2:(b:Int)<(len:Int):=by omega
 conv=>arg 2;whnf
 go_wp2_with fail;refine nJ 23 (by kernel_rfl) (by kernel_rfl) ?_;simp only[aC,aO,aG,aQ];repeat (go_big_quiet_step (fail))
 refine bF ?_;intro _ hw';obtain⟨n3,hw''⟩:=hw';subst hw'';go_wp2_with fail;refine(HT.out n3).mono ?_;rintro e w2 ⟨rfl,hm2,hb2⟩;go_wp2;go_step3;refine hgo _ _ ?_ (hm2 _ HP.out) ((below_drewN (dK B w) n3).trans hb2);unfold nD
 (repeat apply Exists.intro)
 rfl
set_option maxRecDepth 1000000 in
theorem ap4(H:Nat)(vv rv:jr)(fuel:Int)(k:Nat){a0:Act}(h0:nD cb co H M vv rv fuel k a0)(Q:Exit->Act->jo->Prop)(hf:0<fuel)(hfm:fuel<=9223372036854775807)(hk:k<jC.length)(hlen:jC.length<=1000000)
 (hm:kM B C w M SB v m)(hc:uh B w cb co sb so cap jC)(a b:Nat)(c d dp t:Int)(hst:jC[k]? =some ⟨36,a,b,c,d,dp,t⟩)(ha:a<m.jE.length)(hb:b<m.jE.length)(h256:m.jP.length<=256)(hpu:Hx.push v (m.jE.getD a 0) (m.jE.getD b 0) m=none)
 (hgo:∀a' w',DK cb co H M vv rv 1 a'->Below B w w'->Q (.goto 0) a' w'):
 Code.wp prog (yX Tryz.f16 1) Q a0 w:=by
 unfold nD at h0
 iterate 139 obtain⟨_,h0⟩:=h0
 subst h0;have hd:decide (fuel<=0)=false:=by simp;omega
 have i0:(0:Int)<=(k:Int):=by omega
 have j0:(k:Int)<(jC.length:Int):=by omega
 have k1:(k:Int)<=1000000:=by omega
 have HT:Hid (∀n,Calls prog 54 #[Pt M 0,Im (m.jE.getD a 0),Im (m.jE.getD b 0)] (w.drewN n) λe w'=>e=.returned (.bool false)/\(∀m',Hx.push v (m.jE.getD a 0) (m.jE.getD b 0) m=some m'->kM B C w' M SB v m')/\Below B (w.drewN n) w'):=λn=>by
  have:=aes (hm.drewN n) (m.jE.getD a 0) (m.jE.getD b 0) (hm.Df b).2 h256;rw[hpu]at this⊢;exact this
 have hsl:=hc.slice;obtain⟨s0,s1,s2,s3,s4,s5,s6⟩:=hc.step k _ hst;simp only at s0 s1 s2 s3 s4 s5 s6;generalize hN:jC.length=N at *;have HN:Hid (jC.length=N):=hN;clear hN;have hs:=hm.jE;have ca:=hm.slot a ha;have cb':=hm.slot b hb;clear hm hc;have Sl:=hpu;generalize m.jE.getD a 0=xa at *;generalize m.jE.getD b 0=xb at *;have HP:Hid (Hx.push v xa xb m=none):=hpu;clear hpu Sl;generalize m.jE.length=len at *;have i1:(0:Int)<=(a:Int):=by omega
 have j1:(a:Int)<(len:Int):=by omega
 have i2:(0:Int)<=(b:Int):=by omega
 have j2:(b:Int)<(len:Int):=by omega
 conv=>arg 2;whnf
 go_wp2_with fail;refine nJ 23 (by kernel_rfl) (by kernel_rfl) ?_;simp only[aC,aO,aG,aQ];repeat (go_big_quiet_step (fail))
 refine bF ?_;intro _ hw';obtain⟨n3,hw''⟩:=hw';subst hw'';go_wp2_with fail;refine(HT.out n3).mono ?_;rintro e w2 ⟨rfl,hm2,hb2⟩;go_wp2;go_step3;refine hgo _ _ ?_ ((below_drewN (dK B w) n3).trans hb2);unfold DK
 (repeat apply Exists.intro)
 rfl
set_option maxRecDepth 1000000 in
theorem aqa(H:Nat)(vv rv:jr)(fuel:Int)(k:Nat){a0:Act}(h0:nD cb co H M vv rv fuel k a0)(Q:Exit->Act->jo->Prop)(hf:0<fuel)(hfm:fuel<=9223372036854775807)(hk:k<jC.length)(hlen:jC.length<=1000000)
 (hm:kM B C w M SB v m)(hc:uh B w cb co sb so cap jC)(s:St)(hst:jC[k]? =some s)(hs:s.RJ m.jE.length)(q1:(s.op==1)=false)(q2:(s.op==2)=false)(q3:(s.op==3)=false)(q4:(s.op==4)=false)(q5:(s.op==5)=false)(q6:(s.op==0)=false)(q7:(s.op==36)=false)
 (hgo:∀a' w',nD cb co H M vv rv (fuel-1) (k+1) a'->kM B C w' M SB v (Hx.work v s m)->Below B w w'->Q (.goto 1) a' w'):
 Code.wp prog (yX Tryz.f16 1) Q a0 w:=by
 unfold nD at h0
 iterate 139 obtain⟨_,h0⟩:=h0
 subst h0;have hd:decide (fuel<=0)=false:=by simp;omega
 have i0:(0:Int)<=(k:Int):=by omega
 have j0:(k:Int)<(jC.length:Int):=by omega
 have k1:(k:Int)<=1000000:=by omega
 have hw:=arW hm sb (so+k * 7) s hc.Gn (hc.step k _ hst) hs;have HW:Hid (Calls prog 55 #[Pt M 0,Pt sb (so+k * 7)] w λe w'=>e=.returned (.tuple #[])/\kM B C w' M SB v (Hx.work v s m)/\Below B w w'):=hw;clear hw;have hsl:=hc.slice;obtain⟨s0,s1,s2,s3,s4,s5,s6⟩:=hc.step k _ hst;generalize hN:jC.length=N at *;have HN:Hid (jC.length=N):=hN;clear hN;clear hm hc
 conv=>arg 2;whnf
 go_wp2_with fail;refine(HW.out).mono ?_;rintro e w2 ⟨rfl,hm2,hb2⟩;go_wp2;go_step3;refine hgo _ _ ?_ hm2 hb2;unfold nD
 (repeat apply Exists.intro)
 rfl
def wR(w:jo)(H:Nat):Prop:=
 w.cell? (Ad (H+1+1) 0)=some (.int .u8 0)/\w.cell? (Ad (H+1+1) 1)=some (Nl)/\(∀j,j<8->w.cell? (Ad (H+1+1) (2+j))=some (Im 0))/\(∀j,w.frozen? (Ad (H+1+1) j)=false)
theorem wR.keep{B:Nat}{w w':jo}{H:Nat}(h:wR w H)(hb:Below B w w')(hB:H+1+1<B):wR w' H:=by
 obtain⟨h1,h2,h3,h4⟩:=h;have hc:∀o,w'.cell? (Ad (H+1+1) o)=w.cell? (Ad (H+1+1) o):=λo=>hb.cell (p:=(Ad (H+1+1) o)) hB;exact⟨by rw[hc];exact h1,by rw[hc];exact h2,λj hj=>by rw[hc];exact h3 j hj,λj=>by rw[hb.frozen (p:=(Ad (H+1+1) j)) hB];exact h4 j⟩
def EF(w:jo)(H:Nat)(st:Int)(va:jr)(x0 x1 x2 x3 x4 x5 x6 x7:Int):jo:=
 ((((((((((w.setCell (Ad (H+1+1) 0) (.int .u8 st)).setCell (Ad (H+1+1) 1) va).setCell (Ad (H+1+1) 2) (Im x0)).setCell (Ad (H+1+1) 3) (Im x1)).setCell (Ad (H+1+1) 4) (Im x2)).setCell (Ad (H+1+1) 5) (Im x3)).setCell (Ad (H+1+1) 6) (Im x4)).setCell (Ad (H+1+1) 7) (Im x5)).setCell (Ad (H+1+1) 8) (Im x6)).setCell (Ad (H+1+1) 9) (Im x7))
set_option maxRecDepth 1000000 in
theorem ap6(H:Nat)(vv rv:jr)(fuel:Int)(k:Nat){a0:Act}(h0:nD cb co H M vv rv fuel k a0)(Q:Exit->Act->jo->Prop)(hf:0<fuel)(hfm:fuel<=9223372036854775807)(hk:k<jC.length)(hlen:jC.length<=1000000)
 (hm:kM B C w M SB v m)(hc:uh B w cb co sb so cap jC)(a b c d dp t:Int)(hst:jC[k]? =some ⟨1,a,b,c,d,dp,t⟩)(h8:8<=m.jE.length)(hH:H+1+1<B)(hres:wR w H)
 (hret:∀a' w1 va,w1.ownsRow C 76 2 va m.jP.length (oK m.jP)->(∃a n c,va=.slice a n c)->Below B w w1->wR w1 H->a'.tmps.getD 8 undef=Pt (H+1+1) 0->a'.defers=[]->Q .ret a' (EF w1 H 0 va (m.jE.getD 0 0) (m.jE.getD 1 0) (m.jE.getD 2 0) (m.jE.getD 3 0) (m.jE.getD 4 0) (m.jE.getD 5 0) (m.jE.getD 6 0) (m.jE.getD 7 0))):
 Code.wp prog (yX Tryz.f16 1) Q a0 w:=by
 unfold nD at h0
 iterate 139 obtain⟨_,h0⟩:=h0
 subst h0;have hd:decide (fuel<=0)=false:=by simp;omega
 have i0:(0:Int)<=(k:Int):=by omega
 have j0:(k:Int)<(jC.length:Int):=by omega
 have k1:(k:Int)<=1000000:=by omega
 have HD:Hid (Calls prog 51 #[Pt M 0] w λe w'=>∃va,e=.returned (tZ 0 va m.jE)/\w'.ownsRow C 76 2 va m.jP.length (oK m.jP)/\Below B w w'):=ai7 hm h8;have HR:Hid (wR w H):=hres;have hsl:=hc.slice;obtain⟨s0,s1,s2,s3,s4,s5,s6⟩:=hc.step k _ hst;simp only at s0 s1 s2 s3 s4 s5 s6;generalize hN:jC.length=N at *;have HN:Hid (jC.length=N):=hN;clear hN;clear hm hc hres
 conv=>arg 2;whnf
 go_wp2_with fail;refine(HD.out).mono ?_;rintro e w1 ⟨va,rfl,hown,hb1⟩;obtain⟨aa,cc,hval⟩:∃aa cc,va=.slice aa m.jP.length cc:=by
  obtain⟨h1,h2⟩:=hown;rcases h2 with⟨h3,h4⟩|⟨g,cap,cur,h3,h4⟩
  .exact⟨none,0,by rw[h3,h4]⟩
  .exact⟨_,_,h3⟩
 subst hval;have hr:=HR.out.keep hb1 hH;have HR1:Hid (wR w1 H):=hr;obtain⟨c0,c1,c2,cf⟩:=hr;have d0:=c2 0 (by omega);have d1:=c2 1 (by omega);have d2:=c2 2 (by omega);have d3:=c2 3 (by omega);have d4:=c2 4 (by omega);have d5:=c2 5 (by omega);have d6:=c2 6 (by omega);have d7:=c2 7 (by omega);simp only[Nat.reduceAdd]at d0 d1 d2 d3 d4 d5 d6 d7;have HO:Hid (w1.ownsRow C 76 2 (.slice aa m.jP.length cc) m.jP.length (oK m.jP)/\Below B w w1):=⟨hown,hb1⟩;clear hown hb1 c2;unfold tZ;go_wp2;exact hret _ w1 _ HO.out.1 ⟨_,_,_,rfl⟩ HO.out.2 HR1.out rfl rfl
end
end
section
open Go.RowKit
open Hx (Rd Pk Vw St Mc jO Out)
section
variable {B C:Nat}{w:jo}{M SB:Nat}{v:Vw}{m:Mc}{cb co sb so cap:Nat}{jC:List St}{H:Nat}{vv rv:jr}
theorem Qd(m:Mc)(i x:Int):(m.put i x).jE.length=m.jE.length:=by simp[Hx.Mc.put]
theorem al5(m:Mc)(i x:Int):(m.lU i x).jE.length=m.jE.length:=rfl
theorem al4(s:St)(b:Bool)(m:Mc):(Hx.choose s b m).jE.length=m.jE.length:=by
 unfold Hx.choose;split
 .rw[Qd,Qd]
 .rfl
theorem al6(v:Vw)(s:St)(m:Mc):(Hx.work v s m).jE.length=m.jE.length:=by
 unfold Hx.work;repeat' split
 all_goals first|exact Qd _ _ _|exact al4 _ _ _
theorem ahl(s:St)(b:Bool)(m:Mc):(Hx.choose s b m).jP=m.jP:=by unfold Hx.choose;split<;>rfl
theorem ahn(v:Vw)(s:St)(m:Mc):(Hx.work v s m).jP=m.jP:=by
 unfold Hx.work;repeat' split
 all_goals first|rfl|exact ahl _ _ _
theorem Vf(s:St)(k:Int)(m:Mc):(Hx.kR s k m).1.jE.length=m.jE.length:=by
 unfold Hx.kR;split
 .rfl
 .rw[al5,Qd]
theorem Td(s:St)(k:Int)(m:Mc):(Hx.kR s k m).1.jP=m.jP:=by unfold Hx.kR;split<;>rfl
theorem J7(s:St)(k:Int)(m:Mc):(Hx.kR s k m).2=s.ku\/(Hx.kR s k m).2=k+1:=by unfold Hx.kR;split<;>simp
theorem aoT{v:Vw}{i j:Int}{m m2:Mc}(h:Hx.push v i j m=some m2)(ha:m.jP.length<=256):m2.jE.length=m.jE.length/\m2.jP.length<=256:=by
 unfold Hx.push at h;split at h
 .split at h
  .cases h
  .cases h;simp;omega
 .cases h;exact⟨rfl,ha⟩
structure mJ(B C:Nat)(w:jo)(M SB:Nat)(v:Vw)(cb co sb so cap:Nat)(jC:List St)(n:Nat)(H:Nat)(jG:List Int)(o:Out)(fuel k:Int)(m:Mc):Prop where
 as6:kM B C w M SB v m
 code:uh B w cb co sb so cap jC
 res:wR w H
 len:m.jE.length=n
 jP:m.jP.length<=256
 k0:0<=k
 k1:k<jC.length
 ase:fuel<=9223372036854775807
 out:Hx.runs v jC jG fuel.toNat k m=o
theorem aqc{v:Vw}{jC:List St}{jG:List Int}{fuel k:Int}{m:Mc}{s:St}(hf:0<fuel)(hs:jC[k.toNat]? =some s):
 Hx.runs v jC jG fuel.toNat k m=match Hx.step v jC jG k.toNat s m with
  | .inl o=>o
  | .inr (k',m')=>Hx.runs v jC jG (fuel-1).toNat k' m':=by
 obtain⟨f,hf'⟩:∃f,fuel.toNat=f+1:=⟨fuel.toNat-1,by omega⟩;have e:(fuel-1).toNat=f:=by omega
 rw[hf',e,Hx.runs,hs];cases hh:Hx.step v jC jG k.toNat s m<;>simp[hh]
set_option maxRecDepth 1000000 in
theorem aeV{n:Nat}{jG:List Int}{o:Out}{fuel k:Int}(hfit:Hx.Fits jC n)(h8:8<=n)(hH:H+1+1<B)(a:Act)(ha:nD cb co H M vv rv fuel k a)(hg:mJ B C w M SB v cb co sb so cap jC n H jG o fuel k m)(Q:Exit->Act->jo->Prop)
 (hgo:∀a' w' fuel' k' m',nD cb co H M vv rv fuel' k' a'->mJ B C w' M SB v cb co sb so cap jC n H jG o fuel' k' m'->Below B w w'->0<fuel->fuel'=fuel-1->Q (.goto 1) a' w')
 (hwr:∀a' w' st,DK cb co H M vv rv st a'->o=⟨st,jG,[]⟩->wR w' H->Below B w w'->Q (.goto 0) a' w')
 (hret:∀a' w1 va,o=⟨0,m.jE,m.jP⟩->w1.ownsRow C 76 2 va m.jP.length (oK m.jP)->(∃a n c,va=.slice a n c)->Below B w w1->wR w1 H->a'.tmps.getD 8 undef=Pt (H+1+1) 0->a'.defers=[]->Q .ret a' (EF w1 H 0 va (m.jE.getD 0 0) (m.jE.getD 1 0) (m.jE.getD 2 0) (m.jE.getD 3 0) (m.jE.getD 4 0) (m.jE.getD 5 0) (m.jE.getD 6 0) (m.jE.getD 7 0))):
 Code.wp prog (yX Tryz.f16 1) Q a w:=by
 obtain⟨hm,hc,hr,hn,hac,hk0,hk1,hfm,hout⟩:=hg;obtain⟨k,rfl⟩:=bI hk0;have hkn:k<jC.length:=by omega
 have hlen:=hfit.len;obtain⟨s,hst⟩:∃s,jC[k]? =some s:=⟨jC[k],by simp[hkn]⟩;have hfs:=hfit.each k s hst;by_cases hf:0<fuel
 .have hrun:=aqc (v:=v) (jG:=jG) (m:=m) hf (show jC[((k:Nat):Int).toNat]? =some s from hst);rw[hout]at hrun;simp only[bK]at hrun;obtain⟨q,a,b,c,d,dp,t⟩:=s;have keep:∀w',Below B w w'->uh B w' cb co sb so cap jC/\wR w' H:=λw' hb=>⟨hc.keep hb,hr.keep hb hH⟩;by_cases q1:q=1
  .subst q1;refine ap6 H vv rv fuel k ha Q hf hfm hkn hlen hm hc a b c d dp t hst (by omega) hH hr ?_;intro a' w1 va h1 h2 h3 h4 h5 h6;exact hret a' w1 va (by simpa [Hx.step]using hrun) h1 h2 h3 h4 h5 h6
  by_cases q3:q=3
  .subst q3;have hto:=hfs.aaD rfl;refine apZ H vv rv fuel k ha Q hf hfm hkn hlen hc a b c d dp t hst ?_;rintro a' w' h1 rfl;exact hgo a' _ _ t m h1 ⟨hm,hc,hr,hn,hac,hto.1,hto.2,by omega,by rw[hrun];simp[Hx.step]⟩ (dK _ _) hf rfl
  by_cases q0:q=0
  .subst q0;obtain⟨lp,hl0,hlp,hl1,ht0,ht1,hlb,hd0,hd1⟩:=hfs.ends rfl;simp only at hl0 hlp hl1;obtain⟨t,rfl⟩:=bI hl0;simp only[bK]at hlp;refine ap0 H vv rv fuel k ha Q hf hfm hkn hlen hm hc a b c d dp t hst lp hlp (by rw[hn];exact hlb) ⟨hd0,hd1⟩ ?_;intro a' w' h1 h2 h3;obtain⟨k3,k4⟩:=keep w' h3;refine hgo a' w' _ _ _ h1 ⟨h2,k3,k4,by rw[Vf];exact hn,by rw[Td];exact hac,?_,?_,by omega,by rw[hrun];simp[Hx.step,hlp]⟩ h3 hf rfl
   .rcases J7 lp t m with e|e<;>rw[e]<;>omega
   .rcases J7 lp t m with e|e<;>rw[e]<;>omega
  have hnx:=hfs.next q1 q3 q0;by_cases q2:q=2
  .subst q2;obtain⟨⟨hs0,hs1⟩,PS,PU⟩:=hfs.ifs rfl;simp only at hs0 hs1 PS PU;obtain⟨a,rfl⟩:=bI hs0;refine ap1 H vv rv fuel k ha Q hf hfm hkn hlen hm hc a b c d dp t hst (by omega) ?_;rintro a' w' h1 ⟨i,rfl⟩;have hb:Below B w (w.drewN i):=below_drewN (dK _ _) i;obtain⟨k3,k4⟩:=keep _ hb;refine hgo a' _ _ _ m h1 ⟨hm.drewN i,k3,k4,hn,hac,?_,?_,by omega,by rw[hrun];simp[Hx.step,Hx.Mc.get]⟩ hb hf rfl
   .split<;>omega
   .split<;>omega
  by_cases q4:q=4
  .subst q4;obtain⟨PS,PU,⟨hb0,hb1⟩,⟨hc0,hc1⟩,hd0,hd1⟩:=hfs.jY rfl;simp only at PS PU hb0 hb1 hc0 hc1 hd0 hd1;obtain⟨b,rfl⟩:=bI hb0;obtain⟨c,rfl⟩:=bI hc0;obtain⟨dp,rfl⟩:=bI hd0;refine ap2 H vv rv fuel k ha Q hf hfm hkn hlen hm hc a b c d dp t hst (by omega) (by omega) (by omega) ?_;intro a' w' h1 h2 h3;obtain⟨k3,k4⟩:=keep w' h3;refine hgo a' w' _ _ _ h1 ⟨h2,k3,k4,by rw[Vf];exact hn,by rw[Td];exact hac,?_,?_,by omega,by rw[hrun];simp[Hx.step]⟩ h3 hf rfl
   .rcases J7 ⟨4,a,b,c,d,dp,t⟩ k (Hx.rG v ⟨4,a,b,c,d,dp,t⟩ m)with e|e<;>rw[e]
    .exact PS
    .omega
   .rcases J7 ⟨4,a,b,c,d,dp,t⟩ k (Hx.rG v ⟨4,a,b,c,d,dp,t⟩ m)with e|e<;>rw[e]
    .exact PU
    .omega
  by_cases q5:q=5
  .subst q5;obtain⟨⟨hs0,hs1⟩,lp,hl0,hlp,hl1,ht0,ht1,hlb,hd0,hd1⟩:=hfs.IC rfl;simp only at hs0 hs1 hl0 hlp hl1;obtain⟨a,rfl⟩:=bI hs0;by_cases hz:m.jE.getD a 0=0
   .obtain⟨t,rfl⟩:=bI hl0;simp only[bK]at hlp;refine ap7 H vv rv fuel k ha Q hf hfm hkn hlen hm hc a b c d dp t hst (by omega) hz lp hlp (by rw[hn];exact hlb) ⟨hd0,hd1⟩ ?_;intro a' w' h1 h2 h3;obtain⟨k3,k4⟩:=keep w' h3;have hz':m.get (a:Int)=0:=by simpa [Hx.Mc.get]using hz
    refine hgo a' w' _ _ _ h1 ⟨h2,k3,k4,by rw[Vf];exact hn,by rw[Td];exact hac,?_,?_,by omega,by rw[hrun];simp[Hx.step,hlp,hz']⟩ h3 hf rfl
    .rcases J7 lp t m with e|e<;>rw[e]<;>omega
    .rcases J7 lp t m with e|e<;>rw[e]<;>omega
   .refine ap9 H vv rv fuel k ha Q hf hfm hkn hlen hm hc a b c d dp t hst (by omega) hz ?_;rintro a' w' h1 ⟨i,rfl⟩;have hb:Below B w (w.drewN i):=below_drewN (dK _ _) i;obtain⟨k3,k4⟩:=keep _ hb;have hz':¬m.get (a:Int)=0:=by simpa [Hx.Mc.get]using hz
    exact hgo a' _ _ _ m h1 ⟨hm.drewN i,k3,k4,hn,hac,by omega,by omega,by omega,by rw[hrun];simp[Hx.step,hz']⟩ hb hf rfl
  by_cases q6:q=36
  .subst q6;obtain⟨⟨hs0,hs1⟩,hs2,hs3⟩:=hfs.Iq rfl;simp only at hs0 hs1 hs2 hs3;obtain⟨a,rfl⟩:=bI hs0;obtain⟨b,rfl⟩:=bI hs2;have e0:Hx.push v (m.get (a:Int)) (m.get (b:Int)) m=Hx.push v (m.jE.getD a 0) (m.jE.getD b 0) m:=by simp[Hx.Mc.get]
   cases hpu:Hx.push v (m.jE.getD a 0) (m.jE.getD b 0) m with
   |none=>
    refine ap4 H vv rv fuel k ha Q hf hfm hkn hlen hm hc a b c d dp t hst (by omega) (by omega) hac hpu ?_;intro a' w' h1 h2;exact hwr a' w' 1 h1 (by rw[hrun];simp[Hx.step,e0.trans hpu]) (keep w' h2).2 h2
   |some m2=>
    refine ap5 H vv rv fuel k ha Q hf hfm hkn hlen hm hc a b c d dp t hst (by omega) (by omega) hac m2 hpu ?_;intro a' w' h1 h2 h3;obtain⟨k3,k4⟩:=keep w' h3;obtain⟨p1,p2⟩:=aoT hpu hac;exact hgo a' w' _ _ m2 h1 ⟨h2,k3,k4,by omega,p2,by omega,by omega,by omega,by rw[hrun];simp[Hx.step,e0.trans hpu]⟩ h3 hf rfl
  .refine aqa H vv rv fuel k ha Q hf hfm hkn hlen hm hc _ hst (by rw[hn];exact hfs.works q1 q2 q3 q4 q5 q0 q6) (by simpa using q1) (by simpa using q2) (by simpa using q3) (by simpa using q4) (by simpa using q5) (by simpa using q0) (by simpa using q6) ?_;intro a' w' h1 h2 h3;obtain⟨k3,k4⟩:=keep w' h3;exact hgo a' w' _ _ _ h1 ⟨h2,k3,k4,by rw[al6];exact hn,by rw[ahn];exact hac,by omega,by omega,by omega,by rw[hrun];simp[Hx.step,q1,q2,q3,q4,q5,q0,q6]⟩ h3 hf rfl
 .refine ap8 H vv rv fuel k ha Q (by omega) ?_;intro a' h1;refine hwr a' w 2 h1 ?_ hr (dK _ _);rw[<-hout];have e:fuel.toNat=0:=by omega
  rw[e]
  rfl
def I5(w:jo)(H:Nat)(x0 x1 x2 x3 x4 x5 x6 x7:Int):Prop:=
 ∀j,j<8->w.cell? (Ad (H+1) j)=some (Im ([x0,x1,x2,x3,x4,x5,x6,x7].getD j 0))
set_option maxRecDepth 1000000 in
theorem Zz{fuel k:Int}{a:Act}(ha:nD cb co H M vv rv fuel k a):a.tmps.getD 3 undef=Im fuel:=by
 unfold nD at ha
 iterate 139 obtain⟨_,ha⟩:=ha
 subst ha
 rfl
set_option maxRecDepth 1000000 in
theorem aqb{st x0 x1 x2 x3 x4 x5 x6 x7:Int}(a:Act)(ha:DK cb co H M vv rv st a)(hx:I5 w H x0 x1 x2 x3 x4 x5 x6 x7)(hr:wR w H)(Q:Exit->Act->jo->Prop)
 (hret:∀a',a'.tmps.getD 8 undef=Pt (H+1+1) 0->a'.defers=[]->Q .ret a' (EF w H st (Nl) x0 x1 x2 x3 x4 x5 x6 x7)):
 Code.wp prog (yX Tryz.f16 0) Q a w:=by
 unfold DK at ha
 iterate 141 obtain⟨_,ha⟩:=ha
 subst ha;have y0:=hx 0 (by omega);have y1:=hx 1 (by omega);have y2:=hx 2 (by omega);have y3:=hx 3 (by omega);have y4:=hx 4 (by omega);have y5:=hx 5 (by omega);have y6:=hx 6 (by omega);have y7:=hx 7 (by omega);simp only[iU,iV]at y0 y1 y2 y3 y4 y5 y6 y7;obtain⟨c0,c1,c2,cf⟩:=hr;have d0:=c2 0 (by omega);have d1:=c2 1 (by omega);have d2:=c2 2 (by omega);have d3:=c2 3 (by omega);have d4:=c2 4 (by omega);have d5:=c2 5 (by omega);have d6:=c2 6 (by omega);have d7:=c2 7 (by omega);simp only[Nat.reduceAdd]at d0 d1 d2 d3 d4 d5 d6 d7;clear hx c2
 conv=>arg 2;whnf
 go_wp2;exact hret _ rfl rfl
def ag9(B C:Nat)(M SB:Nat)(v:Vw)(cb co sb so cap:Nat)(jC:List St)(n H:Nat)(jG:List Int)(o:Out)(vv rv:jr)(W:jo):Nat->Act->jo->Prop
 |0,a,w=>∃st,DK cb co H M vv rv st a/\o=⟨st,jG,[]⟩/\wR w H/\Below B W w
 |1,a,w=>∃fuel k m,nD cb co H M vv rv fuel k a/\mJ B C w M SB v cb co sb so cap jC n H jG o fuel k m/\Below B W w
 |_,_,_=>False
def apX:Nat->Act->jo->Nat
 |1,a,_=>1+(intOf (a.tmps.getD 3 undef)).toNat
 |_,_,_=>0
theorem aeB(w:jo)(H:Nat)(st:Int)(va:jr)(x0 x1 x2 x3 x4 x5 x6 x7:Int):w.grownBy (EF w H st va x0 x1 x2 x3 x4 x5 x6 x7) (some (H+1+1)):=by
 unfold EF;exact(((((((((vH _ (Ad (H+1+1) 0) _).trans (vH _ (Ad (H+1+1) 1) _)).trans (vH _ (Ad (H+1+1) 2) _)).trans (vH _ (Ad (H+1+1) 3) _)).trans (vH _ (Ad (H+1+1) 4) _)).trans (vH _ (Ad (H+1+1) 5) _)).trans (vH _ (Ad (H+1+1) 6) _)).trans (vH _ (Ad (H+1+1) 7) _)).trans (vH _ (Ad (H+1+1) 8) _)).trans (vH _ (Ad (H+1+1) 9) _)
theorem ao4(w:jo)(H:Nat)(hr:wR w H)(st:Int)(a:Option Addr)(n c:Nat)(x0 x1 x2 x3 x4 x5 x6 x7:Int)(t:Array jr)(ht:t.getD 8 undef=Pt (H+1+1) 0):
 (results Tryz.f16 t).run prog (EF w H st (.slice a n c) x0 x1 x2 x3 x4 x5 x6 x7)=.ok (tZ st (.slice a n c) [x0,x1,x2,x3,x4,x5,x6,x7]) (EF w H st (.slice a n c) x0 x1 x2 x3 x4 x5 x6 x7):=by
 obtain⟨c0,c1,c2,cf⟩:=hr;have d0:=c2 0 (by omega);have d1:=c2 1 (by omega);have d2:=c2 2 (by omega);have d3:=c2 3 (by omega);have d4:=c2 4 (by omega);have d5:=c2 5 (by omega);have d6:=c2 6 (by omega);have d7:=c2 7 (by omega);simp only[Nat.reduceAdd]at d0 d1 d2 d3 d4 d5 d6 d7;have ht':t[8]?.getD undef=Pt (H+1+1) 0:=by simpa using ht
 unfold EF tZ;simp[results,Tryz.results16,go_sem,ht',c0,c1,d0,d1,d2,d3,d4,d5,d6,d7]
def boxes(w:jo)(ar af aa:Option Addr)(nr cr nf cf na ca:Nat)(x0 x1 x2 x3 x4 x5 x6 x7:Int):jo:=
 ((w.alloc (Obj.cells #[.slice ar nr cr,.slice af nf cf,.slice aa na ca] 25)).alloc
   (Obj.cells #[Im x0,Im x1,Im x2,Im x3,Im x4,Im x5,Im x6,Im x7] 26)).alloc
   (Obj.cells #[.int .u8 0,Nl,Im 0,Im 0,Im 0,Im 0,Im 0,Im 0,Im 0,Im 0] 35)
section
variable (w:jo)(ar af aa:Option Addr)(nr cr nf cf na ca:Nat)(x0 x1 x2 x3 x4 x5 x6 x7:Int)
theorem aiA:(boxes w ar af aa nr cr nf cf na ca x0 x1 x2 x3 x4 x5 x6 x7).heap.size=w.heap.size+1+1+1:=by simp[boxes]
theorem aiB(k:Nat):(boxes w ar af aa nr cr nf cf na ca x0 x1 x2 x3 x4 x5 x6 x7).cell? (Ad w.heap.size k)=#[Value.slice ar nr cr,.slice af nf cf,.slice aa na ca][k]? :=by
 unfold boxes;rw[gB _ _ _ (by simp;omega),gB _ _ _ (by simp)];exact fQ _ _ _ _ rfl
theorem aiy:I5 (boxes w ar af aa nr cr nf cf na ca x0 x1 x2 x3 x4 x5 x6 x7) w.heap.size x0 x1 x2 x3 x4 x5 x6 x7:=by
 intro j hj;unfold boxes;rw[gB _ _ _ (by simp),fQ _ _ _ _ (by simp)];have:=aeI x0 x1 x2 x3 x4 x5 x6 x7 j hj;rw[<-this];simp[vV]
theorem aiz:wR (boxes w ar af aa nr cr nf cf na ca x0 x1 x2 x3 x4 x5 x6 x7) w.heap.size:=by
 have h:∀k,(boxes w ar af aa nr cr nf cf na ca x0 x1 x2 x3 x4 x5 x6 x7).cell? (Ad (w.heap.size+1+1) k)=#[Value.int .u8 0,Nl,Im 0,Im 0,Im 0,Im 0,Im 0,Im 0,Im 0,Im 0][k]? :=λk=>fQ _ _ _ _ (by simp);refine⟨by rw[h];rfl,by rw[h];rfl,λj hj=>?_,λj=>World.frozen?_alloc_at _ _ _ _ (by simp)⟩;rw[h];have:j=0\/j=1\/j=2\/j=3\/j=4\/j=5\/j=6\/j=7:=by omega
 rcases this with rfl|rfl|rfl|rfl|rfl|rfl|rfl|rfl<;>rfl
theorem aix:w.grownBy (boxes w ar af aa nr cr nf cf na ca x0 x1 x2 x3 x4 x5 x6 x7) none:=by
 unfold boxes;exact((ah w _ none).trans (ah _ _ none)).trans (ah _ _ none)
end
theorem I5.keep{B:Nat}{w w':jo}{H:Nat}{x0 x1 x2 x3 x4 x5 x6 x7:Int}(h:I5 w H x0 x1 x2 x3 x4 x5 x6 x7)(hb:Below B w w')(hB:H+1<B):I5 w' H x0 x1 x2 x3 x4 x5 x6 x7:=λj hj=>by
 rw[hb.cell (p:=(Ad (H+1) j)) hB];exact h j hj
theorem wu.keep{B:Nat}{w w':jo}{ar af aa:Option Addr}{nr nf na:Nat}{v:Vw}(h:wu B w ar af aa nr nf na v)(hc:∀x:Addr,x.block<B->w'.cell? x=w.cell? x):wu B w' ar af aa nr nf na v:=by
 refine⟨λi r hr=>?_,λi r hr=>?_,λi r hr=>?_,h.MQ,h.MP,h.MO,h.Gl⟩
 .obtain⟨b,o,e,hb,hp⟩:=h.pO i r hr;exact⟨b,o,e,hb,hp.keep hb hc⟩
 .obtain⟨b,o,e,hb,hp⟩:=h.qB i r hr;exact⟨b,o,e,hb,hp.keep hb hc⟩
 .obtain⟨b,o,e,hb,hp⟩:=h.qy i r hr;exact⟨b,o,e,hb,hp.keep hb hc⟩
end
end
end Go.Proofs.YthllhabjfchgiaaGreatDoor
