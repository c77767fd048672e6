import Derived.Test.YthllhabjfchgiaaGreatDoorHk06
import Derived.Test.YthllhabjfchgiaaGreatDoorHk07
set_option maxRecDepth 100000
set_option maxHeartbeats 8000000
set_option linter.unusedSimpArgs false
namespace Go.Proofs.YthllhabjfchgiaaGreatDoor
open _root_.Go.Proofs.Tryz
section
open Go.RowKit
open Hx (Rd Pk Vw St Mc jJ)
section
def QN:Code->Option Code
 | .scope c=>some c
 | .seq a b=>match QN a with
   |some c=>some c
   |none=>QN b
 | .block _ c=>QN c
 |_=>none
def atM:Code->Code
 | .seq .skip c=>c
 |c=>c
def y8(f:Func)(l:Nat):Code:=atM (((f.body.bind QN).bind (findLabel · l)).getD .skip)
set_option maxRecDepth 1000000 in
def nH(cb co H M:Nat)(vv rv:jm)(fuel k:Int)(a:Act):Prop:=
 ∃u4 u7 u11 u13 u14 u15 u16 X4 X5 X6 u20 u21 u22 u23 u24 u25 u26 u27 u28 u29 u30 u31 u32 u33 u34 u35 u36 u37 u38 X7 u40 X8 u42 X9 u44 u45 u46 Ya u48 u49 Yb u51 Yc u53 Yd u55 Ye Yf u58 u59 u60 u61 Yg u63 u64 Yh u66 Yi u68 u69 u70 Yj u72 u73 Yk u75 Yl Ym Yn Yo Yp Yq Yr Yt Yu Yv Yw Yx Yy Yz YA YB YC u93 YD YE YF YG YH YI Xh Xi Xj Xk Xl u105 Xm Xn Xo Xp Xq Xr Xu Xv Xw Xx Xy Xz XA u119 XB XC XD XE u124 XF XG u127 XH XI XJ u131 XK XL XM XO XP XQ u138 u139 XR XT XU XV XW XY XZ X0 X3:jm,a=⟨#[Pt cb co,vv,rv,Im fuel,u4,Pt H 0,Pt (H+1) 0,u7,Pt (H+1+1) 0,Pt M 0,Im k,u11,.int .u8 0,u13,u14,u15,u16,X4,X5,X6,u20,u21,u22,u23,u24,u25,u26,u27,u28,u29,u30,u31,u32,u33,u34,u35,u36,u37,u38,X7,u40,X8,u42,X9,u44,u45,u46,Ya,u48,u49,Yb,u51,Yc,u53,Yd,u55,Ye,Yf,u58,u59,u60,u61,Yg,u63,u64,Yh,u66,Yi,u68,u69,u70,Yj,u72,u73,Yk,u75,Yl,Ym,Yn,Yo,Yp,Yq,Yr,Yt,Yu,Yv,Yw,Yx,Yy,Yz,YA,YB,YC,u93,YD,YE,YF,YG,YH,YI,Xh,Xi,Xj,Xk,Xl,u105,Xm,Xn,Xo,Xp,Xq,Xr,Xu,Xv,Xw,Xx,Xy,Xz,XA,u119,XB,XC,XD,XE,u124,XF,XG,u127,XH,XI,XJ,u131,XK,XL,XM,XO,XP,XQ,u138,u139,XR,XT,XU,XV,XW,XY,XZ,X0,X3],[]⟩
set_option maxRecDepth 1000000 in
def DN(cb co H M:Nat)(vv rv:jm)(st:Int)(a:Act):Prop:=
 ∃u3 u4 u7 u10 u11 u13 u14 u15 u16 X4 X5 X6 u20 u21 u22 u23 u24 u25 u26 u27 u28 u29 u30 u31 u32 u33 u34 u35 u36 u37 u38 X7 u40 X8 u42 X9 u44 u45 u46 Ya u48 u49 Yb u51 Yc u53 Yd u55 Ye Yf u58 u59 u60 u61 Yg u63 u64 Yh u66 Yi u68 u69 u70 Yj u72 u73 Yk u75 Yl Ym Yn Yo Yp Yq Yr Yt Yu Yv Yw Yx Yy Yz YA YB YC u93 YD YE YF YG YH YI Xh Xi Xj Xk Xl u105 Xm Xn Xo Xp Xq Xr Xu Xv Xw Xx Xy Xz XA u119 XB XC XD XE u124 XF XG u127 XH XI XJ u131 XK XL XM XO XP XQ u138 u139 XR XT XU XV XW XY XZ X0 X3:jm,a=⟨#[Pt cb co,vv,rv,u3,u4,Pt H 0,Pt (H+1) 0,u7,Pt (H+1+1) 0,Pt M 0,u10,u11,.int .u8 st,u13,u14,u15,u16,X4,X5,X6,u20,u21,u22,u23,u24,u25,u26,u27,u28,u29,u30,u31,u32,u33,u34,u35,u36,u37,u38,X7,u40,X8,u42,X9,u44,u45,u46,Ya,u48,u49,Yb,u51,Yc,u53,Yd,u55,Ye,Yf,u58,u59,u60,u61,Yg,u63,u64,Yh,u66,Yi,u68,u69,u70,Yj,u72,u73,Yk,u75,Yl,Ym,Yn,Yo,Yp,Yq,Yr,Yt,Yu,Yv,Yw,Yx,Yy,Yz,YA,YB,YC,u93,YD,YE,YF,YG,YH,YI,Xh,Xi,Xj,Xk,Xl,u105,Xm,Xn,Xo,Xp,Xq,Xr,Xu,Xv,Xw,Xx,Xy,Xz,XA,u119,XB,XC,XD,XE,u124,XF,XG,u127,XH,XI,XJ,u131,XK,XL,XM,XO,XP,XQ,u138,u139,XR,XT,XU,XV,XW,XY,XZ,X0,X3],[]⟩
structure uw(B:Nat)(w:jk)(cb co sb so cap:Nat)(jB:List St):Prop where
 GR:cb<B
 F9:sb<B
 slice:w.cell? (Ad cb co)=some (.slice (some (Ad sb so)) jB.length cap)
 step:∀(i:Nat)(s:St),jB[i]? =some s->zG w sb (so+i * 7) s
theorem uw.keep{B:Nat}{w w':jk}{cb co sb so cap:Nat}{jB:List St}(h:uw B w cb co sb so cap jB)(hb:Below B w w'):uw B w' cb co sb so cap jB:=by
 refine⟨h.GR,h.F9,by rw[hb.cell (p:=(Ad cb co)) h.GR];exact h.slice,λi s hs=>?_⟩;obtain⟨h0,h1,h2,h3,h4,h5,h6⟩:=h.step i s hs;have hc:∀o,w'.cell? (Ad sb o)=w.cell? (Ad sb o):=λo=>hb.cell (p:=(Ad sb o)) h.F9;exact⟨by rw[hc];exact h0,by rw[hc];exact h1,by rw[hc];exact h2,by rw[hc];exact h3,by rw[hc];exact h4,by rw[hc];exact h5,by rw[hc];exact h6⟩
variable {B C:Nat}{w:jk}{M SB:Nat}{v:Vw}{m:Mc}{cb co sb so cap:Nat}{jB:List St}
set_option maxRecDepth 1000000 in
theorem ar6(H:Nat)(vv rv:jm)(fuel:Int)(k:Nat){a0:Act}(h0:nH cb co H M vv rv fuel k a0)(Q:Exit->Act->jk->Prop)(hf:fuel<=0)
 (hgo:∀a',DN cb co H M vv rv 2 a'->Q (.goto 0) a' w):
 Code.wp prog (y8 Tryz.f16 1) Q a0 w:=by
 unfold nH at h0
 iterate 139 obtain⟨_,h0⟩:=h0
 subst h0;have hd:decide (fuel<=0)=true:=by simpa using hf
 conv=>arg 2;whnf
 go_wp2;go_step3;refine hgo _ ?_;unfold DN
 (repeat apply Exists.intro)
 rfl
set_option maxRecDepth 1000000 in
theorem arW(H:Nat)(vv rv:jm)(fuel:Int)(k:Nat){a0:Act}(h0:nH cb co H M vv rv fuel k a0)(Q:Exit->Act->jk->Prop)(hf:0<fuel)(hfm:fuel<=9223372036854775807)(hk:k<jB.length)(hlen:jB.length<=1000000)
 (hc:uw B w cb co sb so cap jB)(a b c d dp t:Int)(hst:jB[k]? =some ⟨3,a,b,c,d,dp,t⟩)
 (hgo:∀a' w',nH cb co H M vv rv (fuel-1) t a'->w'=w->Q (.goto 1) a' w'):
 Code.wp prog (y8 Tryz.f16 1) Q a0 w:=by
 unfold nH at h0
 iterate 139 obtain⟨_,h0⟩:=h0
 subst h0;have hd:decide (fuel<=0)=false:=by simp;omega
 have i0:(0:Int)<=(k:Int):=by omega
 have j0:(k:Int)<(jB.length:Int):=by omega
 have k1:(k:Int)<=1000000:=by omega
 have hsl:=hc.slice;obtain⟨s0,s1,s2,s3,s4,s5,s6⟩:=hc.step k _ hst;simp only at s0 s1 s2 s3 s4 s5 s6;generalize hN:jB.length=N at *;have HN:Hid (jB.length=N):=hN;clear hN
 conv=>arg 2;whnf
 go_wp2;go_step3;refine hgo _ _ ?_ ?_
 .unfold nH
  (repeat apply Exists.intro)
  rfl
 .rfl
set_option maxRecDepth 1000000 in
theorem arY(H:Nat)(vv rv:jm)(fuel:Int)(k:Nat){a0:Act}(h0:nH cb co H M vv rv fuel k a0)(Q:Exit->Act->jk->Prop)(hf:0<fuel)(hfm:fuel<=9223372036854775807)(hk:k<jB.length)(hlen:jB.length<=1000000)
 (hm:kQ B C w M SB v m)(hc:uw B w cb co sb so cap jB)(a:Nat)(b c d dp t:Int)(hst:jB[k]? =some ⟨2,a,b,c,d,dp,t⟩)(ha:a<m.jD.length)
 (hgo:∀a' w',nH cb co H M vv rv (fuel-1) (if m.jD.getD a 0=0 then t else k+1) a'->(∃n,w'=w.drewN n)->Q (.goto 1) a' w'):
 Code.wp prog (y8 Tryz.f16 1) Q a0 w:=by
 unfold nH at h0
 iterate 139 obtain⟨_,h0⟩:=h0
 subst h0;have hd:decide (fuel<=0)=false:=by simp;omega
 have i0:(0:Int)<=(k:Int):=by omega
 have j0:(k:Int)<(jB.length:Int):=by omega
 have k1:(k:Int)<=1000000:=by omega
 have hsl:=hc.slice;obtain⟨s0,s1,s2,s3,s4,s5,s6⟩:=hc.step k _ hst;simp only at s0 s1 s2 s3 s4 s5 s6;generalize hN:jB.length=N at *;have HN:Hid (jB.length=N):=hN;clear hN;have hs:=hm.jD;have ca:=hm.slot a ha;clear hm;generalize m.jD.getD a 0=xa at *;generalize m.jD.length=len at *;have i1:(0:Int)<=(a:Int):=by omega
 have j1:(a:Int)<(len:Int):=by omega
 obtain⟨z,hz⟩:∃z,(xa==0)=z:=⟨_,rfl⟩
 conv=>arg 2;whnf
 cases z with
 |true=>
  have hx:xa=0:=by simpa using hz
  rw[jh hx]at hgo;clear hx;go_wp2_with fail;go_quiet (fail);go_wp2;go_step3;refine hgo _ _ ?_ ?_
  .unfold nH
   (repeat apply Exists.intro)
   rfl
  .exact⟨_,rfl⟩
 |false=>
  have hx:¬xa=0:=by simpa using hz
  rw[jg hx]at hgo;clear hx;go_wp2_with fail;go_quiet (fail);go_wp2;go_step3;refine hgo _ _ ?_ ?_
  .unfold nH
   (repeat apply Exists.intro)
   rfl
  .exact⟨_,rfl⟩
set_option maxRecDepth 1000000 in
theorem arZ(H:Nat)(vv rv:jm)(fuel:Int)(k:Nat){a0:Act}(h0:nH cb co H M vv rv fuel k a0)(Q:Exit->Act->jk->Prop)(hf:0<fuel)(hfm:fuel<=9223372036854775807)(hk:k<jB.length)(hlen:jB.length<=1000000)
 (hm:kQ B C w M SB v m)(hc:uw B w cb co sb so cap jB)(l:Int)(b c:Nat)(d:Int)(dp:Nat)(t:Int)(hst:jB[k]? =some ⟨4,l,b,c,d,dp,t⟩)(hb:b<m.jD.length)(hcs:c<m.jD.length)(hdp:dp<8)
 (hgo:∀a' w',nH cb co H M vv rv (fuel-1) (Hx.kS ⟨4,l,b,c,d,dp,t⟩ k (Hx.rP v ⟨4,l,b,c,d,dp,t⟩ m)).2 a'->kQ B C w' M SB v (Hx.kS ⟨4,l,b,c,d,dp,t⟩ k (Hx.rP v ⟨4,l,b,c,d,dp,t⟩ m)).1->Below B w w'->Q (.goto 1) a' w'):
 Code.wp prog (y8 Tryz.f16 1) Q a0 w:=by
 unfold nH at h0
 iterate 139 obtain⟨_,h0⟩:=h0
 subst h0;have hd:decide (fuel<=0)=false:=by simp;omega
 have i0:(0:Int)<=(k:Int):=by omega
 have j0:(k:Int)<(jB.length:Int):=by omega
 have k1:(k:Int)<=1000000:=by omega
 have Ph:=ai9 hm sb (so+k * 7) 4 l b c d dp t (hc.step k _ hst) hcs hdp;have HB:Hid (Calls prog 52 #[Pt M 0,Pt sb (so+k * 7)] w λe w'=>e=.returned (.tuple #[])/\kQ B C w' M SB v (Hx.rP v ⟨4,l,b,c,d,dp,t⟩ m)/\Below B w w'):=Ph;clear Ph;have HT:Hid (∀w',kQ B C w' M SB v (Hx.rP v ⟨4,l,b,c,d,dp,t⟩ m)->Below B w w'->w'.cell? (Ad cb co)=some (.slice (some (Ad sb so)) jB.length cap)/\
  Calls prog 53 #[Pt M 0,.slice (some (Ad sb so)) jB.length cap,Im k] w' λe w''=>e=.returned (Im (Hx.kS ⟨4,l,b,c,d,dp,t⟩ k (Hx.rP v ⟨4,l,b,c,d,dp,t⟩ m)).2)/\kQ B C w'' M SB v (Hx.kS ⟨4,l,b,c,d,dp,t⟩ k (Hx.rP v ⟨4,l,b,c,d,dp,t⟩ m)).1/\Below B w' w''):=λw' h1 h2=>by
  have hc':=hc.keep h2;exact⟨hc'.slice,Xd h1 sb so jB.length cap k _ hc.F9 hk hlen (hc'.step k _ hst) ⟨by show(0:Int)<=(b:Int);omega,by show(b:Int)<_;simp[Hx.rP,Hx.Mc.lX];omega⟩ ⟨by show(0:Int)<=(dp:Int);omega,by show(dp:Int)<8;omega⟩⟩
 have hsl:=hc.slice;obtain⟨s0,s1,s2,s3,s4,s5,s6⟩:=hc.step k _ hst;simp only at s0 s1 s2 s3 s4 s5 s6;generalize hN:jB.length=N at *;have HN:Hid (jB.length=N):=hN;clear hN;clear hm hc
 conv=>arg 2;whnf
 generalize (Hx.kS ⟨4,l,b,c,d,dp,t⟩ k (Hx.rP v ⟨4,l,b,c,d,dp,t⟩ m)).2=nx at *;generalize (Hx.kS ⟨4,l,b,c,d,dp,t⟩ k (Hx.rP v ⟨4,l,b,c,d,dp,t⟩ m)).1=m2 at *;generalize Hx.rP v ⟨4,l,b,c,d,dp,t⟩ m=m1 at *;go_wp2_with fail;refine(HB.out).mono ?_;rintro e w1 ⟨rfl,hm1,hb1⟩;obtain⟨hcl,ht⟩:=HT.out w1 hm1 hb1;have HT2:Hid (Calls prog 53 #[Pt M 0,.slice (some (Ad sb so)) N cap,Im k] w1 λe w''=>e=.returned (Im nx)/\kQ B C w'' M SB v m2/\Below B w1 w''):=ht;clear ht;go_wp2_with fail;refine(HT2.out).mono ?_;rintro e w2 ⟨rfl,hm2,hb2⟩;go_wp2;go_step3;refine hgo _ _ ?_ hm2 (hb1.trans hb2);unfold nH
 (repeat apply Exists.intro)
 rfl
set_option maxRecDepth 1000000 in
theorem arX(H:Nat)(vv rv:jm)(fuel:Int)(k:Nat){a0:Act}(h0:nH cb co H M vv rv fuel k a0)(Q:Exit->Act->jk->Prop)(hf:0<fuel)(hfm:fuel<=9223372036854775807)(hk:k<jB.length)(hlen:jB.length<=1000000)
 (hm:kQ B C w M SB v m)(hc:uw B w cb co sb so cap jB)(a:Int)(b c d dp:Int)(t:Nat)(hst:jB[k]? =some ⟨0,a,b,c,d,dp,t⟩)(lp:St)(hlp:jB[t]? =some lp)(hlb:St.slot m.jD.length lp.b)(hld:0<=lp.depth/\lp.depth<8)
 (hgo:∀a' w',nH cb co H M vv rv (fuel-1) (Hx.kS lp t m).2 a'->kQ B C w' M SB v (Hx.kS lp t m).1->Below B w w'->Q (.goto 1) a' w'):
 Code.wp prog (y8 Tryz.f16 1) Q a0 w:=by
 unfold nH at h0
 iterate 139 obtain⟨_,h0⟩:=h0
 subst h0;have hd:decide (fuel<=0)=false:=by simp;omega
 have i0:(0:Int)<=(k:Int):=by omega
 have j0:(k:Int)<(jB.length:Int):=by omega
 have k1:(k:Int)<=1000000:=by omega
 have htl:t<jB.length:=by
  rcases dG t jB.length with h|h
  .exact h
  .rw[bV h]at hlp;cases hlp
 have HT:Hid (∀n,Calls prog 53 #[Pt M 0,.slice (some (Ad sb so)) jB.length cap,Im t] (w.drewN n) λe w'=>e=.returned (Im (Hx.kS lp t m).2)/\kQ B C w' M SB v (Hx.kS lp t m).1/\Below B (w.drewN n) w'):=λn=>by
  have hc':=hc.keep (below_drewN (dK B w) n);exact Xd (hm.drewN n) sb so jB.length cap t lp hc.F9 htl hlen (hc'.step t lp hlp) hlb hld
 have hsl:=hc.slice;obtain⟨s0,s1,s2,s3,s4,s5,s6⟩:=hc.step k _ hst;simp only at s0 s1 s2 s3 s4 s5 s6;generalize hN:jB.length=N at *;have HN:Hid (jB.length=N):=hN;clear hN;clear hm hc hlb hld hlp htl
 conv=>arg 2;whnf
 generalize (Hx.kS lp t m).2=nx at *;generalize (Hx.kS lp t m).1=m2 at *;go_wp2_with fail;refine nP 9 (by kernel_rfl) (by kernel_rfl) ?_;simp only[aC,aO,aG,aQ];repeat (go_big_quiet_step (fail))
 refine bF ?_;intro _ hw';obtain⟨n3,hw''⟩:=hw';subst hw'';go_wp2_with fail;refine(HT.out n3).mono ?_;rintro e w2 ⟨rfl,hm2,hb2⟩;go_wp2;go_step3;refine hgo _ _ ?_ hm2 ((below_drewN (dK B w) n3).trans hb2);unfold nH
 (repeat apply Exists.intro)
 rfl
set_option maxRecDepth 1000000 in
theorem ar5(H:Nat)(vv rv:jm)(fuel:Int)(k:Nat){a0:Act}(h0:nH cb co H M vv rv fuel k a0)(Q:Exit->Act->jk->Prop)(hf:0<fuel)(hfm:fuel<=9223372036854775807)(hk:k<jB.length)(hlen:jB.length<=1000000)
 (hm:kQ B C w M SB v m)(hc:uw B w cb co sb so cap jB)(a:Nat)(b c d dp:Int)(t:Nat)(hst:jB[k]? =some ⟨5,a,b,c,d,dp,t⟩)(ha:a<m.jD.length)(hz:m.jD.getD a 0=0)(lp:St)(hlp:jB[t]? =some lp)(hlb:St.slot m.jD.length lp.b)(hld:0<=lp.depth/\lp.depth<8)
 (hgo:∀a' w',nH cb co H M vv rv (fuel-1) (Hx.kS lp t m).2 a'->kQ B C w' M SB v (Hx.kS lp t m).1->Below B w w'->Q (.goto 1) a' w'):
 Code.wp prog (y8 Tryz.f16 1) Q a0 w:=by
 unfold nH at h0
 iterate 139 obtain⟨_,h0⟩:=h0
 subst h0;have hd:decide (fuel<=0)=false:=by simp;omega
 have i0:(0:Int)<=(k:Int):=by omega
 have j0:(k:Int)<(jB.length:Int):=by omega
 have k1:(k:Int)<=1000000:=by omega
 have htl:t<jB.length:=by
  rcases dG t jB.length with h|h
  .exact h
  .rw[bV h]at hlp;cases hlp
 have HT:Hid (∀n,Calls prog 53 #[Pt M 0,.slice (some (Ad sb so)) jB.length cap,Im t] (w.drewN n) λe w'=>e=.returned (Im (Hx.kS lp t m).2)/\kQ B C w' M SB v (Hx.kS lp t m).1/\Below B (w.drewN n) w'):=λn=>by
  have hc':=hc.keep (below_drewN (dK B w) n);exact Xd (hm.drewN n) sb so jB.length cap t lp hc.F9 htl hlen (hc'.step t lp hlp) hlb hld
 have hsl:=hc.slice;obtain⟨s0,s1,s2,s3,s4,s5,s6⟩:=hc.step k _ hst;simp only at s0 s1 s2 s3 s4 s5 s6;generalize hN:jB.length=N at *;have HN:Hid (jB.length=N):=hN;clear hN;have hs:=hm.jD;have ca:=hm.slot a ha;rw[hz]at ca;clear hm hc hlb hld hlp htl;clear hz;generalize m.jD.length=len at *;have i1:(0:Int)<=(a:Int):=by omega
 have j1:(a:Int)<(len:Int):=by omega
 conv=>arg 2;whnf
 generalize (Hx.kS lp t m).2=nx at *;generalize (Hx.kS lp t m).1=m2 at *;go_wp2_with fail;go_quiet (fail);go_wp2_with fail;refine CO 9 (by kernel_rfl) (by kernel_rfl) ?_;simp only[aC,aO,aG,aQ];repeat (go_big_quiet_step (fail))
 refine bF ?_;intro _ hw';obtain⟨n3,hw''⟩:=hw';subst hw'';go_wp2_with fail;refine(HT.out n3).mono ?_;rintro e w2 ⟨rfl,hm2,hb2⟩;go_wp2;go_step3;refine hgo _ _ ?_ hm2 ((below_drewN (dK B w) n3).trans hb2);unfold nH
 (repeat apply Exists.intro)
 rfl
set_option maxRecDepth 1000000 in
theorem ar7(H:Nat)(vv rv:jm)(fuel:Int)(k:Nat){a0:Act}(h0:nH cb co H M vv rv fuel k a0)(Q:Exit->Act->jk->Prop)(hf:0<fuel)(hfm:fuel<=9223372036854775807)(hk:k<jB.length)(hlen:jB.length<=1000000)
 (hm:kQ B C w M SB v m)(hc:uw B w cb co sb so cap jB)(a:Nat)(b c d dp t:Int)(hst:jB[k]? =some ⟨5,a,b,c,d,dp,t⟩)(ha:a<m.jD.length)(hz:¬m.jD.getD a 0=0)
 (hgo:∀a' w',nH cb co H M vv rv (fuel-1) (k+1) a'->(∃n,w'=w.drewN n)->Q (.goto 1) a' w'):
 Code.wp prog (y8 Tryz.f16 1) Q a0 w:=by
 unfold nH at h0
 iterate 139 obtain⟨_,h0⟩:=h0
 subst h0;have hd:decide (fuel<=0)=false:=by simp;omega
 have i0:(0:Int)<=(k:Int):=by omega
 have j0:(k:Int)<(jB.length:Int):=by omega
 have k1:(k:Int)<=1000000:=by omega
 have hsl:=hc.slice;obtain⟨s0,s1,s2,s3,s4,s5,s6⟩:=hc.step k _ hst;simp only at s0 s1 s2 s3 s4 s5 s6;generalize hN:jB.length=N at *;have HN:Hid (jB.length=N):=hN;clear hN;have hs:=hm.jD;have ca:=hm.slot a ha;clear hm;generalize m.jD.getD a 0=xa at *;generalize m.jD.length=len at *;have i1:(0:Int)<=(a:Int):=by omega
 have j1:(a:Int)<(len:Int):=by omega
 have hz':(xa==0)=false:=by simpa using hz
 clear hz
 conv=>arg 2;whnf
 go_wp2_with fail;go_quiet (fail);go_wp2;go_step3;refine hgo _ _ ?_ ?_
 .unfold nH
  (repeat apply Exists.intro)
  rfl
 .exact⟨_,rfl⟩
set_option maxRecDepth 1000000 in
theorem ar2(H:Nat)(vv rv:jm)(fuel:Int)(k:Nat){a0:Act}(h0:nH cb co H M vv rv fuel k a0)(Q:Exit->Act->jk->Prop)(hf:0<fuel)(hfm:fuel<=9223372036854775807)(hk:k<jB.length)(hlen:jB.length<=1000000)
 (hm:kQ B C w M SB v m)(hc:uw B w cb co sb so cap jB)(a b:Nat)(c d dp t:Int)(hst:jB[k]? =some ⟨36,a,b,c,d,dp,t⟩)(ha:a<m.jD.length)(hb:b<m.jD.length)(h256:m.jO.length<=256)(m2:Mc)(hpu:Hx.push v (m.jD.getD a 0) (m.jD.getD b 0) m=some m2)
 (hgo:∀a' w',nH cb co H M vv rv (fuel-1) (k+1) a'->kQ B C w' M SB v m2->Below B w w'->Q (.goto 1) a' w'):
 Code.wp prog (y8 Tryz.f16 1) Q a0 w:=by
 unfold nH at h0
 iterate 139 obtain⟨_,h0⟩:=h0
 subst h0;have hd:decide (fuel<=0)=false:=by simp;omega
 have i0:(0:Int)<=(k:Int):=by omega
 have j0:(k:Int)<(jB.length:Int):=by omega
 have k1:(k:Int)<=1000000:=by omega
 have HT:Hid (∀n,Calls prog 54 #[Pt M 0,Im (m.jD.getD a 0),Im (m.jD.getD b 0)] (w.drewN n) λe w'=>e=.returned (.bool true)/\(∀m',Hx.push v (m.jD.getD a 0) (m.jD.getD b 0) m=some m'->kQ B C w' M SB v m')/\Below B (w.drewN n) w'):=λn=>by
  have:=aeQ (hm.drewN n) (m.jD.getD a 0) (m.jD.getD b 0) (hm.Du b).2 h256;rw[hpu]at this⊢;exact this
 have hsl:=hc.slice;obtain⟨s0,s1,s2,s3,s4,s5,s6⟩:=hc.step k _ hst;simp only at s0 s1 s2 s3 s4 s5 s6;generalize hN:jB.length=N at *;have HN:Hid (jB.length=N):=hN;clear hN;have hs:=hm.jD;have ca:=hm.slot a ha;have cb':=hm.slot b hb;clear hm hc;have RU:=hpu;generalize m.jD.getD a 0=xa at *;generalize m.jD.getD b 0=xb at *;have HP:Hid (Hx.push v xa xb m=some m2):=hpu;clear hpu RU;generalize m.jD.length=len at *;have i1:(0:Int)<=(a:Int):=by omega
 have j1:(a:Int)<(len:Int):=by omega
 have i2:(0:Int)<=(b:Int):=by omega
 have j2:(b:Int)<(len:Int):=by omega
 conv=>arg 2;whnf
 go_wp2_with fail;refine nP 23 (by kernel_rfl) (by kernel_rfl) ?_;simp only[aC,aO,aG,aQ];repeat (go_big_quiet_step (fail))
 refine bF ?_;intro _ hw';obtain⟨n3,hw''⟩:=hw';subst hw'';go_wp2_with fail;refine(HT.out n3).mono ?_;rintro e w2 ⟨rfl,hm2,hb2⟩;go_wp2;go_step3;refine hgo _ _ ?_ (hm2 _ HP.out) ((below_drewN (dK B w) n3).trans hb2);unfold nH
 (repeat apply Exists.intro)
 rfl
set_option maxRecDepth 1000000 in
theorem ar1(H:Nat)(vv rv:jm)(fuel:Int)(k:Nat){a0:Act}(h0:nH cb co H M vv rv fuel k a0)(Q:Exit->Act->jk->Prop)(hf:0<fuel)(hfm:fuel<=9223372036854775807)(hk:k<jB.length)(hlen:jB.length<=1000000)
 (hm:kQ B C w M SB v m)(hc:uw B w cb co sb so cap jB)(a b:Nat)(c d dp t:Int)(hst:jB[k]? =some ⟨36,a,b,c,d,dp,t⟩)(ha:a<m.jD.length)(hb:b<m.jD.length)(h256:m.jO.length<=256)(hpu:Hx.push v (m.jD.getD a 0) (m.jD.getD b 0) m=none)
 (hgo:∀a' w',DN cb co H M vv rv 1 a'->Below B w w'->Q (.goto 0) a' w'):
 Code.wp prog (y8 Tryz.f16 1) Q a0 w:=by
 unfold nH at h0
 iterate 139 obtain⟨_,h0⟩:=h0
 subst h0;have hd:decide (fuel<=0)=false:=by simp;omega
 have i0:(0:Int)<=(k:Int):=by omega
 have j0:(k:Int)<(jB.length:Int):=by omega
 have k1:(k:Int)<=1000000:=by omega
 have HT:Hid (∀n,Calls prog 54 #[Pt M 0,Im (m.jD.getD a 0),Im (m.jD.getD b 0)] (w.drewN n) λe w'=>e=.returned (.bool false)/\(∀m',Hx.push v (m.jD.getD a 0) (m.jD.getD b 0) m=some m'->kQ B C w' M SB v m')/\Below B (w.drewN n) w'):=λn=>by
  have:=aeQ (hm.drewN n) (m.jD.getD a 0) (m.jD.getD b 0) (hm.Du b).2 h256;rw[hpu]at this⊢;exact this
 have hsl:=hc.slice;obtain⟨s0,s1,s2,s3,s4,s5,s6⟩:=hc.step k _ hst;simp only at s0 s1 s2 s3 s4 s5 s6;generalize hN:jB.length=N at *;have HN:Hid (jB.length=N):=hN;clear hN;have hs:=hm.jD;have ca:=hm.slot a ha;have cb':=hm.slot b hb;clear hm hc;have RU:=hpu;generalize m.jD.getD a 0=xa at *;generalize m.jD.getD b 0=xb at *;have HP:Hid (Hx.push v xa xb m=none):=hpu;clear hpu RU;generalize m.jD.length=len at *;have i1:(0:Int)<=(a:Int):=by omega
 have j1:(a:Int)<(len:Int):=by omega
 have i2:(0:Int)<=(b:Int):=by omega
 have j2:(b:Int)<(len:Int):=by omega
 conv=>arg 2;whnf
 go_wp2_with fail;refine nP 23 (by kernel_rfl) (by kernel_rfl) ?_;simp only[aC,aO,aG,aQ];repeat (go_big_quiet_step (fail))
 refine bF ?_;intro _ hw';obtain⟨n3,hw''⟩:=hw';subst hw'';go_wp2_with fail;refine(HT.out n3).mono ?_;rintro e w2 ⟨rfl,hm2,hb2⟩;go_wp2;go_step3;refine hgo _ _ ?_ ((below_drewN (dK B w) n3).trans hb2);unfold DN
 (repeat apply Exists.intro)
 rfl
set_option maxRecDepth 1000000 in
theorem ar8(H:Nat)(vv rv:jm)(fuel:Int)(k:Nat){a0:Act}(h0:nH cb co H M vv rv fuel k a0)(Q:Exit->Act->jk->Prop)(hf:0<fuel)(hfm:fuel<=9223372036854775807)(hk:k<jB.length)(hlen:jB.length<=1000000)
 (hm:kQ B C w M SB v m)(hc:uw B w cb co sb so cap jB)(s:St)(hst:jB[k]? =some s)(hs:s.Rw m.jD.length)(q1:(s.op==1)=false)(q2:(s.op==2)=false)(q3:(s.op==3)=false)(q4:(s.op==4)=false)(q5:(s.op==5)=false)(q6:(s.op==0)=false)(q7:(s.op==36)=false)
 (hgo:∀a' w',nH cb co H M vv rv (fuel-1) (k+1) a'->kQ B C w' M SB v (Hx.work v s m)->Below B w w'->Q (.goto 1) a' w'):
 Code.wp prog (y8 Tryz.f16 1) Q a0 w:=by
 unfold nH at h0
 iterate 139 obtain⟨_,h0⟩:=h0
 subst h0;have hd:decide (fuel<=0)=false:=by simp;omega
 have i0:(0:Int)<=(k:Int):=by omega
 have j0:(k:Int)<(jB.length:Int):=by omega
 have k1:(k:Int)<=1000000:=by omega
 have hw:=auc hm sb (so+k * 7) s hc.F9 (hc.step k _ hst) hs;have HW:Hid (Calls prog 55 #[Pt M 0,Pt sb (so+k * 7)] w λe w'=>e=.returned (.tuple #[])/\kQ B C w' M SB v (Hx.work v s m)/\Below B w w'):=hw;clear hw;have hsl:=hc.slice;obtain⟨s0,s1,s2,s3,s4,s5,s6⟩:=hc.step k _ hst;generalize hN:jB.length=N at *;have HN:Hid (jB.length=N):=hN;clear hN;clear hm hc
 conv=>arg 2;whnf
 go_wp2_with fail;refine(HW.out).mono ?_;rintro e w2 ⟨rfl,hm2,hb2⟩;go_wp2;go_step3;refine hgo _ _ ?_ hm2 hb2;unfold nH
 (repeat apply Exists.intro)
 rfl
def xk(w:jk)(H:Nat):Prop:=
 w.cell? (Ad (H+1+1) 0)=some (.int .u8 0)/\w.cell? (Ad (H+1+1) 1)=some (Nl)/\(∀j,j<8->w.cell? (Ad (H+1+1) (2+j))=some (Im 0))/\(∀j,w.frozen? (Ad (H+1+1) j)=false)
theorem xk.keep{B:Nat}{w w':jk}{H:Nat}(h:xk w H)(hb:Below B w w')(hB:H+1+1<B):xk w' H:=by
 obtain⟨h1,h2,h3,h4⟩:=h;have hc:∀o,w'.cell? (Ad (H+1+1) o)=w.cell? (Ad (H+1+1) o):=λo=>hb.cell (p:=(Ad (H+1+1) o)) hB;exact⟨by rw[hc];exact h1,by rw[hc];exact h2,λj hj=>by rw[hc];exact h3 j hj,λj=>by rw[hb.frozen (p:=(Ad (H+1+1) j)) hB];exact h4 j⟩
def EC(w:jk)(H:Nat)(st:Int)(va:jm)(x0 x1 x2 x3 x4 x5 x6 x7:Int):jk:=
 ((((((((((w.setCell (Ad (H+1+1) 0) (.int .u8 st)).setCell (Ad (H+1+1) 1) va).setCell (Ad (H+1+1) 2) (Im x0)).setCell (Ad (H+1+1) 3) (Im x1)).setCell (Ad (H+1+1) 4) (Im x2)).setCell (Ad (H+1+1) 5) (Im x3)).setCell (Ad (H+1+1) 6) (Im x4)).setCell (Ad (H+1+1) 7) (Im x5)).setCell (Ad (H+1+1) 8) (Im x6)).setCell (Ad (H+1+1) 9) (Im x7))
set_option maxRecDepth 1000000 in
theorem ar4(H:Nat)(vv rv:jm)(fuel:Int)(k:Nat){a0:Act}(h0:nH cb co H M vv rv fuel k a0)(Q:Exit->Act->jk->Prop)(hf:0<fuel)(hfm:fuel<=9223372036854775807)(hk:k<jB.length)(hlen:jB.length<=1000000)
 (hm:kQ B C w M SB v m)(hc:uw B w cb co sb so cap jB)(a b c d dp t:Int)(hst:jB[k]? =some ⟨1,a,b,c,d,dp,t⟩)(h8:8<=m.jD.length)(hH:H+1+1<B)(hres:xk w H)
 (hret:∀a' w1 va,w1.ownsRow C 76 2 va m.jO.length (sD m.jO)->(∃a n c,va=.slice a n c)->Below B w w1->xk w1 H->a'.tmps.getD 8 undef=Pt (H+1+1) 0->a'.defers=[]->Q .ret a' (EC w1 H 0 va (m.jD.getD 0 0) (m.jD.getD 1 0) (m.jD.getD 2 0) (m.jD.getD 3 0) (m.jD.getD 4 0) (m.jD.getD 5 0) (m.jD.getD 6 0) (m.jD.getD 7 0))):
 Code.wp prog (y8 Tryz.f16 1) Q a0 w:=by
 unfold nH at h0
 iterate 139 obtain⟨_,h0⟩:=h0
 subst h0;have hd:decide (fuel<=0)=false:=by simp;omega
 have i0:(0:Int)<=(k:Int):=by omega
 have j0:(k:Int)<(jB.length:Int):=by omega
 have k1:(k:Int)<=1000000:=by omega
 have HD:Hid (Calls prog 51 #[Pt M 0] w λe w'=>∃va,e=.returned (vk 0 va m.jD)/\w'.ownsRow C 76 2 va m.jO.length (sD m.jO)/\Below B w w'):=aj3 hm h8;have HR:Hid (xk w H):=hres;have hsl:=hc.slice;obtain⟨s0,s1,s2,s3,s4,s5,s6⟩:=hc.step k _ hst;simp only at s0 s1 s2 s3 s4 s5 s6;generalize hN:jB.length=N at *;have HN:Hid (jB.length=N):=hN;clear hN;clear hm hc hres
 conv=>arg 2;whnf
 go_wp2_with fail;refine(HD.out).mono ?_;rintro e w1 ⟨va,rfl,hown,hb1⟩;obtain⟨aa,cc,hval⟩:∃aa cc,va=.slice aa m.jO.length cc:=by
  obtain⟨h1,h2⟩:=hown;rcases h2 with⟨h3,h4⟩|⟨g,cap,cur,h3,h4⟩
  .exact⟨none,0,by rw[h3,h4]⟩
  .exact⟨_,_,h3⟩
 subst hval;have hr:=HR.out.keep hb1 hH;have HR1:Hid (xk w1 H):=hr;obtain⟨c0,c1,c2,cf⟩:=hr;have d0:=c2 0 (by omega);have d1:=c2 1 (by omega);have d2:=c2 2 (by omega);have d3:=c2 3 (by omega);have d4:=c2 4 (by omega);have d5:=c2 5 (by omega);have d6:=c2 6 (by omega);have d7:=c2 7 (by omega);simp only[Nat.reduceAdd]at d0 d1 d2 d3 d4 d5 d6 d7;have HO:Hid (w1.ownsRow C 76 2 (.slice aa m.jO.length cc) m.jO.length (sD m.jO)/\Below B w w1):=⟨hown,hb1⟩;clear hown hb1 c2;unfold vk;go_wp2;exact hret _ w1 _ HO.out.1 ⟨_,_,_,rfl⟩ HO.out.2 HR1.out rfl rfl
end
end
section
open Go.RowKit
open Hx (Rd Pk Vw St Mc jJ Out)
section
variable {B C:Nat}{w:jk}{M SB:Nat}{v:Vw}{m:Mc}{cb co sb so cap:Nat}{jB:List St}{H:Nat}{vv rv:jm}
theorem P7(m:Mc)(i x:Int):(m.put i x).jD.length=m.jD.length:=by simp[Hx.Mc.put]
theorem amJ(m:Mc)(i x:Int):(m.lX i x).jD.length=m.jD.length:=rfl
theorem amI(s:St)(b:Bool)(m:Mc):(Hx.choose s b m).jD.length=m.jD.length:=by
 unfold Hx.choose;split
 .rw[P7,P7]
 .rfl
theorem amK(v:Vw)(s:St)(m:Mc):(Hx.work v s m).jD.length=m.jD.length:=by
 unfold Hx.work;repeat' split
 all_goals first|exact P7 _ _ _|exact amI _ _ _
theorem ahX(s:St)(b:Bool)(m:Mc):(Hx.choose s b m).jO=m.jO:=by unfold Hx.choose;split<;>rfl
theorem ahZ(v:Vw)(s:St)(m:Mc):(Hx.work v s m).jO=m.jO:=by
 unfold Hx.work;repeat' split
 all_goals first|rfl|exact ahX _ _ _
theorem U1(s:St)(k:Int)(m:Mc):(Hx.kS s k m).1.jD.length=m.jD.length:=by
 unfold Hx.kS;split
 .rfl
 .rw[amJ,P7]
theorem SE(s:St)(k:Int)(m:Mc):(Hx.kS s k m).1.jO=m.jO:=by unfold Hx.kS;split<;>rfl
theorem Kq(s:St)(k:Int)(m:Mc):(Hx.kS s k m).2=s.jY\/(Hx.kS s k m).2=k+1:=by unfold Hx.kS;split<;>simp
theorem apU{v:Vw}{i j:Int}{m m2:Mc}(h:Hx.push v i j m=some m2)(ha:m.jO.length<=256):m2.jD.length=m.jD.length/\m2.jO.length<=256:=by
 unfold Hx.push at h;split at h
 .split at h
  .cases h
  .cases h;simp;omega
 .cases h;exact⟨rfl,ha⟩
structure mQ(B C:Nat)(w:jk)(M SB:Nat)(v:Vw)(cb co sb so cap:Nat)(jB:List St)(n:Nat)(H:Nat)(jF:List Int)(o:Out)(fuel k:Int)(m:Mc):Prop where
 avf:kQ B C w M SB v m
 code:uw B w cb co sb so cap jB
 res:xk w H
 len:m.jD.length=n
 jO:m.jO.length<=256
 k0:0<=k
 k1:k<jB.length
 auu:fuel<=9223372036854775807
 out:Hx.runs v jB jF fuel.toNat k m=o
theorem asa{v:Vw}{jB:List St}{jF:List Int}{fuel k:Int}{m:Mc}{s:St}(hf:0<fuel)(hs:jB[k.toNat]? =some s):
 Hx.runs v jB jF fuel.toNat k m=match Hx.step v jB jF k.toNat s m with
  | .inl o=>o
  | .inr (k',m')=>Hx.runs v jB jF (fuel-1).toNat k' m':=by
 obtain⟨f,hf'⟩:∃f,fuel.toNat=f+1:=⟨fuel.toNat-1,by omega⟩;have e:(fuel-1).toNat=f:=by omega
 rw[hf',e,Hx.runs,hs];cases hh:Hx.step v jB jF k.toNat s m<;>simp[hh]
set_option maxRecDepth 1000000 in
theorem afy{n:Nat}{jF:List Int}{o:Out}{fuel k:Int}(hfit:Hx.Fits jB n)(h8:8<=n)(hH:H+1+1<B)(a:Act)(ha:nH cb co H M vv rv fuel k a)(hg:mQ B C w M SB v cb co sb so cap jB n H jF o fuel k m)(Q:Exit->Act->jk->Prop)
 (hgo:∀a' w' fuel' k' m',nH cb co H M vv rv fuel' k' a'->mQ B C w' M SB v cb co sb so cap jB n H jF o fuel' k' m'->Below B w w'->0<fuel->fuel'=fuel-1->Q (.goto 1) a' w')
 (hwr:∀a' w' st,DN cb co H M vv rv st a'->o=⟨st,jF,[]⟩->xk w' H->Below B w w'->Q (.goto 0) a' w')
 (hret:∀a' w1 va,o=⟨0,m.jD,m.jO⟩->w1.ownsRow C 76 2 va m.jO.length (sD m.jO)->(∃a n c,va=.slice a n c)->Below B w w1->xk w1 H->a'.tmps.getD 8 undef=Pt (H+1+1) 0->a'.defers=[]->Q .ret a' (EC w1 H 0 va (m.jD.getD 0 0) (m.jD.getD 1 0) (m.jD.getD 2 0) (m.jD.getD 3 0) (m.jD.getD 4 0) (m.jD.getD 5 0) (m.jD.getD 6 0) (m.jD.getD 7 0))):
 Code.wp prog (y8 Tryz.f16 1) Q a w:=by
 obtain⟨hm,hc,hr,hn,hac,hk0,hk1,hfm,hout⟩:=hg;obtain⟨k,rfl⟩:=bI hk0;have hkn:k<jB.length:=by omega
 have hlen:=hfit.len;obtain⟨s,hst⟩:∃s,jB[k]? =some s:=⟨jB[k],by simp[hkn]⟩;have hfs:=hfit.each k s hst;by_cases hf:0<fuel
 .have hrun:=asa (v:=v) (jF:=jF) (m:=m) hf (show jB[((k:Nat):Int).toNat]? =some s from hst);rw[hout]at hrun;simp only[bK]at hrun;obtain⟨q,a,b,c,d,dp,t⟩:=s;have keep:∀w',Below B w w'->uw B w' cb co sb so cap jB/\xk w' H:=λw' hb=>⟨hc.keep hb,hr.keep hb hH⟩;by_cases q1:q=1
  .subst q1;refine ar4 H vv rv fuel k ha Q hf hfm hkn hlen hm hc a b c d dp t hst (by omega) hH hr ?_;intro a' w1 va h1 h2 h3 h4 h5 h6;exact hret a' w1 va (by simpa [Hx.step]using hrun) h1 h2 h3 h4 h5 h6
  by_cases q3:q=3
  .subst q3;have hto:=hfs.aaO rfl;refine arW H vv rv fuel k ha Q hf hfm hkn hlen hc a b c d dp t hst ?_;rintro a' w' h1 rfl;exact hgo a' _ _ t m h1 ⟨hm,hc,hr,hn,hac,hto.1,hto.2,by omega,by rw[hrun];simp[Hx.step]⟩ (dK _ _) hf rfl
  by_cases q0:q=0
  .subst q0;obtain⟨lp,hl0,hlp,hl1,ht0,ht1,hlb,hd0,hd1⟩:=hfs.ends rfl;simp only at hl0 hlp hl1;obtain⟨t,rfl⟩:=bI hl0;simp only[bK]at hlp;refine arX H vv rv fuel k ha Q hf hfm hkn hlen hm hc a b c d dp t hst lp hlp (by rw[hn];exact hlb) ⟨hd0,hd1⟩ ?_;intro a' w' h1 h2 h3;obtain⟨k3,k4⟩:=keep w' h3;refine hgo a' w' _ _ _ h1 ⟨h2,k3,k4,by rw[U1];exact hn,by rw[SE];exact hac,?_,?_,by omega,by rw[hrun];simp[Hx.step,hlp]⟩ h3 hf rfl
   .rcases Kq lp t m with e|e<;>rw[e]<;>omega
   .rcases Kq lp t m with e|e<;>rw[e]<;>omega
  have hnx:=hfs.next q1 q3 q0;by_cases q2:q=2
  .subst q2;obtain⟨⟨hs0,hs1⟩,PG,PI⟩:=hfs.ifs rfl;simp only at hs0 hs1 PG PI;obtain⟨a,rfl⟩:=bI hs0;refine arY H vv rv fuel k ha Q hf hfm hkn hlen hm hc a b c d dp t hst (by omega) ?_;rintro a' w' h1 ⟨i,rfl⟩;have hb:Below B w (w.drewN i):=below_drewN (dK _ _) i;obtain⟨k3,k4⟩:=keep _ hb;refine hgo a' _ _ _ m h1 ⟨hm.drewN i,k3,k4,hn,hac,?_,?_,by omega,by rw[hrun];simp[Hx.step,Hx.Mc.get]⟩ hb hf rfl
   .split<;>omega
   .split<;>omega
  by_cases q4:q=4
  .subst q4;obtain⟨PG,PI,⟨hb0,hb1⟩,⟨hc0,hc1⟩,hd0,hd1⟩:=hfs.jV rfl;simp only at PG PI hb0 hb1 hc0 hc1 hd0 hd1;obtain⟨b,rfl⟩:=bI hb0;obtain⟨c,rfl⟩:=bI hc0;obtain⟨dp,rfl⟩:=bI hd0;refine arZ H vv rv fuel k ha Q hf hfm hkn hlen hm hc a b c d dp t hst (by omega) (by omega) (by omega) ?_;intro a' w' h1 h2 h3;obtain⟨k3,k4⟩:=keep w' h3;refine hgo a' w' _ _ _ h1 ⟨h2,k3,k4,by rw[U1];exact hn,by rw[SE];exact hac,?_,?_,by omega,by rw[hrun];simp[Hx.step]⟩ h3 hf rfl
   .rcases Kq ⟨4,a,b,c,d,dp,t⟩ k (Hx.rP v ⟨4,a,b,c,d,dp,t⟩ m)with e|e<;>rw[e]
    .exact PG
    .omega
   .rcases Kq ⟨4,a,b,c,d,dp,t⟩ k (Hx.rP v ⟨4,a,b,c,d,dp,t⟩ m)with e|e<;>rw[e]
    .exact PI
    .omega
  by_cases q5:q=5
  .subst q5;obtain⟨⟨hs0,hs1⟩,lp,hl0,hlp,hl1,ht0,ht1,hlb,hd0,hd1⟩:=hfs.Iq rfl;simp only at hs0 hs1 hl0 hlp hl1;obtain⟨a,rfl⟩:=bI hs0;by_cases hz:m.jD.getD a 0=0
   .obtain⟨t,rfl⟩:=bI hl0;simp only[bK]at hlp;refine ar5 H vv rv fuel k ha Q hf hfm hkn hlen hm hc a b c d dp t hst (by omega) hz lp hlp (by rw[hn];exact hlb) ⟨hd0,hd1⟩ ?_;intro a' w' h1 h2 h3;obtain⟨k3,k4⟩:=keep w' h3;have hz':m.get (a:Int)=0:=by simpa [Hx.Mc.get]using hz
    refine hgo a' w' _ _ _ h1 ⟨h2,k3,k4,by rw[U1];exact hn,by rw[SE];exact hac,?_,?_,by omega,by rw[hrun];simp[Hx.step,hlp,hz']⟩ h3 hf rfl
    .rcases Kq lp t m with e|e<;>rw[e]<;>omega
    .rcases Kq lp t m with e|e<;>rw[e]<;>omega
   .refine ar7 H vv rv fuel k ha Q hf hfm hkn hlen hm hc a b c d dp t hst (by omega) hz ?_;rintro a' w' h1 ⟨i,rfl⟩;have hb:Below B w (w.drewN i):=below_drewN (dK _ _) i;obtain⟨k3,k4⟩:=keep _ hb;have hz':¬m.get (a:Int)=0:=by simpa [Hx.Mc.get]using hz
    exact hgo a' _ _ _ m h1 ⟨hm.drewN i,k3,k4,hn,hac,by omega,by omega,by omega,by rw[hrun];simp[Hx.step,hz']⟩ hb hf rfl
  by_cases q6:q=36
  .subst q6;obtain⟨⟨hs0,hs1⟩,hs2,hs3⟩:=hfs.Ie rfl;simp only at hs0 hs1 hs2 hs3;obtain⟨a,rfl⟩:=bI hs0;obtain⟨b,rfl⟩:=bI hs2;have e0:Hx.push v (m.get (a:Int)) (m.get (b:Int)) m=Hx.push v (m.jD.getD a 0) (m.jD.getD b 0) m:=by simp[Hx.Mc.get]
   cases hpu:Hx.push v (m.jD.getD a 0) (m.jD.getD b 0) m with
   |none=>
    refine ar1 H vv rv fuel k ha Q hf hfm hkn hlen hm hc a b c d dp t hst (by omega) (by omega) hac hpu ?_;intro a' w' h1 h2;exact hwr a' w' 1 h1 (by rw[hrun];simp[Hx.step,e0.trans hpu]) (keep w' h2).2 h2
   |some m2=>
    refine ar2 H vv rv fuel k ha Q hf hfm hkn hlen hm hc a b c d dp t hst (by omega) (by omega) hac m2 hpu ?_;intro a' w' h1 h2 h3;obtain⟨k3,k4⟩:=keep w' h3;obtain⟨p1,p2⟩:=apU hpu hac;exact hgo a' w' _ _ m2 h1 ⟨h2,k3,k4,by omega,p2,by omega,by omega,by omega,by rw[hrun];simp[Hx.step,e0.trans hpu]⟩ h3 hf rfl
  .refine ar8 H vv rv fuel k ha Q hf hfm hkn hlen hm hc _ hst (by rw[hn];exact hfs.works q1 q2 q3 q4 q5 q0 q6) (by simpa using q1) (by simpa using q2) (by simpa using q3) (by simpa using q4) (by simpa using q5) (by simpa using q0) (by simpa using q6) ?_;intro a' w' h1 h2 h3;obtain⟨k3,k4⟩:=keep w' h3;exact hgo a' w' _ _ _ h1 ⟨h2,k3,k4,by rw[amK];exact hn,by rw[ahZ];exact hac,by omega,by omega,by omega,by rw[hrun];simp[Hx.step,q1,q2,q3,q4,q5,q0,q6]⟩ h3 hf rfl
 .refine ar6 H vv rv fuel k ha Q (by omega) ?_;intro a' h1;refine hwr a' w 2 h1 ?_ hr (dK _ _);rw[<-hout];have e:fuel.toNat=0:=by omega
  rw[e]
  rfl
def IQ(w:jk)(H:Nat)(x0 x1 x2 x3 x4 x5 x6 x7:Int):Prop:=
 ∀j,j<8->w.cell? (Ad (H+1) j)=some (Im ([x0,x1,x2,x3,x4,x5,x6,x7].getD j 0))
set_option maxRecDepth 1000000 in
theorem ZN{fuel k:Int}{a:Act}(ha:nH cb co H M vv rv fuel k a):a.tmps.getD 3 undef=Im fuel:=by
 unfold nH at ha
 iterate 139 obtain⟨_,ha⟩:=ha
 subst ha
 rfl
set_option maxRecDepth 1000000 in
theorem ar9{st x0 x1 x2 x3 x4 x5 x6 x7:Int}(a:Act)(ha:DN cb co H M vv rv st a)(hx:IQ w H x0 x1 x2 x3 x4 x5 x6 x7)(hr:xk w H)(Q:Exit->Act->jk->Prop)
 (hret:∀a',a'.tmps.getD 8 undef=Pt (H+1+1) 0->a'.defers=[]->Q .ret a' (EC w H st (Nl) x0 x1 x2 x3 x4 x5 x6 x7)):
 Code.wp prog (y8 Tryz.f16 0) Q a w:=by
 unfold DN at ha
 iterate 141 obtain⟨_,ha⟩:=ha
 subst ha;have y0:=hx 0 (by omega);have y1:=hx 1 (by omega);have y2:=hx 2 (by omega);have y3:=hx 3 (by omega);have y4:=hx 4 (by omega);have y5:=hx 5 (by omega);have y6:=hx 6 (by omega);have y7:=hx 7 (by omega);simp only[iR,iT]at y0 y1 y2 y3 y4 y5 y6 y7;obtain⟨c0,c1,c2,cf⟩:=hr;have d0:=c2 0 (by omega);have d1:=c2 1 (by omega);have d2:=c2 2 (by omega);have d3:=c2 3 (by omega);have d4:=c2 4 (by omega);have d5:=c2 5 (by omega);have d6:=c2 6 (by omega);have d7:=c2 7 (by omega);simp only[Nat.reduceAdd]at d0 d1 d2 d3 d4 d5 d6 d7;clear hx c2
 conv=>arg 2;whnf
 go_wp2;exact hret _ rfl rfl
def ahM(B C:Nat)(M SB:Nat)(v:Vw)(cb co sb so cap:Nat)(jB:List St)(n H:Nat)(jF:List Int)(o:Out)(vv rv:jm)(W:jk):Nat->Act->jk->Prop
 |0,a,w=>∃st,DN cb co H M vv rv st a/\o=⟨st,jF,[]⟩/\xk w H/\Below B W w
 |1,a,w=>∃fuel k m,nH cb co H M vv rv fuel k a/\mQ B C w M SB v cb co sb so cap jB n H jF o fuel k m/\Below B W w
 |_,_,_=>False
def arT:Nat->Act->jk->Nat
 |1,a,_=>1+(intOf (a.tmps.getD 3 undef)).toNat
 |_,_,_=>0
theorem aeY(w:jk)(H:Nat)(st:Int)(va:jm)(x0 x1 x2 x3 x4 x5 x6 x7:Int):w.grownBy (EC w H st va x0 x1 x2 x3 x4 x5 x6 x7) (some (H+1+1)):=by
 unfold EC;exact(((((((((vO _ (Ad (H+1+1) 0) _).trans (vO _ (Ad (H+1+1) 1) _)).trans (vO _ (Ad (H+1+1) 2) _)).trans (vO _ (Ad (H+1+1) 3) _)).trans (vO _ (Ad (H+1+1) 4) _)).trans (vO _ (Ad (H+1+1) 5) _)).trans (vO _ (Ad (H+1+1) 6) _)).trans (vO _ (Ad (H+1+1) 7) _)).trans (vO _ (Ad (H+1+1) 8) _)).trans (vO _ (Ad (H+1+1) 9) _)
theorem ap5(w:jk)(H:Nat)(hr:xk w H)(st:Int)(a:Option Addr)(n c:Nat)(x0 x1 x2 x3 x4 x5 x6 x7:Int)(t:Array jm)(ht:t.getD 8 undef=Pt (H+1+1) 0):
 (results Tryz.f16 t).run prog (EC w H st (.slice a n c) x0 x1 x2 x3 x4 x5 x6 x7)=.ok (vk st (.slice a n c) [x0,x1,x2,x3,x4,x5,x6,x7]) (EC w H st (.slice a n c) x0 x1 x2 x3 x4 x5 x6 x7):=by
 obtain⟨c0,c1,c2,cf⟩:=hr;have d0:=c2 0 (by omega);have d1:=c2 1 (by omega);have d2:=c2 2 (by omega);have d3:=c2 3 (by omega);have d4:=c2 4 (by omega);have d5:=c2 5 (by omega);have d6:=c2 6 (by omega);have d7:=c2 7 (by omega);simp only[Nat.reduceAdd]at d0 d1 d2 d3 d4 d5 d6 d7;have ht':t[8]?.getD undef=Pt (H+1+1) 0:=by simpa using ht
 unfold EC vk;simp[results,Tryz.results16,go_sem,ht',c0,c1,d0,d1,d2,d3,d4,d5,d6,d7]
def boxes(w:jk)(ar af aa:Option Addr)(nr cr nf cf na ca:Nat)(x0 x1 x2 x3 x4 x5 x6 x7:Int):jk:=
 ((w.alloc (Obj.cells #[.slice ar nr cr,.slice af nf cf,.slice aa na ca] 25)).alloc
   (Obj.cells #[Im x0,Im x1,Im x2,Im x3,Im x4,Im x5,Im x6,Im x7] 26)).alloc
   (Obj.cells #[.int .u8 0,Nl,Im 0,Im 0,Im 0,Im 0,Im 0,Im 0,Im 0,Im 0] 35)
section
variable (w:jk)(ar af aa:Option Addr)(nr cr nf cf na ca:Nat)(x0 x1 x2 x3 x4 x5 x6 x7:Int)
theorem ajw:(boxes w ar af aa nr cr nf cf na ca x0 x1 x2 x3 x4 x5 x6 x7).heap.size=w.heap.size+1+1+1:=by simp[boxes]
theorem ajx(k:Nat):(boxes w ar af aa nr cr nf cf na ca x0 x1 x2 x3 x4 x5 x6 x7).cell? (Ad w.heap.size k)=#[Value.slice ar nr cr,.slice af nf cf,.slice aa na ca][k]? :=by
 unfold boxes;rw[gB _ _ _ (by simp;omega),gB _ _ _ (by simp)];exact fQ _ _ _ _ rfl
theorem aju:IQ (boxes w ar af aa nr cr nf cf na ca x0 x1 x2 x3 x4 x5 x6 x7) w.heap.size x0 x1 x2 x3 x4 x5 x6 x7:=by
 intro j hj;unfold boxes;rw[gB _ _ _ (by simp),fQ _ _ _ _ (by simp)];have:=afa x0 x1 x2 x3 x4 x5 x6 x7 j hj;rw[<-this];simp[wo]
theorem ajv:xk (boxes w ar af aa nr cr nf cf na ca x0 x1 x2 x3 x4 x5 x6 x7) w.heap.size:=by
 have h:∀k,(boxes w ar af aa nr cr nf cf na ca x0 x1 x2 x3 x4 x5 x6 x7).cell? (Ad (w.heap.size+1+1) k)=#[Value.int .u8 0,Nl,Im 0,Im 0,Im 0,Im 0,Im 0,Im 0,Im 0,Im 0][k]? :=λk=>fQ _ _ _ _ (by simp);refine⟨by rw[h];rfl,by rw[h];rfl,λj hj=>?_,λj=>World.frozen?_alloc_at _ _ _ _ (by simp)⟩;rw[h];have:j=0\/j=1\/j=2\/j=3\/j=4\/j=5\/j=6\/j=7:=by omega
 rcases this with rfl|rfl|rfl|rfl|rfl|rfl|rfl|rfl<;>rfl
theorem ajt:w.grownBy (boxes w ar af aa nr cr nf cf na ca x0 x1 x2 x3 x4 x5 x6 x7) none:=by
 unfold boxes;exact((ah w _ none).trans (ah _ _ none)).trans (ah _ _ none)
end
theorem IQ.keep{B:Nat}{w w':jk}{H:Nat}{x0 x1 x2 x3 x4 x5 x6 x7:Int}(h:IQ w H x0 x1 x2 x3 x4 x5 x6 x7)(hb:Below B w w')(hB:H+1<B):IQ w' H x0 x1 x2 x3 x4 x5 x6 x7:=λj hj=>by
 rw[hb.cell (p:=(Ad (H+1) j)) hB];exact h j hj
theorem yP.keep{B:Nat}{w w':jk}{ar af aa:Option Addr}{nr nf na:Nat}{v:Vw}(h:yP B w ar af aa nr nf na v)(hc:∀x:Addr,x.block<B->w'.cell? x=w.cell? x):yP B w' ar af aa nr nf na v:=by
 refine⟨λi r hr=>?_,λi r hr=>?_,λi r hr=>?_,h.MZ,h.MW,h.MV,h.Ij⟩
 .obtain⟨b,o,e,hb,hp⟩:=h.pW i r hr;exact⟨b,o,e,hb,hp.keep hb hc⟩
 .obtain⟨b,o,e,hb,hp⟩:=h.qK i r hr;exact⟨b,o,e,hb,hp.keep hb hc⟩
 .obtain⟨b,o,e,hb,hp⟩:=h.qJ i r hr;exact⟨b,o,e,hb,hp.keep hb hc⟩
end
end
end Go.Proofs.YthllhabjfchgiaaGreatDoor
