import Derived.Test.YthllhabjfchgiaaGreatDoorHz07
import Derived.Test.YthllhabjfchgiaaGreatDoorHz08
set_option maxRecDepth 100000
set_option maxHeartbeats 8000000
namespace Go.Proofs.YthllhabjfchgiaaGreatDoor
open _root_.Go.Proofs.Tryz
section
open Go.RowKit
open Hx (Rd Pk Vw St Mc aZ)
section
def LY:Code->Option Code
 | .scope c=>some c
 | .seq a b=>match LY a with
   |some c=>some c
   |none=>LY b
 | .block _ c=>LY c
 |_=>none
def ajb:Code->Code
 | .seq .skip c=>c
 |c=>c
def tC(f:Func)(l:Nat):Code:=ajb (((f.body.bind LY).bind (findLabel · l)).getD .skip)
set_option maxRecDepth 1000000 in
def mW(cb co H M:Nat)(vv rv:Value)(fuel k:Int)(a:Act):Prop:=
 ∃u4 u7 u11 u13 u14 u15 u16 ji jk jl u20 u21 u22 u23 u24 u25 u26 u27 u28 u29 u30 u31 u32 u33 u34 u35 u36 u37 u38 jm u40 jo u42 jq u44 u45 u46 jr u48 u49 jv u51 jw u53 jy u55 jA jB u58 u59 u60 u61 jC u63 u64 jD u66 jE u68 u69 u70 jF u72 u73 jG u75 jH jI jJ jK jL jM jO jP jQ jR jS jT jU jV jW jX jY u93 jZ ku kC kD kE kF gG gI gJ gK gQ u105 gU gV gW gX gY gZ ig iq iw iy iC iD iE u119 iF iG iH iI u124 iJ iK u127 iL iM iO u131 iP iQ iR iT iU iV u138 u139 iW iY iZ jc jd je jf jg jh:Value,a=⟨#[Pt cb co,vv,rv,Im fuel,u4,Pt H 0,Pt (H+1) 0,u7,Pt (H+1+1) 0,Pt M 0,Im k,u11,.int .u8 0,u13,u14,u15,u16,ji,jk,jl,u20,u21,u22,u23,u24,u25,u26,u27,u28,u29,u30,u31,u32,u33,u34,u35,u36,u37,u38,jm,u40,jo,u42,jq,u44,u45,u46,jr,u48,u49,jv,u51,jw,u53,jy,u55,jA,jB,u58,u59,u60,u61,jC,u63,u64,jD,u66,jE,u68,u69,u70,jF,u72,u73,jG,u75,jH,jI,jJ,jK,jL,jM,jO,jP,jQ,jR,jS,jT,jU,jV,jW,jX,jY,u93,jZ,ku,kC,kD,kE,kF,gG,gI,gJ,gK,gQ,u105,gU,gV,gW,gX,gY,gZ,ig,iq,iw,iy,iC,iD,iE,u119,iF,iG,iH,iI,u124,iJ,iK,u127,iL,iM,iO,u131,iP,iQ,iR,iT,iU,iV,u138,u139,iW,iY,iZ,jc,jd,je,jf,jg,jh],[]⟩
set_option maxRecDepth 1000000 in
def zk(cb co H M:Nat)(vv rv:Value)(st:Int)(a:Act):Prop:=
 ∃u3 u4 u7 u10 u11 u13 u14 u15 u16 ji jk jl u20 u21 u22 u23 u24 u25 u26 u27 u28 u29 u30 u31 u32 u33 u34 u35 u36 u37 u38 jm u40 jo u42 jq u44 u45 u46 jr u48 u49 jv u51 jw u53 jy u55 jA jB u58 u59 u60 u61 jC u63 u64 jD u66 jE u68 u69 u70 jF u72 u73 jG u75 jH jI jJ jK jL jM jO jP jQ jR jS jT jU jV jW jX jY u93 jZ ku kC kD kE kF gG gI gJ gK gQ u105 gU gV gW gX gY gZ ig iq iw iy iC iD iE u119 iF iG iH iI u124 iJ iK u127 iL iM iO u131 iP iQ iR iT iU iV u138 u139 iW iY iZ jc jd je jf jg jh:Value,a=⟨#[Pt cb co,vv,rv,u3,u4,Pt H 0,Pt (H+1) 0,u7,Pt (H+1+1) 0,Pt M 0,u10,u11,.int .u8 st,u13,u14,u15,u16,ji,jk,jl,u20,u21,u22,u23,u24,u25,u26,u27,u28,u29,u30,u31,u32,u33,u34,u35,u36,u37,u38,jm,u40,jo,u42,jq,u44,u45,u46,jr,u48,u49,jv,u51,jw,u53,jy,u55,jA,jB,u58,u59,u60,u61,jC,u63,u64,jD,u66,jE,u68,u69,u70,jF,u72,u73,jG,u75,jH,jI,jJ,jK,jL,jM,jO,jP,jQ,jR,jS,jT,jU,jV,jW,jX,jY,u93,jZ,ku,kC,kD,kE,kF,gG,gI,gJ,gK,gQ,u105,gU,gV,gW,gX,gY,gZ,ig,iq,iw,iy,iC,iD,iE,u119,iF,iG,iH,iI,u124,iJ,iK,u127,iL,iM,iO,u131,iP,iQ,iR,iT,iU,iV,u138,u139,iW,iY,iZ,jc,jd,je,jf,jg,jh],[]⟩
structure nM(B:Nat)(w:World)(cb co sb so cap:Nat)(ay:List St):Prop where
 xg:cb<B
 wI:sb<B
 slice:w.cell? (Ad cb co)=some (.slice (some (Ad sb so)) ay.length cap)
 step:∀(i:Nat)(s:St),ay[i]? =some s->uD w sb (so+i * 7) s
theorem nM.aN{B:Nat}{w w':World}{cb co sb so cap:Nat}{ay:List St}(h:nM B w cb co sb so cap ay)(hb:Below B w w'):nM B w' cb co sb so cap ay:=by
 refine⟨h.xg,h.wI,by rw[hb.cell (p:=(Ad cb co)) h.xg];exact h.slice,fun i s hs=>?_⟩;obtain⟨h0,h1,h2,h3,h4,h5,h6⟩:=h.step i s hs;have hc:∀o,w'.cell? (Ad sb o)=w.cell? (Ad sb o):=fun o=>hb.cell (p:=(Ad sb o)) h.wI;exact⟨by rw[hc];exact h0,by rw[hc];exact h1,by rw[hc];exact h2,by rw[hc];exact h3,by rw[hc];exact h4,by rw[hc];exact h5,by rw[hc];exact h6⟩
variable {B C:Nat}{w:World}{M SB:Nat}{v:Vw}{m:Mc}{cb co sb so cap:Nat}{ay:List St}
set_option maxRecDepth 1000000 in
theorem ahi(H:Nat)(vv rv:Value)(fuel:Int)(k:Nat)(u4 u7 u11 u13 u14 u15 u16 ji jk jl u20 u21 u22 u23 u24 u25 u26 u27 u28 u29 u30 u31 u32 u33 u34 u35 u36 u37 u38 jm u40 jo u42 jq u44 u45 u46 jr u48 u49 jv u51 jw u53 jy u55 jA jB u58 u59 u60 u61 jC u63 u64 jD u66 jE u68 u69 u70 jF u72 u73 jG u75 jH jI jJ jK jL jM jO jP jQ jR jS jT jU jV jW jX jY u93 jZ ku kC kD kE kF gG gI gJ gK gQ u105 gU gV gW gX gY gZ ig iq iw iy iC iD iE u119 iF iG iH iI u124 iJ iK u127 iL iM iO u131 iP iQ iR iT iU iV u138 u139 iW iY iZ jc jd je jf jg jh:Value)(Q:Exit->Act->World->Prop)(hf:fuel<=0)
 (hgo:∀a',zk cb co H M vv rv 2 a'->Q (.goto 0) a' w):
 Code.wp prog (tC Tryz.f16 1) Q ⟨#[Pt cb co,vv,rv,Im fuel,u4,Pt H 0,Pt (H+1) 0,u7,Pt (H+1+1) 0,Pt M 0,Im k,u11,.int .u8 0,u13,u14,u15,u16,ji,jk,jl,u20,u21,u22,u23,u24,u25,u26,u27,u28,u29,u30,u31,u32,u33,u34,u35,u36,u37,u38,jm,u40,jo,u42,jq,u44,u45,u46,jr,u48,u49,jv,u51,jw,u53,jy,u55,jA,jB,u58,u59,u60,u61,jC,u63,u64,jD,u66,jE,u68,u69,u70,jF,u72,u73,jG,u75,jH,jI,jJ,jK,jL,jM,jO,jP,jQ,jR,jS,jT,jU,jV,jW,jX,jY,u93,jZ,ku,kC,kD,kE,kF,gG,gI,gJ,gK,gQ,u105,gU,gV,gW,gX,gY,gZ,ig,iq,iw,iy,iC,iD,iE,u119,iF,iG,iH,iI,u124,iJ,iK,u127,iL,iM,iO,u131,iP,iQ,iR,iT,iU,iV,u138,u139,iW,iY,iZ,jc,jd,je,jf,jg,jh],[]⟩ w:=by
 have hd:decide (fuel<=0)=true:=by simpa using hf
 conv=>arg 2;whnf
 go_wp2;go_step3;refine hgo _ ?_;unfold zk
 (repeat apply Exists.intro)
 rfl
set_option maxRecDepth 1000000 in
theorem ag8(H:Nat)(vv rv:Value)(fuel:Int)(k:Nat)(u4 u7 u11 u13 u14 u15 u16 ji jk jl u20 u21 u22 u23 u24 u25 u26 u27 u28 u29 u30 u31 u32 u33 u34 u35 u36 u37 u38 jm u40 jo u42 jq u44 u45 u46 jr u48 u49 jv u51 jw u53 jy u55 jA jB u58 u59 u60 u61 jC u63 u64 jD u66 jE u68 u69 u70 jF u72 u73 jG u75 jH jI jJ jK jL jM jO jP jQ jR jS jT jU jV jW jX jY u93 jZ ku kC kD kE kF gG gI gJ gK gQ u105 gU gV gW gX gY gZ ig iq iw iy iC iD iE u119 iF iG iH iI u124 iJ iK u127 iL iM iO u131 iP iQ iR iT iU iV u138 u139 iW iY iZ jc jd je jf jg jh:Value)(Q:Exit->Act->World->Prop)(hf:0<fuel)(hfm:fuel<=9223372036854775807)(hk:k<ay.length)(hlen:ay.length<=1000000)
 (hc:nM B w cb co sb so cap ay)(a b c d dp t:Int)(hst:ay[k]? =some ⟨3,a,b,c,d,dp,t⟩)
 (hgo:∀a' w',mW cb co H M vv rv (fuel-1) t a'->w'=w->Q (.goto 1) a' w'):
 Code.wp prog (tC Tryz.f16 1) Q ⟨#[Pt cb co,vv,rv,Im fuel,u4,Pt H 0,Pt (H+1) 0,u7,Pt (H+1+1) 0,Pt M 0,Im k,u11,.int .u8 0,u13,u14,u15,u16,ji,jk,jl,u20,u21,u22,u23,u24,u25,u26,u27,u28,u29,u30,u31,u32,u33,u34,u35,u36,u37,u38,jm,u40,jo,u42,jq,u44,u45,u46,jr,u48,u49,jv,u51,jw,u53,jy,u55,jA,jB,u58,u59,u60,u61,jC,u63,u64,jD,u66,jE,u68,u69,u70,jF,u72,u73,jG,u75,jH,jI,jJ,jK,jL,jM,jO,jP,jQ,jR,jS,jT,jU,jV,jW,jX,jY,u93,jZ,ku,kC,kD,kE,kF,gG,gI,gJ,gK,gQ,u105,gU,gV,gW,gX,gY,gZ,ig,iq,iw,iy,iC,iD,iE,u119,iF,iG,iH,iI,u124,iJ,iK,u127,iL,iM,iO,u131,iP,iQ,iR,iT,iU,iV,u138,u139,iW,iY,iZ,jc,jd,je,jf,jg,jh],[]⟩ w:=by
 have hd:decide (fuel<=0)=false:=by simp;omega
 have i0:(0:Int)<=(k:Int):=by omega
 have j0:(k:Int)<(ay.length:Int):=by omega
 have k1:(k:Int)<=1000000:=by omega
 have hsl:=hc.slice;obtain⟨s0,s1,s2,s3,s4,s5,s6⟩:=hc.step k _ hst;simp only at s0 s1 s2 s3 s4 s5 s6;generalize hN:ay.length=N at *;have HN:Hid (ay.length=N):=hN;clear hN
 conv=>arg 2;whnf
 go_wp2;go_step3;refine hgo _ _ ?_ ?_
 .unfold mW
  (repeat apply Exists.intro)
  rfl
 .rfl
set_option maxRecDepth 1000000 in
theorem aha(H:Nat)(vv rv:Value)(fuel:Int)(k:Nat)(u4 u7 u11 u13 u14 u15 u16 ji jk jl u20 u21 u22 u23 u24 u25 u26 u27 u28 u29 u30 u31 u32 u33 u34 u35 u36 u37 u38 jm u40 jo u42 jq u44 u45 u46 jr u48 u49 jv u51 jw u53 jy u55 jA jB u58 u59 u60 u61 jC u63 u64 jD u66 jE u68 u69 u70 jF u72 u73 jG u75 jH jI jJ jK jL jM jO jP jQ jR jS jT jU jV jW jX jY u93 jZ ku kC kD kE kF gG gI gJ gK gQ u105 gU gV gW gX gY gZ ig iq iw iy iC iD iE u119 iF iG iH iI u124 iJ iK u127 iL iM iO u131 iP iQ iR iT iU iV u138 u139 iW iY iZ jc jd je jf jg jh:Value)(Q:Exit->Act->World->Prop)(hf:0<fuel)(hfm:fuel<=9223372036854775807)(hk:k<ay.length)(hlen:ay.length<=1000000)
 (hm:cu B C w M SB v m)(hc:nM B w cb co sb so cap ay)(a:Nat)(b c d dp t:Int)(hst:ay[k]? =some ⟨2,a,b,c,d,dp,t⟩)(ha:a<m.aF.length)
 (hgo:∀a' w',mW cb co H M vv rv (fuel-1) (if m.aF.getD a 0=0 then t else k+1) a'->(∃n,w'=w.drewN n)->Q (.goto 1) a' w'):
 Code.wp prog (tC Tryz.f16 1) Q ⟨#[Pt cb co,vv,rv,Im fuel,u4,Pt H 0,Pt (H+1) 0,u7,Pt (H+1+1) 0,Pt M 0,Im k,u11,.int .u8 0,u13,u14,u15,u16,ji,jk,jl,u20,u21,u22,u23,u24,u25,u26,u27,u28,u29,u30,u31,u32,u33,u34,u35,u36,u37,u38,jm,u40,jo,u42,jq,u44,u45,u46,jr,u48,u49,jv,u51,jw,u53,jy,u55,jA,jB,u58,u59,u60,u61,jC,u63,u64,jD,u66,jE,u68,u69,u70,jF,u72,u73,jG,u75,jH,jI,jJ,jK,jL,jM,jO,jP,jQ,jR,jS,jT,jU,jV,jW,jX,jY,u93,jZ,ku,kC,kD,kE,kF,gG,gI,gJ,gK,gQ,u105,gU,gV,gW,gX,gY,gZ,ig,iq,iw,iy,iC,iD,iE,u119,iF,iG,iH,iI,u124,iJ,iK,u127,iL,iM,iO,u131,iP,iQ,iR,iT,iU,iV,u138,u139,iW,iY,iZ,jc,jd,je,jf,jg,jh],[]⟩ w:=by
 have hd:decide (fuel<=0)=false:=by simp;omega
 have i0:(0:Int)<=(k:Int):=by omega
 have j0:(k:Int)<(ay.length:Int):=by omega
 have k1:(k:Int)<=1000000:=by omega
 have hsl:=hc.slice;obtain⟨s0,s1,s2,s3,s4,s5,s6⟩:=hc.step k _ hst;simp only at s0 s1 s2 s3 s4 s5 s6;generalize hN:ay.length=N at *;have HN:Hid (ay.length=N):=hN;clear hN;have hs:=hm.aF;have ca:=hm.slot a ha;clear hm;generalize m.aF.getD a 0=xa at *;generalize m.aF.length=len at *;have i1:(0:Int)<=(a:Int):=by omega
 have j1:(a:Int)<(len:Int):=by omega
 obtain⟨z,hz⟩:∃z,(xa==0)=z:=⟨_,rfl⟩
 conv=>arg 2;whnf
 cases z with
 |true=>
  have hx:xa=0:=by simpa using hz
  rw[if_pos hx]at hgo;clear hx;go_wp2_with fail;go_quiet (fail);go_wp2;go_step3;refine hgo _ _ ?_ ?_
  .unfold mW
   (repeat apply Exists.intro)
   rfl
  .exact⟨_,rfl⟩
 |false=>
  have hx:¬xa=0:=by simpa using hz
  rw[if_neg hx]at hgo;clear hx;go_wp2_with fail;go_quiet (fail);go_wp2;go_step3;refine hgo _ _ ?_ ?_
  .unfold mW
   (repeat apply Exists.intro)
   rfl
  .exact⟨_,rfl⟩
set_option maxRecDepth 1000000 in
theorem ahb(H:Nat)(vv rv:Value)(fuel:Int)(k:Nat)(u4 u7 u11 u13 u14 u15 u16 ji jk jl u20 u21 u22 u23 u24 u25 u26 u27 u28 u29 u30 u31 u32 u33 u34 u35 u36 u37 u38 jm u40 jo u42 jq u44 u45 u46 jr u48 u49 jv u51 jw u53 jy u55 jA jB u58 u59 u60 u61 jC u63 u64 jD u66 jE u68 u69 u70 jF u72 u73 jG u75 jH jI jJ jK jL jM jO jP jQ jR jS jT jU jV jW jX jY u93 jZ ku kC kD kE kF gG gI gJ gK gQ u105 gU gV gW gX gY gZ ig iq iw iy iC iD iE u119 iF iG iH iI u124 iJ iK u127 iL iM iO u131 iP iQ iR iT iU iV u138 u139 iW iY iZ jc jd je jf jg jh:Value)(Q:Exit->Act->World->Prop)(hf:0<fuel)(hfm:fuel<=9223372036854775807)(hk:k<ay.length)(hlen:ay.length<=1000000)
 (hm:cu B C w M SB v m)(hc:nM B w cb co sb so cap ay)(l:Int)(b c:Nat)(d:Int)(dp:Nat)(t:Int)(hst:ay[k]? =some ⟨4,l,b,c,d,dp,t⟩)(hb:b<m.aF.length)(hcs:c<m.aF.length)(hdp:dp<8)
 (hgo:∀a' w',mW cb co H M vv rv (fuel-1) (Hx.turn ⟨4,l,b,c,d,dp,t⟩ k (Hx.qp v ⟨4,l,b,c,d,dp,t⟩ m)).2 a'->cu B C w' M SB v (Hx.turn ⟨4,l,b,c,d,dp,t⟩ k (Hx.qp v ⟨4,l,b,c,d,dp,t⟩ m)).1->Below B w w'->Q (.goto 1) a' w'):
 Code.wp prog (tC Tryz.f16 1) Q ⟨#[Pt cb co,vv,rv,Im fuel,u4,Pt H 0,Pt (H+1) 0,u7,Pt (H+1+1) 0,Pt M 0,Im k,u11,.int .u8 0,u13,u14,u15,u16,ji,jk,jl,u20,u21,u22,u23,u24,u25,u26,u27,u28,u29,u30,u31,u32,u33,u34,u35,u36,u37,u38,jm,u40,jo,u42,jq,u44,u45,u46,jr,u48,u49,jv,u51,jw,u53,jy,u55,jA,jB,u58,u59,u60,u61,jC,u63,u64,jD,u66,jE,u68,u69,u70,jF,u72,u73,jG,u75,jH,jI,jJ,jK,jL,jM,jO,jP,jQ,jR,jS,jT,jU,jV,jW,jX,jY,u93,jZ,ku,kC,kD,kE,kF,gG,gI,gJ,gK,gQ,u105,gU,gV,gW,gX,gY,gZ,ig,iq,iw,iy,iC,iD,iE,u119,iF,iG,iH,iI,u124,iJ,iK,u127,iL,iM,iO,u131,iP,iQ,iR,iT,iU,iV,u138,u139,iW,iY,iZ,jc,jd,je,jf,jg,jh],[]⟩ w:=by
 have hd:decide (fuel<=0)=false:=by simp;omega
 have i0:(0:Int)<=(k:Int):=by omega
 have j0:(k:Int)<(ay.length:Int):=by omega
 have k1:(k:Int)<=1000000:=by omega
 have UD:=aas hm sb (so+k * 7) 4 l b c d dp t (hc.step k _ hst) hcs hdp;have HB:Hid (Calls prog 52 #[Pt M 0,Pt sb (so+k * 7)] w fun e w'=>e=.returned (.tuple #[])/\cu B C w' M SB v (Hx.qp v ⟨4,l,b,c,d,dp,t⟩ m)/\Below B w w'):=UD;clear UD;have HT:Hid (∀w',cu B C w' M SB v (Hx.qp v ⟨4,l,b,c,d,dp,t⟩ m)->Below B w w'->w'.cell? (Ad cb co)=some (.slice (some (Ad sb so)) ay.length cap)/\
  Calls prog 53 #[Pt M 0,.slice (some (Ad sb so)) ay.length cap,Im k] w' fun e w''=>e=.returned (Im (Hx.turn ⟨4,l,b,c,d,dp,t⟩ k (Hx.qp v ⟨4,l,b,c,d,dp,t⟩ m)).2)/\cu B C w'' M SB v (Hx.turn ⟨4,l,b,c,d,dp,t⟩ k (Hx.qp v ⟨4,l,b,c,d,dp,t⟩ m)).1/\Below B w' w''):=fun w' h1 h2=>by
  have hc':=hc.aN h2;exact⟨hc'.slice,QN h1 sb so ay.length cap k _ hc.wI hk hlen (hc'.step k _ hst) ⟨by show(0:Int)<=(b:Int);omega,by show(b:Int)<_;simp[Hx.qp,Hx.Mc.pX];omega⟩ ⟨by show(0:Int)<=(dp:Int);omega,by show(dp:Int)<8;omega⟩⟩
 have hsl:=hc.slice;obtain⟨s0,s1,s2,s3,s4,s5,s6⟩:=hc.step k _ hst;simp only at s0 s1 s2 s3 s4 s5 s6;generalize hN:ay.length=N at *;have HN:Hid (ay.length=N):=hN;clear hN;clear hm hc
 conv=>arg 2;whnf
 generalize (Hx.turn ⟨4,l,b,c,d,dp,t⟩ k (Hx.qp v ⟨4,l,b,c,d,dp,t⟩ m)).2=nx at *;generalize (Hx.turn ⟨4,l,b,c,d,dp,t⟩ k (Hx.qp v ⟨4,l,b,c,d,dp,t⟩ m)).1=m2 at *;generalize Hx.qp v ⟨4,l,b,c,d,dp,t⟩ m=m1 at *;go_wp2_with fail;refine(HB.out).mono ?_;rintro e w1 ⟨rfl,hm1,hb1⟩;obtain⟨hcl,ht⟩:=HT.out w1 hm1 hb1;have HT2:Hid (Calls prog 53 #[Pt M 0,.slice (some (Ad sb so)) N cap,Im k] w1 fun e w''=>e=.returned (Im nx)/\cu B C w'' M SB v m2/\Below B w1 w''):=ht;clear ht;go_wp2_with fail;refine(HT2.out).mono ?_;rintro e w2 ⟨rfl,hm2,hb2⟩;go_wp2;go_step3;refine hgo _ _ ?_ hm2 (hb1.trans hb2);unfold mW
 (repeat apply Exists.intro)
 rfl
set_option maxRecDepth 1000000 in
theorem ag9(H:Nat)(vv rv:Value)(fuel:Int)(k:Nat)(u4 u7 u11 u13 u14 u15 u16 ji jk jl u20 u21 u22 u23 u24 u25 u26 u27 u28 u29 u30 u31 u32 u33 u34 u35 u36 u37 u38 jm u40 jo u42 jq u44 u45 u46 jr u48 u49 jv u51 jw u53 jy u55 jA jB u58 u59 u60 u61 jC u63 u64 jD u66 jE u68 u69 u70 jF u72 u73 jG u75 jH jI jJ jK jL jM jO jP jQ jR jS jT jU jV jW jX jY u93 jZ ku kC kD kE kF gG gI gJ gK gQ u105 gU gV gW gX gY gZ ig iq iw iy iC iD iE u119 iF iG iH iI u124 iJ iK u127 iL iM iO u131 iP iQ iR iT iU iV u138 u139 iW iY iZ jc jd je jf jg jh:Value)(Q:Exit->Act->World->Prop)(hf:0<fuel)(hfm:fuel<=9223372036854775807)(hk:k<ay.length)(hlen:ay.length<=1000000)
 (hm:cu B C w M SB v m)(hc:nM B w cb co sb so cap ay)(a:Int)(b c d dp:Int)(t:Nat)(hst:ay[k]? =some ⟨0,a,b,c,d,dp,t⟩)(lp:St)(hlp:ay[t]? =some lp)(hlb:St.slot m.aF.length lp.b)(hld:0<=lp.depth/\lp.depth<8)
 (hgo:∀a' w',mW cb co H M vv rv (fuel-1) (Hx.turn lp t m).2 a'->cu B C w' M SB v (Hx.turn lp t m).1->Below B w w'->Q (.goto 1) a' w'):
 Code.wp prog (tC Tryz.f16 1) Q ⟨#[Pt cb co,vv,rv,Im fuel,u4,Pt H 0,Pt (H+1) 0,u7,Pt (H+1+1) 0,Pt M 0,Im k,u11,.int .u8 0,u13,u14,u15,u16,ji,jk,jl,u20,u21,u22,u23,u24,u25,u26,u27,u28,u29,u30,u31,u32,u33,u34,u35,u36,u37,u38,jm,u40,jo,u42,jq,u44,u45,u46,jr,u48,u49,jv,u51,jw,u53,jy,u55,jA,jB,u58,u59,u60,u61,jC,u63,u64,jD,u66,jE,u68,u69,u70,jF,u72,u73,jG,u75,jH,jI,jJ,jK,jL,jM,jO,jP,jQ,jR,jS,jT,jU,jV,jW,jX,jY,u93,jZ,ku,kC,kD,kE,kF,gG,gI,gJ,gK,gQ,u105,gU,gV,gW,gX,gY,gZ,ig,iq,iw,iy,iC,iD,iE,u119,iF,iG,iH,iI,u124,iJ,iK,u127,iL,iM,iO,u131,iP,iQ,iR,iT,iU,iV,u138,u139,iW,iY,iZ,jc,jd,je,jf,jg,jh],[]⟩ w:=by
 have hd:decide (fuel<=0)=false:=by simp;omega
 have i0:(0:Int)<=(k:Int):=by omega
 have j0:(k:Int)<(ay.length:Int):=by omega
 have k1:(k:Int)<=1000000:=by omega
 have htl:t<ay.length:=by
  rcases Nat.lt_or_ge t ay.length with h|h
  .exact h
  .rw[List.getElem?_eq_none h]at hlp;cases hlp
 have HT:Hid (∀n,Calls prog 53 #[Pt M 0,.slice (some (Ad sb so)) ay.length cap,Im t] (w.drewN n) fun e w'=>e=.returned (Im (Hx.turn lp t m).2)/\cu B C w' M SB v (Hx.turn lp t m).1/\Below B (w.drewN n) w'):=fun n=>by
  have hc':=hc.aN (below_drewN (Below.refl B w) n);exact QN (hm.drewN n) sb so ay.length cap t lp hc.wI htl hlen (hc'.step t lp hlp) hlb hld
 have hsl:=hc.slice;obtain⟨s0,s1,s2,s3,s4,s5,s6⟩:=hc.step k _ hst;simp only at s0 s1 s2 s3 s4 s5 s6;generalize hN:ay.length=N at *;have HN:Hid (ay.length=N):=hN;clear hN;clear hm hc hlb hld hlp htl
 conv=>arg 2;whnf
 generalize (Hx.turn lp t m).2=nx at *;generalize (Hx.turn lp t m).1=m2 at *;go_wp2_with fail;refine fC 9 (by kernel_rfl) (by kernel_rfl) ?_;simp only[List.take_succ_cons,List.take_zero,List.drop_succ_cons,List.drop_zero];repeat (go_big_quiet_step (fail))
 refine wpQuiet_nil ?_;intro _ hw';obtain⟨n3,hw''⟩:=hw';subst hw'';go_wp2_with fail;refine(HT.out n3).mono ?_;rintro e w2 ⟨rfl,hm2,hb2⟩;go_wp2;go_step3;refine hgo _ _ ?_ hm2 ((below_drewN (Below.refl B w) n3).trans hb2);unfold mW
 (repeat apply Exists.intro)
 rfl
set_option maxRecDepth 1000000 in
theorem ahh(H:Nat)(vv rv:Value)(fuel:Int)(k:Nat)(u4 u7 u11 u13 u14 u15 u16 ji jk jl u20 u21 u22 u23 u24 u25 u26 u27 u28 u29 u30 u31 u32 u33 u34 u35 u36 u37 u38 jm u40 jo u42 jq u44 u45 u46 jr u48 u49 jv u51 jw u53 jy u55 jA jB u58 u59 u60 u61 jC u63 u64 jD u66 jE u68 u69 u70 jF u72 u73 jG u75 jH jI jJ jK jL jM jO jP jQ jR jS jT jU jV jW jX jY u93 jZ ku kC kD kE kF gG gI gJ gK gQ u105 gU gV gW gX gY gZ ig iq iw iy iC iD iE u119 iF iG iH iI u124 iJ iK u127 iL iM iO u131 iP iQ iR iT iU iV u138 u139 iW iY iZ jc jd je jf jg jh:Value)(Q:Exit->Act->World->Prop)(hf:0<fuel)(hfm:fuel<=9223372036854775807)(hk:k<ay.length)(hlen:ay.length<=1000000)
 (hm:cu B C w M SB v m)(hc:nM B w cb co sb so cap ay)(a:Nat)(b c d dp:Int)(t:Nat)(hst:ay[k]? =some ⟨5,a,b,c,d,dp,t⟩)(ha:a<m.aF.length)(hz:m.aF.getD a 0=0)(lp:St)(hlp:ay[t]? =some lp)(hlb:St.slot m.aF.length lp.b)(hld:0<=lp.depth/\lp.depth<8)
 (hgo:∀a' w',mW cb co H M vv rv (fuel-1) (Hx.turn lp t m).2 a'->cu B C w' M SB v (Hx.turn lp t m).1->Below B w w'->Q (.goto 1) a' w'):
 Code.wp prog (tC Tryz.f16 1) Q ⟨#[Pt cb co,vv,rv,Im fuel,u4,Pt H 0,Pt (H+1) 0,u7,Pt (H+1+1) 0,Pt M 0,Im k,u11,.int .u8 0,u13,u14,u15,u16,ji,jk,jl,u20,u21,u22,u23,u24,u25,u26,u27,u28,u29,u30,u31,u32,u33,u34,u35,u36,u37,u38,jm,u40,jo,u42,jq,u44,u45,u46,jr,u48,u49,jv,u51,jw,u53,jy,u55,jA,jB,u58,u59,u60,u61,jC,u63,u64,jD,u66,jE,u68,u69,u70,jF,u72,u73,jG,u75,jH,jI,jJ,jK,jL,jM,jO,jP,jQ,jR,jS,jT,jU,jV,jW,jX,jY,u93,jZ,ku,kC,kD,kE,kF,gG,gI,gJ,gK,gQ,u105,gU,gV,gW,gX,gY,gZ,ig,iq,iw,iy,iC,iD,iE,u119,iF,iG,iH,iI,u124,iJ,iK,u127,iL,iM,iO,u131,iP,iQ,iR,iT,iU,iV,u138,u139,iW,iY,iZ,jc,jd,je,jf,jg,jh],[]⟩ w:=by
 have hd:decide (fuel<=0)=false:=by simp;omega
 have i0:(0:Int)<=(k:Int):=by omega
 have j0:(k:Int)<(ay.length:Int):=by omega
 have k1:(k:Int)<=1000000:=by omega
 have htl:t<ay.length:=by
  rcases Nat.lt_or_ge t ay.length with h|h
  .exact h
  .rw[List.getElem?_eq_none h]at hlp;cases hlp
 have HT:Hid (∀n,Calls prog 53 #[Pt M 0,.slice (some (Ad sb so)) ay.length cap,Im t] (w.drewN n) fun e w'=>e=.returned (Im (Hx.turn lp t m).2)/\cu B C w' M SB v (Hx.turn lp t m).1/\Below B (w.drewN n) w'):=fun n=>by
  have hc':=hc.aN (below_drewN (Below.refl B w) n);exact QN (hm.drewN n) sb so ay.length cap t lp hc.wI htl hlen (hc'.step t lp hlp) hlb hld
 have hsl:=hc.slice;obtain⟨s0,s1,s2,s3,s4,s5,s6⟩:=hc.step k _ hst;simp only at s0 s1 s2 s3 s4 s5 s6;generalize hN:ay.length=N at *;have HN:Hid (ay.length=N):=hN;clear hN;have hs:=hm.aF;have ca:=hm.slot a ha;rw[hz]at ca;clear hm hc hlb hld hlp htl;clear hz;generalize m.aF.length=len at *;have i1:(0:Int)<=(a:Int):=by omega
 have j1:(a:Int)<(len:Int):=by omega
 conv=>arg 2;whnf
 generalize (Hx.turn lp t m).2=nx at *;generalize (Hx.turn lp t m).1=m2 at *;go_wp2_with fail;go_quiet (fail);go_wp2_with fail;refine xR 9 (by kernel_rfl) (by kernel_rfl) ?_;simp only[List.take_succ_cons,List.take_zero,List.drop_succ_cons,List.drop_zero];repeat (go_big_quiet_step (fail))
 refine wpQuiet_nil ?_;intro _ hw';obtain⟨n3,hw''⟩:=hw';subst hw'';go_wp2_with fail;refine(HT.out n3).mono ?_;rintro e w2 ⟨rfl,hm2,hb2⟩;go_wp2;go_step3;refine hgo _ _ ?_ hm2 ((below_drewN (Below.refl B w) n3).trans hb2);unfold mW
 (repeat apply Exists.intro)
 rfl
set_option maxRecDepth 1000000 in
theorem ahj(H:Nat)(vv rv:Value)(fuel:Int)(k:Nat)(u4 u7 u11 u13 u14 u15 u16 ji jk jl u20 u21 u22 u23 u24 u25 u26 u27 u28 u29 u30 u31 u32 u33 u34 u35 u36 u37 u38 jm u40 jo u42 jq u44 u45 u46 jr u48 u49 jv u51 jw u53 jy u55 jA jB u58 u59 u60 u61 jC u63 u64 jD u66 jE u68 u69 u70 jF u72 u73 jG u75 jH jI jJ jK jL jM jO jP jQ jR jS jT jU jV jW jX jY u93 jZ ku kC kD kE kF gG gI gJ gK gQ u105 gU gV gW gX gY gZ ig iq iw iy iC iD iE u119 iF iG iH iI u124 iJ iK u127 iL iM iO u131 iP iQ iR iT iU iV u138 u139 iW iY iZ jc jd je jf jg jh:Value)(Q:Exit->Act->World->Prop)(hf:0<fuel)(hfm:fuel<=9223372036854775807)(hk:k<ay.length)(hlen:ay.length<=1000000)
 (hm:cu B C w M SB v m)(hc:nM B w cb co sb so cap ay)(a:Nat)(b c d dp t:Int)(hst:ay[k]? =some ⟨5,a,b,c,d,dp,t⟩)(ha:a<m.aF.length)(hz:¬m.aF.getD a 0=0)
 (hgo:∀a' w',mW cb co H M vv rv (fuel-1) (k+1) a'->(∃n,w'=w.drewN n)->Q (.goto 1) a' w'):
 Code.wp prog (tC Tryz.f16 1) Q ⟨#[Pt cb co,vv,rv,Im fuel,u4,Pt H 0,Pt (H+1) 0,u7,Pt (H+1+1) 0,Pt M 0,Im k,u11,.int .u8 0,u13,u14,u15,u16,ji,jk,jl,u20,u21,u22,u23,u24,u25,u26,u27,u28,u29,u30,u31,u32,u33,u34,u35,u36,u37,u38,jm,u40,jo,u42,jq,u44,u45,u46,jr,u48,u49,jv,u51,jw,u53,jy,u55,jA,jB,u58,u59,u60,u61,jC,u63,u64,jD,u66,jE,u68,u69,u70,jF,u72,u73,jG,u75,jH,jI,jJ,jK,jL,jM,jO,jP,jQ,jR,jS,jT,jU,jV,jW,jX,jY,u93,jZ,ku,kC,kD,kE,kF,gG,gI,gJ,gK,gQ,u105,gU,gV,gW,gX,gY,gZ,ig,iq,iw,iy,iC,iD,iE,u119,iF,iG,iH,iI,u124,iJ,iK,u127,iL,iM,iO,u131,iP,iQ,iR,iT,iU,iV,u138,u139,iW,iY,iZ,jc,jd,je,jf,jg,jh],[]⟩ w:=by
 have hd:decide (fuel<=0)=false:=by simp;omega
 have i0:(0:Int)<=(k:Int):=by omega
 have j0:(k:Int)<(ay.length:Int):=by omega
 have k1:(k:Int)<=1000000:=by omega
 have hsl:=hc.slice;obtain⟨s0,s1,s2,s3,s4,s5,s6⟩:=hc.step k _ hst;simp only at s0 s1 s2 s3 s4 s5 s6;generalize hN:ay.length=N at *;have HN:Hid (ay.length=N):=hN;clear hN;have hs:=hm.aF;have ca:=hm.slot a ha;clear hm;generalize m.aF.getD a 0=xa at *;generalize m.aF.length=len at *;have i1:(0:Int)<=(a:Int):=by omega
 have j1:(a:Int)<(len:Int):=by omega
 have hz':(xa==0)=false:=by simpa using hz
 clear hz
 conv=>arg 2;whnf
 go_wp2_with fail;go_quiet (fail);go_wp2;go_step3;refine hgo _ _ ?_ ?_
 .unfold mW
  (repeat apply Exists.intro)
  rfl
 .exact⟨_,rfl⟩
set_option maxRecDepth 1000000 in
theorem ahf(H:Nat)(vv rv:Value)(fuel:Int)(k:Nat)(u4 u7 u11 u13 u14 u15 u16 ji jk jl u20 u21 u22 u23 u24 u25 u26 u27 u28 u29 u30 u31 u32 u33 u34 u35 u36 u37 u38 jm u40 jo u42 jq u44 u45 u46 jr u48 u49 jv u51 jw u53 jy u55 jA jB u58 u59 u60 u61 jC u63 u64 jD u66 jE u68 u69 u70 jF u72 u73 jG u75 jH jI jJ jK jL jM jO jP jQ jR jS jT jU jV jW jX jY u93 jZ ku kC kD kE kF gG gI gJ gK gQ u105 gU gV gW gX gY gZ ig iq iw iy iC iD iE u119 iF iG iH iI u124 iJ iK u127 iL iM iO u131 iP iQ iR iT iU iV u138 u139 iW iY iZ jc jd je jf jg jh:Value)(Q:Exit->Act->World->Prop)(hf:0<fuel)(hfm:fuel<=9223372036854775807)(hk:k<ay.length)(hlen:ay.length<=1000000)
 (hm:cu B C w M SB v m)(hc:nM B w cb co sb so cap ay)(a b:Nat)(c d dp t:Int)(hst:ay[k]? =some ⟨36,a,b,c,d,dp,t⟩)(ha:a<m.aF.length)(hb:b<m.aF.length)(h256:m.aY.length<=256)(m2:Mc)(hpu:Hx.push v (m.aF.getD a 0) (m.aF.getD b 0) m=some m2)
 (hgo:∀a' w',mW cb co H M vv rv (fuel-1) (k+1) a'->cu B C w' M SB v m2->Below B w w'->Q (.goto 1) a' w'):
 Code.wp prog (tC Tryz.f16 1) Q ⟨#[Pt cb co,vv,rv,Im fuel,u4,Pt H 0,Pt (H+1) 0,u7,Pt (H+1+1) 0,Pt M 0,Im k,u11,.int .u8 0,u13,u14,u15,u16,ji,jk,jl,u20,u21,u22,u23,u24,u25,u26,u27,u28,u29,u30,u31,u32,u33,u34,u35,u36,u37,u38,jm,u40,jo,u42,jq,u44,u45,u46,jr,u48,u49,jv,u51,jw,u53,jy,u55,jA,jB,u58,u59,u60,u61,jC,u63,u64,jD,u66,jE,u68,u69,u70,jF,u72,u73,jG,u75,jH,jI,jJ,jK,jL,jM,jO,jP,jQ,jR,jS,jT,jU,jV,jW,jX,jY,u93,jZ,ku,kC,kD,kE,kF,gG,gI,gJ,gK,gQ,u105,gU,gV,gW,gX,gY,gZ,ig,iq,iw,iy,iC,iD,iE,u119,iF,iG,iH,iI,u124,iJ,iK,u127,iL,iM,iO,u131,iP,iQ,iR,iT,iU,iV,u138,u139,iW,iY,iZ,jc,jd,je,jf,jg,jh],[]⟩ w:=by
 have hd:decide (fuel<=0)=false:=by simp;omega
 have i0:(0:Int)<=(k:Int):=by omega
 have j0:(k:Int)<(ay.length:Int):=by omega
 have k1:(k:Int)<=1000000:=by omega
 have HT:Hid (∀n,Calls prog 54 #[Pt M 0,Im (m.aF.getD a 0),Im (m.aF.getD b 0)] (w.drewN n) fun e w'=>e=.returned (.bool true)/\(∀m',Hx.push v (m.aF.getD a 0) (m.aF.getD b 0) m=some m'->cu B C w' M SB v m')/\Below B (w.drewN n) w'):=fun n=>by
  have:=Xa (hm.drewN n) (m.aF.getD a 0) (m.aF.getD b 0) (hm.yM b).2 h256;rw[hpu]at this⊢;exact this
 have hsl:=hc.slice;obtain⟨s0,s1,s2,s3,s4,s5,s6⟩:=hc.step k _ hst;simp only at s0 s1 s2 s3 s4 s5 s6;generalize hN:ay.length=N at *;have HN:Hid (ay.length=N):=hN;clear hN;have hs:=hm.aF;have ca:=hm.slot a ha;have cb':=hm.slot b hb;clear hm hc;have MZ:=hpu;generalize m.aF.getD a 0=xa at *;generalize m.aF.getD b 0=xb at *;have HP:Hid (Hx.push v xa xb m=some m2):=hpu;clear hpu MZ;generalize m.aF.length=len at *;have i1:(0:Int)<=(a:Int):=by omega
 have j1:(a:Int)<(len:Int):=by omega
 have i2:(0:Int)<=(b:Int):=by omega
 have j2:(b:Int)<(len:Int):=by omega
 conv=>arg 2;whnf
 go_wp2_with fail;refine fC 23 (by kernel_rfl) (by kernel_rfl) ?_;simp only[List.take_succ_cons,List.take_zero,List.drop_succ_cons,List.drop_zero];repeat (go_big_quiet_step (fail))
 refine wpQuiet_nil ?_;intro _ hw';obtain⟨n3,hw''⟩:=hw';subst hw'';go_wp2_with fail;refine(HT.out n3).mono ?_;rintro e w2 ⟨rfl,hm2,hb2⟩;go_wp2;go_step3;refine hgo _ _ ?_ (hm2 _ HP.out) ((below_drewN (Below.refl B w) n3).trans hb2);unfold mW
 (repeat apply Exists.intro)
 rfl
set_option maxRecDepth 1000000 in
theorem ahe(H:Nat)(vv rv:Value)(fuel:Int)(k:Nat)(u4 u7 u11 u13 u14 u15 u16 ji jk jl u20 u21 u22 u23 u24 u25 u26 u27 u28 u29 u30 u31 u32 u33 u34 u35 u36 u37 u38 jm u40 jo u42 jq u44 u45 u46 jr u48 u49 jv u51 jw u53 jy u55 jA jB u58 u59 u60 u61 jC u63 u64 jD u66 jE u68 u69 u70 jF u72 u73 jG u75 jH jI jJ jK jL jM jO jP jQ jR jS jT jU jV jW jX jY u93 jZ ku kC kD kE kF gG gI gJ gK gQ u105 gU gV gW gX gY gZ ig iq iw iy iC iD iE u119 iF iG iH iI u124 iJ iK u127 iL iM iO u131 iP iQ iR iT iU iV u138 u139 iW iY iZ jc jd je jf jg jh:Value)(Q:Exit->Act->World->Prop)(hf:0<fuel)(hfm:fuel<=9223372036854775807)(hk:k<ay.length)(hlen:ay.length<=1000000)
 (hm:cu B C w M SB v m)(hc:nM B w cb co sb so cap ay)(a b:Nat)(c d dp t:Int)(hst:ay[k]? =some ⟨36,a,b,c,d,dp,t⟩)(ha:a<m.aF.length)(hb:b<m.aF.length)(h256:m.aY.length<=256)(hpu:Hx.push v (m.aF.getD a 0) (m.aF.getD b 0) m=none)
 (hgo:∀a' w',zk cb co H M vv rv 1 a'->Below B w w'->Q (.goto 0) a' w'):
 Code.wp prog (tC Tryz.f16 1) Q ⟨#[Pt cb co,vv,rv,Im fuel,u4,Pt H 0,Pt (H+1) 0,u7,Pt (H+1+1) 0,Pt M 0,Im k,u11,.int .u8 0,u13,u14,u15,u16,ji,jk,jl,u20,u21,u22,u23,u24,u25,u26,u27,u28,u29,u30,u31,u32,u33,u34,u35,u36,u37,u38,jm,u40,jo,u42,jq,u44,u45,u46,jr,u48,u49,jv,u51,jw,u53,jy,u55,jA,jB,u58,u59,u60,u61,jC,u63,u64,jD,u66,jE,u68,u69,u70,jF,u72,u73,jG,u75,jH,jI,jJ,jK,jL,jM,jO,jP,jQ,jR,jS,jT,jU,jV,jW,jX,jY,u93,jZ,ku,kC,kD,kE,kF,gG,gI,gJ,gK,gQ,u105,gU,gV,gW,gX,gY,gZ,ig,iq,iw,iy,iC,iD,iE,u119,iF,iG,iH,iI,u124,iJ,iK,u127,iL,iM,iO,u131,iP,iQ,iR,iT,iU,iV,u138,u139,iW,iY,iZ,jc,jd,je,jf,jg,jh],[]⟩ w:=by
 have hd:decide (fuel<=0)=false:=by simp;omega
 have i0:(0:Int)<=(k:Int):=by omega
 have j0:(k:Int)<(ay.length:Int):=by omega
 have k1:(k:Int)<=1000000:=by omega
 have HT:Hid (∀n,Calls prog 54 #[Pt M 0,Im (m.aF.getD a 0),Im (m.aF.getD b 0)] (w.drewN n) fun e w'=>e=.returned (.bool false)/\(∀m',Hx.push v (m.aF.getD a 0) (m.aF.getD b 0) m=some m'->cu B C w' M SB v m')/\Below B (w.drewN n) w'):=fun n=>by
  have:=Xa (hm.drewN n) (m.aF.getD a 0) (m.aF.getD b 0) (hm.yM b).2 h256;rw[hpu]at this⊢;exact this
 have hsl:=hc.slice;obtain⟨s0,s1,s2,s3,s4,s5,s6⟩:=hc.step k _ hst;simp only at s0 s1 s2 s3 s4 s5 s6;generalize hN:ay.length=N at *;have HN:Hid (ay.length=N):=hN;clear hN;have hs:=hm.aF;have ca:=hm.slot a ha;have cb':=hm.slot b hb;clear hm hc;have MZ:=hpu;generalize m.aF.getD a 0=xa at *;generalize m.aF.getD b 0=xb at *;have HP:Hid (Hx.push v xa xb m=none):=hpu;clear hpu MZ;generalize m.aF.length=len at *;have i1:(0:Int)<=(a:Int):=by omega
 have j1:(a:Int)<(len:Int):=by omega
 have i2:(0:Int)<=(b:Int):=by omega
 have j2:(b:Int)<(len:Int):=by omega
 conv=>arg 2;whnf
 go_wp2_with fail;refine fC 23 (by kernel_rfl) (by kernel_rfl) ?_;simp only[List.take_succ_cons,List.take_zero,List.drop_succ_cons,List.drop_zero];repeat (go_big_quiet_step (fail))
 refine wpQuiet_nil ?_;intro _ hw';obtain⟨n3,hw''⟩:=hw';subst hw'';go_wp2_with fail;refine(HT.out n3).mono ?_;rintro e w2 ⟨rfl,hm2,hb2⟩;go_wp2;go_step3;refine hgo _ _ ?_ ((below_drewN (Below.refl B w) n3).trans hb2);unfold zk
 (repeat apply Exists.intro)
 rfl
set_option maxRecDepth 1000000 in
theorem ahk(H:Nat)(vv rv:Value)(fuel:Int)(k:Nat)(u4 u7 u11 u13 u14 u15 u16 ji jk jl u20 u21 u22 u23 u24 u25 u26 u27 u28 u29 u30 u31 u32 u33 u34 u35 u36 u37 u38 jm u40 jo u42 jq u44 u45 u46 jr u48 u49 jv u51 jw u53 jy u55 jA jB u58 u59 u60 u61 jC u63 u64 jD u66 jE u68 u69 u70 jF u72 u73 jG u75 jH jI jJ jK jL jM jO jP jQ jR jS jT jU jV jW jX jY u93 jZ ku kC kD kE kF gG gI gJ gK gQ u105 gU gV gW gX gY gZ ig iq iw iy iC iD iE u119 iF iG iH iI u124 iJ iK u127 iL iM iO u131 iP iQ iR iT iU iV u138 u139 iW iY iZ jc jd je jf jg jh:Value)(Q:Exit->Act->World->Prop)(hf:0<fuel)(hfm:fuel<=9223372036854775807)(hk:k<ay.length)(hlen:ay.length<=1000000)
 (hm:cu B C w M SB v m)(hc:nM B w cb co sb so cap ay)(s:St)(hst:ay[k]? =some s)(hs:s.ML m.aF.length)(q1:(s.op==1)=false)(q2:(s.op==2)=false)(q3:(s.op==3)=false)(q4:(s.op==4)=false)(q5:(s.op==5)=false)(q6:(s.op==0)=false)(q7:(s.op==36)=false)
 (hgo:∀a' w',mW cb co H M vv rv (fuel-1) (k+1) a'->cu B C w' M SB v (Hx.work v s m)->Below B w w'->Q (.goto 1) a' w'):
 Code.wp prog (tC Tryz.f16 1) Q ⟨#[Pt cb co,vv,rv,Im fuel,u4,Pt H 0,Pt (H+1) 0,u7,Pt (H+1+1) 0,Pt M 0,Im k,u11,.int .u8 0,u13,u14,u15,u16,ji,jk,jl,u20,u21,u22,u23,u24,u25,u26,u27,u28,u29,u30,u31,u32,u33,u34,u35,u36,u37,u38,jm,u40,jo,u42,jq,u44,u45,u46,jr,u48,u49,jv,u51,jw,u53,jy,u55,jA,jB,u58,u59,u60,u61,jC,u63,u64,jD,u66,jE,u68,u69,u70,jF,u72,u73,jG,u75,jH,jI,jJ,jK,jL,jM,jO,jP,jQ,jR,jS,jT,jU,jV,jW,jX,jY,u93,jZ,ku,kC,kD,kE,kF,gG,gI,gJ,gK,gQ,u105,gU,gV,gW,gX,gY,gZ,ig,iq,iw,iy,iC,iD,iE,u119,iF,iG,iH,iI,u124,iJ,iK,u127,iL,iM,iO,u131,iP,iQ,iR,iT,iU,iV,u138,u139,iW,iY,iZ,jc,jd,je,jf,jg,jh],[]⟩ w:=by
 have hd:decide (fuel<=0)=false:=by simp;omega
 have i0:(0:Int)<=(k:Int):=by omega
 have j0:(k:Int)<(ay.length:Int):=by omega
 have k1:(k:Int)<=1000000:=by omega
 have hw:=ajw hm sb (so+k * 7) s hc.wI (hc.step k _ hst) hs;have HW:Hid (Calls prog 55 #[Pt M 0,Pt sb (so+k * 7)] w fun e w'=>e=.returned (.tuple #[])/\cu B C w' M SB v (Hx.work v s m)/\Below B w w'):=hw;clear hw;have hsl:=hc.slice;obtain⟨s0,s1,s2,s3,s4,s5,s6⟩:=hc.step k _ hst;generalize hN:ay.length=N at *;have HN:Hid (ay.length=N):=hN;clear hN;clear hm hc
 conv=>arg 2;whnf
 go_wp2_with fail;refine(HW.out).mono ?_;rintro e w2 ⟨rfl,hm2,hb2⟩;go_wp2;go_step3;refine hgo _ _ ?_ hm2 hb2;unfold mW
 (repeat apply Exists.intro)
 rfl
def qK(w:World)(H:Nat):Prop:=
 w.cell? (Ad (H+1+1) 0)=some (.int .u8 0)/\w.cell? (Ad (H+1+1) 1)=some (Nl)/\(∀j,j<8->w.cell? (Ad (H+1+1) (2+j))=some (Im 0))/\(∀j,w.frozen? (Ad (H+1+1) j)=false)
theorem qK.aN{B:Nat}{w w':World}{H:Nat}(h:qK w H)(hb:Below B w w')(hB:H+1+1<B):qK w' H:=by
 obtain⟨h1,h2,h3,h4⟩:=h;have hc:∀o,w'.cell? (Ad (H+1+1) o)=w.cell? (Ad (H+1+1) o):=fun o=>hb.cell (p:=(Ad (H+1+1) o)) hB;exact⟨by rw[hc];exact h1,by rw[hc];exact h2,fun j hj=>by rw[hc];exact h3 j hj,fun j=>by rw[hb.frozen (p:=(Ad (H+1+1) j)) hB];exact h4 j⟩
def Ah(w:World)(H:Nat)(st:Int)(va:Value)(x0 x1 x2 x3 x4 x5 x6 x7:Int):World:=
 ((((((((((w.setCell (Ad (H+1+1) 0) (.int .u8 st)).setCell (Ad (H+1+1) 1) va).setCell (Ad (H+1+1) 2) (Im x0)).setCell (Ad (H+1+1) 3) (Im x1)).setCell (Ad (H+1+1) 4) (Im x2)).setCell (Ad (H+1+1) 5) (Im x3)).setCell (Ad (H+1+1) 6) (Im x4)).setCell (Ad (H+1+1) 7) (Im x5)).setCell (Ad (H+1+1) 8) (Im x6)).setCell (Ad (H+1+1) 9) (Im x7))
set_option maxRecDepth 1000000 in
theorem ahg(H:Nat)(vv rv:Value)(fuel:Int)(k:Nat)(u4 u7 u11 u13 u14 u15 u16 ji jk jl u20 u21 u22 u23 u24 u25 u26 u27 u28 u29 u30 u31 u32 u33 u34 u35 u36 u37 u38 jm u40 jo u42 jq u44 u45 u46 jr u48 u49 jv u51 jw u53 jy u55 jA jB u58 u59 u60 u61 jC u63 u64 jD u66 jE u68 u69 u70 jF u72 u73 jG u75 jH jI jJ jK jL jM jO jP jQ jR jS jT jU jV jW jX jY u93 jZ ku kC kD kE kF gG gI gJ gK gQ u105 gU gV gW gX gY gZ ig iq iw iy iC iD iE u119 iF iG iH iI u124 iJ iK u127 iL iM iO u131 iP iQ iR iT iU iV u138 u139 iW iY iZ jc jd je jf jg jh:Value)(Q:Exit->Act->World->Prop)(hf:0<fuel)(hfm:fuel<=9223372036854775807)(hk:k<ay.length)(hlen:ay.length<=1000000)
 (hm:cu B C w M SB v m)(hc:nM B w cb co sb so cap ay)(a b c d dp t:Int)(hst:ay[k]? =some ⟨1,a,b,c,d,dp,t⟩)(h8:8<=m.aF.length)(hH:H+1+1<B)(hres:qK w H)
 (hret:∀a' w1 va,w1.ownsRow C 76 2 va m.aY.length (kZ m.aY)->(∃a n c,va=.slice a n c)->Below B w w1->qK w1 H->a'.tmps.getD 8 undef=Pt (H+1+1) 0->a'.defers=[]->Q .ret a' (Ah w1 H 0 va (m.aF.getD 0 0) (m.aF.getD 1 0) (m.aF.getD 2 0) (m.aF.getD 3 0) (m.aF.getD 4 0) (m.aF.getD 5 0) (m.aF.getD 6 0) (m.aF.getD 7 0))):
 Code.wp prog (tC Tryz.f16 1) Q ⟨#[Pt cb co,vv,rv,Im fuel,u4,Pt H 0,Pt (H+1) 0,u7,Pt (H+1+1) 0,Pt M 0,Im k,u11,.int .u8 0,u13,u14,u15,u16,ji,jk,jl,u20,u21,u22,u23,u24,u25,u26,u27,u28,u29,u30,u31,u32,u33,u34,u35,u36,u37,u38,jm,u40,jo,u42,jq,u44,u45,u46,jr,u48,u49,jv,u51,jw,u53,jy,u55,jA,jB,u58,u59,u60,u61,jC,u63,u64,jD,u66,jE,u68,u69,u70,jF,u72,u73,jG,u75,jH,jI,jJ,jK,jL,jM,jO,jP,jQ,jR,jS,jT,jU,jV,jW,jX,jY,u93,jZ,ku,kC,kD,kE,kF,gG,gI,gJ,gK,gQ,u105,gU,gV,gW,gX,gY,gZ,ig,iq,iw,iy,iC,iD,iE,u119,iF,iG,iH,iI,u124,iJ,iK,u127,iL,iM,iO,u131,iP,iQ,iR,iT,iU,iV,u138,u139,iW,iY,iZ,jc,jd,je,jf,jg,jh],[]⟩ w:=by
 have hd:decide (fuel<=0)=false:=by simp;omega
 have i0:(0:Int)<=(k:Int):=by omega
 have j0:(k:Int)<(ay.length:Int):=by omega
 have k1:(k:Int)<=1000000:=by omega
 have HD:Hid (Calls prog 51 #[Pt M 0] w fun e w'=>∃va,e=.returned (qV 0 va m.aF)/\w'.ownsRow C 76 2 va m.aY.length (kZ m.aY)/\Below B w w'):=aa7 hm h8;have HR:Hid (qK w H):=hres;have hsl:=hc.slice;obtain⟨s0,s1,s2,s3,s4,s5,s6⟩:=hc.step k _ hst;simp only at s0 s1 s2 s3 s4 s5 s6;generalize hN:ay.length=N at *;have HN:Hid (ay.length=N):=hN;clear hN;clear hm hc hres
 conv=>arg 2;whnf
 go_wp2_with fail;refine(HD.out).mono ?_;rintro e w1 ⟨va,rfl,hown,hb1⟩;obtain⟨aa,cc,hval⟩:∃aa cc,va=.slice aa m.aY.length cc:=by
  obtain⟨h1,h2⟩:=hown;rcases h2 with⟨h3,h4⟩|⟨g,cap,cur,h3,h4⟩
  .exact⟨none,0,by rw[h3,h4]⟩
  .exact⟨_,_,h3⟩
 subst hval;have hr:=HR.out.aN hb1 hH;have HR1:Hid (qK w1 H):=hr;obtain⟨c0,c1,c2,cf⟩:=hr;have d0:=c2 0 (by omega);have d1:=c2 1 (by omega);have d2:=c2 2 (by omega);have d3:=c2 3 (by omega);have d4:=c2 4 (by omega);have d5:=c2 5 (by omega);have d6:=c2 6 (by omega);have d7:=c2 7 (by omega);simp only[Nat.reduceAdd]at d0 d1 d2 d3 d4 d5 d6 d7;have HO:Hid (w1.ownsRow C 76 2 (.slice aa m.aY.length cc) m.aY.length (kZ m.aY)/\Below B w w1):=⟨hown,hb1⟩;clear hown hb1 c2;unfold qV;go_wp2;exact hret _ w1 _ HO.out.1 ⟨_,_,_,rfl⟩ HO.out.2 HR1.out rfl rfl
end
end
end Go.Proofs.YthllhabjfchgiaaGreatDoor
