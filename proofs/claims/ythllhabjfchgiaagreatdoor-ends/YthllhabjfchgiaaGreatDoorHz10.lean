import Derived.Test.YthllhabjfchgiaaGreatDoorHz09
set_option maxRecDepth 100000
set_option maxHeartbeats 8000000
namespace Go.Proofs.YthllhabjfchgiaaGreatDoor
open _root_.Go.Proofs.Tryz
section
open Go.RowKit
open Hx (Rd Pk Vw St Mc aZ Out)
section
variable {B C:Nat}{w:World}{M SB:Nat}{v:Vw}{m:Mc}{cb co sb so cap:Nat}{ay:List St}{H:Nat}{vv rv:Value}
theorem KU(m:Mc)(i x:Int):(m.put i x).aF.length=m.aF.length:=by simp[Hx.Mc.put]
theorem adK(m:Mc)(i x:Int):(m.pX i x).aF.length=m.aF.length:=rfl
theorem adJ(s:St)(b:Bool)(m:Mc):(Hx.choose s b m).aF.length=m.aF.length:=by
 unfold Hx.choose;split
 .rw[KU,KU]
 .rfl
theorem adL(v:Vw)(s:St)(m:Mc):(Hx.work v s m).aF.length=m.aF.length:=by
 unfold Hx.work;repeat' split
 all_goals first|exact KU _ _ _|exact adJ _ _ _
theorem ZI(s:St)(b:Bool)(m:Mc):(Hx.choose s b m).aY=m.aY:=by unfold Hx.choose;split<;>rfl
theorem ZL(v:Vw)(s:St)(m:Mc):(Hx.work v s m).aY=m.aY:=by
 unfold Hx.work;repeat' split
 all_goals first|rfl|exact ZI _ _ _
theorem Pm(s:St)(k:Int)(m:Mc):(Hx.turn s k m).1.aF.length=m.aF.length:=by
 unfold Hx.turn;split
 .rfl
 .rw[adK,KU]
theorem Nz(s:St)(k:Int)(m:Mc):(Hx.turn s k m).1.aY=m.aY:=by unfold Hx.turn;split<;>rfl
theorem FD(s:St)(k:Int)(m:Mc):(Hx.turn s k m).2=s.to\/(Hx.turn s k m).2=k+1:=by unfold Hx.turn;split<;>simp
theorem af4{v:Vw}{i j:Int}{m m2:Mc}(h:Hx.push v i j m=some m2)(ha:m.aY.length<=256):m2.aF.length=m.aF.length/\m2.aY.length<=256:=by
 unfold Hx.push at h;split at h
 .split at h
  .cases h
  .cases h;simp;omega
 .cases h;exact⟨rfl,ha⟩
structure eP(B C:Nat)(w:World)(M SB:Nat)(v:Vw)(cb co sb so cap:Nat)(ay:List St)(n:Nat)(H:Nat)(bG:List Int)(o:Out)(fuel k:Int)(m:Mc):Prop where
 akn:cu B C w M SB v m
 code:nM B w cb co sb so cap ay
 res:qK w H
 len:m.aF.length=n
 aY:m.aY.length<=256
 k0:0<=k
 k1:k<ay.length
 ajO:fuel<=9223372036854775807
 out:Hx.runs v ay bG fuel.toNat k m=o
theorem ahm{v:Vw}{ay:List St}{bG:List Int}{fuel k:Int}{m:Mc}{s:St}(hf:0<fuel)(hs:ay[k.toNat]? =some s):
 Hx.runs v ay bG fuel.toNat k m=match Hx.step v ay bG k.toNat s m with
  | .inl o=>o
  | .inr (k',m')=>Hx.runs v ay bG (fuel-1).toNat k' m':=by
 obtain⟨f,hf'⟩:∃f,fuel.toNat=f+1:=⟨fuel.toNat-1,by omega⟩;have e:(fuel-1).toNat=f:=by omega
 rw[hf',e,Hx.runs,hs];cases hh:Hx.step v ay bG k.toNat s m<;>simp[hh]
set_option maxRecDepth 1000000 in
theorem Xy{n:Nat}{bG:List Int}{o:Out}{fuel k:Int}(hfit:Hx.Fits ay n)(h8:8<=n)(hH:H+1+1<B)(a:Act)(ha:mW cb co H M vv rv fuel k a)(hg:eP B C w M SB v cb co sb so cap ay n H bG o fuel k m)(Q:Exit->Act->World->Prop)
 (hgo:∀a' w' fuel' k' m',mW cb co H M vv rv fuel' k' a'->eP B C w' M SB v cb co sb so cap ay n H bG o fuel' k' m'->Below B w w'->0<fuel->fuel'=fuel-1->Q (.goto 1) a' w')
 (hwr:∀a' w' st,zk cb co H M vv rv st a'->o=⟨st,bG,[]⟩->qK w' H->Below B w w'->Q (.goto 0) a' w')
 (hret:∀a' w1 va,o=⟨0,m.aF,m.aY⟩->w1.ownsRow C 76 2 va m.aY.length (kZ m.aY)->(∃a n c,va=.slice a n c)->Below B w w1->qK w1 H->a'.tmps.getD 8 undef=Pt (H+1+1) 0->a'.defers=[]->Q .ret a' (Ah w1 H 0 va (m.aF.getD 0 0) (m.aF.getD 1 0) (m.aF.getD 2 0) (m.aF.getD 3 0) (m.aF.getD 4 0) (m.aF.getD 5 0) (m.aF.getD 6 0) (m.aF.getD 7 0))):
 Code.wp prog (tC Tryz.f16 1) Q a w:=by
 obtain⟨hm,hc,hr,hn,hac,hk0,hk1,hfm,hout⟩:=hg;obtain⟨k,rfl⟩:=Int.eq_ofNat_of_zero_le hk0;have hkn:k<ay.length:=by omega
 have hlen:=hfit.len;obtain⟨s,hst⟩:∃s,ay[k]? =some s:=⟨ay[k],by simp[hkn]⟩;have hfs:=hfit.each k s hst;unfold mW at ha;obtain⟨u4,ha⟩:=ha;obtain⟨u7,ha⟩:=ha;obtain⟨u11,ha⟩:=ha;obtain⟨u13,ha⟩:=ha;obtain⟨u14,ha⟩:=ha;obtain⟨u15,ha⟩:=ha;obtain⟨u16,ha⟩:=ha;obtain⟨ji,ha⟩:=ha;obtain⟨jk,ha⟩:=ha;obtain⟨jl,ha⟩:=ha;obtain⟨u20,ha⟩:=ha;obtain⟨u21,ha⟩:=ha;obtain⟨u22,ha⟩:=ha;obtain⟨u23,ha⟩:=ha;obtain⟨u24,ha⟩:=ha;obtain⟨u25,ha⟩:=ha;obtain⟨u26,ha⟩:=ha;obtain⟨u27,ha⟩:=ha;obtain⟨u28,ha⟩:=ha;obtain⟨u29,ha⟩:=ha;obtain⟨u30,ha⟩:=ha;obtain⟨u31,ha⟩:=ha;obtain⟨u32,ha⟩:=ha;obtain⟨u33,ha⟩:=ha;obtain⟨u34,ha⟩:=ha;obtain⟨u35,ha⟩:=ha;obtain⟨u36,ha⟩:=ha;obtain⟨u37,ha⟩:=ha;obtain⟨u38,ha⟩:=ha;obtain⟨jm,ha⟩:=ha;obtain⟨u40,ha⟩:=ha;obtain⟨jo,ha⟩:=ha;obtain⟨u42,ha⟩:=ha;obtain⟨jq,ha⟩:=ha;obtain⟨u44,ha⟩:=ha;obtain⟨u45,ha⟩:=ha;obtain⟨u46,ha⟩:=ha;obtain⟨jr,ha⟩:=ha;obtain⟨u48,ha⟩:=ha;obtain⟨u49,ha⟩:=ha;obtain⟨jv,ha⟩:=ha;obtain⟨u51,ha⟩:=ha;obtain⟨jw,ha⟩:=ha;obtain⟨u53,ha⟩:=ha;obtain⟨jy,ha⟩:=ha;obtain⟨u55,ha⟩:=ha;obtain⟨jA,ha⟩:=ha;obtain⟨jB,ha⟩:=ha;obtain⟨u58,ha⟩:=ha;obtain⟨u59,ha⟩:=ha;obtain⟨u60,ha⟩:=ha;obtain⟨u61,ha⟩:=ha;obtain⟨jC,ha⟩:=ha;obtain⟨u63,ha⟩:=ha;obtain⟨u64,ha⟩:=ha;obtain⟨jD,ha⟩:=ha;obtain⟨u66,ha⟩:=ha;obtain⟨jE,ha⟩:=ha;obtain⟨u68,ha⟩:=ha;obtain⟨u69,ha⟩:=ha;obtain⟨u70,ha⟩:=ha;obtain⟨jF,ha⟩:=ha;obtain⟨u72,ha⟩:=ha;obtain⟨u73,ha⟩:=ha;obtain⟨jG,ha⟩:=ha;obtain⟨u75,ha⟩:=ha;obtain⟨jH,ha⟩:=ha;obtain⟨jI,ha⟩:=ha;obtain⟨jJ,ha⟩:=ha;obtain⟨jK,ha⟩:=ha;obtain⟨jL,ha⟩:=ha;obtain⟨jM,ha⟩:=ha;obtain⟨jO,ha⟩:=ha;obtain⟨jP,ha⟩:=ha
 obtain⟨jQ,ha⟩:=ha;obtain⟨jR,ha⟩:=ha;obtain⟨jS,ha⟩:=ha;obtain⟨jT,ha⟩:=ha;obtain⟨jU,ha⟩:=ha;obtain⟨jV,ha⟩:=ha;obtain⟨jW,ha⟩:=ha;obtain⟨jX,ha⟩:=ha;obtain⟨jY,ha⟩:=ha;obtain⟨u93,ha⟩:=ha;obtain⟨jZ,ha⟩:=ha;obtain⟨ku,ha⟩:=ha;obtain⟨kC,ha⟩:=ha;obtain⟨kD,ha⟩:=ha;obtain⟨kE,ha⟩:=ha;obtain⟨kF,ha⟩:=ha;obtain⟨gG,ha⟩:=ha;obtain⟨gI,ha⟩:=ha;obtain⟨gJ,ha⟩:=ha;obtain⟨gK,ha⟩:=ha;obtain⟨gQ,ha⟩:=ha;obtain⟨u105,ha⟩:=ha;obtain⟨gU,ha⟩:=ha;obtain⟨gV,ha⟩:=ha;obtain⟨gW,ha⟩:=ha;obtain⟨gX,ha⟩:=ha;obtain⟨gY,ha⟩:=ha;obtain⟨gZ,ha⟩:=ha;obtain⟨ig,ha⟩:=ha;obtain⟨iq,ha⟩:=ha;obtain⟨iw,ha⟩:=ha;obtain⟨iy,ha⟩:=ha;obtain⟨iC,ha⟩:=ha;obtain⟨iD,ha⟩:=ha;obtain⟨iE,ha⟩:=ha;obtain⟨u119,ha⟩:=ha;obtain⟨iF,ha⟩:=ha;obtain⟨iG,ha⟩:=ha;obtain⟨iH,ha⟩:=ha;obtain⟨iI,ha⟩:=ha;obtain⟨u124,ha⟩:=ha;obtain⟨iJ,ha⟩:=ha;obtain⟨iK,ha⟩:=ha;obtain⟨u127,ha⟩:=ha;obtain⟨iL,ha⟩:=ha;obtain⟨iM,ha⟩:=ha;obtain⟨iO,ha⟩:=ha;obtain⟨u131,ha⟩:=ha;obtain⟨iP,ha⟩:=ha;obtain⟨iQ,ha⟩:=ha;obtain⟨iR,ha⟩:=ha;obtain⟨iT,ha⟩:=ha;obtain⟨iU,ha⟩:=ha;obtain⟨iV,ha⟩:=ha;obtain⟨u138,ha⟩:=ha;obtain⟨u139,ha⟩:=ha;obtain⟨iW,ha⟩:=ha;obtain⟨iY,ha⟩:=ha;obtain⟨iZ,ha⟩:=ha;obtain⟨jc,ha⟩:=ha;obtain⟨jd,ha⟩:=ha;obtain⟨je,ha⟩:=ha;obtain⟨jf,ha⟩:=ha;obtain⟨jg,ha⟩:=ha;obtain⟨jh,ha⟩:=ha;subst ha;by_cases hf:0<fuel
 .have hrun:=ahm (v:=v) (bG:=bG) (m:=m) hf (show ay[((k:Nat):Int).toNat]? =some s from hst);rw[hout]at hrun;simp only[Int.toNat_natCast]at hrun;obtain⟨q,a,b,c,d,dp,t⟩:=s;have aN:∀w',Below B w w'->nM B w' cb co sb so cap ay/\qK w' H:=fun w' hb=>⟨hc.aN hb,hr.aN hb hH⟩;by_cases q1:q=1
  .subst q1;refine ahg H vv rv fuel k u4 u7 u11 u13 u14 u15 u16 ji jk jl u20 u21 u22 u23 u24 u25 u26 u27 u28 u29 u30 u31 u32 u33 u34 u35 u36 u37 u38 jm u40 jo u42 jq u44 u45 u46 jr u48 u49 jv u51 jw u53 jy u55 jA jB u58 u59 u60 u61 jC u63 u64 jD u66 jE u68 u69 u70 jF u72 u73 jG u75 jH jI jJ jK jL jM jO jP jQ jR jS jT jU jV jW jX jY u93 jZ ku kC kD kE kF gG gI gJ gK gQ u105 gU gV gW gX gY gZ ig iq iw iy iC iD iE u119 iF iG iH iI u124 iJ iK u127 iL iM iO u131 iP iQ iR iT iU iV u138 u139 iW iY iZ jc jd je jf jg jh Q hf hfm hkn hlen hm hc a b c d dp t hst (by omega) hH hr ?_;intro a' w1 va h1 h2 h3 h4 h5 h6;exact hret a' w1 va (by simpa [Hx.step]using hrun) h1 h2 h3 h4 h5 h6
  by_cases q3:q=3
  .subst q3;have hto:=hfs.aa9 rfl;refine ag8 H vv rv fuel k u4 u7 u11 u13 u14 u15 u16 ji jk jl u20 u21 u22 u23 u24 u25 u26 u27 u28 u29 u30 u31 u32 u33 u34 u35 u36 u37 u38 jm u40 jo u42 jq u44 u45 u46 jr u48 u49 jv u51 jw u53 jy u55 jA jB u58 u59 u60 u61 jC u63 u64 jD u66 jE u68 u69 u70 jF u72 u73 jG u75 jH jI jJ jK jL jM jO jP jQ jR jS jT jU jV jW jX jY u93 jZ ku kC kD kE kF gG gI gJ gK gQ u105 gU gV gW gX gY gZ ig iq iw iy iC iD iE u119 iF iG iH iI u124 iJ iK u127 iL iM iO u131 iP iQ iR iT iU iV u138 u139 iW iY iZ jc jd je jf jg jh Q hf hfm hkn hlen hc a b c d dp t hst ?_;rintro a' w' h1 rfl;exact hgo a' _ _ t m h1 ⟨hm,hc,hr,hn,hac,hto.1,hto.2,by omega,by rw[hrun];simp[Hx.step]⟩ (Below.refl _ _) hf rfl
  by_cases q0:q=0
  .subst q0;obtain⟨lp,hl0,hlp,hl1,ht0,ht1,hlb,hd0,hd1⟩:=hfs.ends rfl;simp only at hl0 hlp hl1;obtain⟨t,rfl⟩:=Int.eq_ofNat_of_zero_le hl0;simp only[Int.toNat_natCast]at hlp;refine ag9 H vv rv fuel k u4 u7 u11 u13 u14 u15 u16 ji jk jl u20 u21 u22 u23 u24 u25 u26 u27 u28 u29 u30 u31 u32 u33 u34 u35 u36 u37 u38 jm u40 jo u42 jq u44 u45 u46 jr u48 u49 jv u51 jw u53 jy u55 jA jB u58 u59 u60 u61 jC u63 u64 jD u66 jE u68 u69 u70 jF u72 u73 jG u75 jH jI jJ jK jL jM jO jP jQ jR jS jT jU jV jW jX jY u93 jZ ku kC kD kE kF gG gI gJ gK gQ u105 gU gV gW gX gY gZ ig iq iw iy iC iD iE u119 iF iG iH iI u124 iJ iK u127 iL iM iO u131 iP iQ iR iT iU iV u138 u139 iW iY iZ jc jd je jf jg jh Q hf hfm hkn hlen hm hc a b c d dp t hst lp hlp (by rw[hn];exact hlb) ⟨hd0,hd1⟩ ?_;intro a' w' h1 h2 h3;obtain⟨k3,k4⟩:=aN w' h3;refine hgo a' w' _ _ _ h1 ⟨h2,k3,k4,by rw[Pm];exact hn,by rw[Nz];exact hac,?_,?_,by omega,by rw[hrun];simp[Hx.step,hlp]⟩ h3 hf rfl
   .rcases FD lp t m with e|e<;>rw[e]<;>omega
   .rcases FD lp t m with e|e<;>rw[e]<;>omega
  have hnx:=hfs.next q1 q3 q0;by_cases q2:q=2
  .subst q2;obtain⟨⟨hs0,hs1⟩,KG,KH⟩:=hfs.ifs rfl;simp only at hs0 hs1 KG KH;obtain⟨a,rfl⟩:=Int.eq_ofNat_of_zero_le hs0;refine aha H vv rv fuel k u4 u7 u11 u13 u14 u15 u16 ji jk jl u20 u21 u22 u23 u24 u25 u26 u27 u28 u29 u30 u31 u32 u33 u34 u35 u36 u37 u38 jm u40 jo u42 jq u44 u45 u46 jr u48 u49 jv u51 jw u53 jy u55 jA jB u58 u59 u60 u61 jC u63 u64 jD u66 jE u68 u69 u70 jF u72 u73 jG u75 jH jI jJ jK jL jM jO jP jQ jR jS jT jU jV jW jX jY u93 jZ ku kC kD kE kF gG gI gJ gK gQ u105 gU gV gW gX gY gZ ig iq iw iy iC iD iE u119 iF iG iH iI u124 iJ iK u127 iL iM iO u131 iP iQ iR iT iU iV u138 u139 iW iY iZ jc jd je jf jg jh Q hf hfm hkn hlen hm hc a b c d dp t hst (by omega) ?_;rintro a' w' h1 ⟨i,rfl⟩;have hb:Below B w (w.drewN i):=below_drewN (Below.refl _ _) i;obtain⟨k3,k4⟩:=aN _ hb;refine hgo a' _ _ _ m h1 ⟨hm.drewN i,k3,k4,hn,hac,?_,?_,by omega,by rw[hrun];simp[Hx.step,Hx.Mc.get]⟩ hb hf rfl
   .split<;>omega
   .split<;>omega
  by_cases q4:q=4
  .subst q4;obtain⟨KG,KH,⟨hb0,hb1⟩,⟨hc0,hc1⟩,hd0,hd1⟩:=hfs.bH rfl;simp only at KG KH hb0 hb1 hc0 hc1 hd0 hd1;obtain⟨b,rfl⟩:=Int.eq_ofNat_of_zero_le hb0;obtain⟨c,rfl⟩:=Int.eq_ofNat_of_zero_le hc0;obtain⟨dp,rfl⟩:=Int.eq_ofNat_of_zero_le hd0;refine ahb H vv rv fuel k u4 u7 u11 u13 u14 u15 u16 ji jk jl u20 u21 u22 u23 u24 u25 u26 u27 u28 u29 u30 u31 u32 u33 u34 u35 u36 u37 u38 jm u40 jo u42 jq u44 u45 u46 jr u48 u49 jv u51 jw u53 jy u55 jA jB u58 u59 u60 u61 jC u63 u64 jD u66 jE u68 u69 u70 jF u72 u73 jG u75 jH jI jJ jK jL jM jO jP jQ jR jS jT jU jV jW jX jY u93 jZ ku kC kD kE kF gG gI gJ gK gQ u105 gU gV gW gX gY gZ ig iq iw iy iC iD iE u119 iF iG iH iI u124 iJ iK u127 iL iM iO u131 iP iQ iR iT iU iV u138 u139 iW iY iZ jc jd je jf jg jh Q hf hfm hkn hlen hm hc a b c d dp t hst (by omega) (by omega) (by omega) ?_;intro a' w' h1 h2 h3;obtain⟨k3,k4⟩:=aN w' h3;refine hgo a' w' _ _ _ h1 ⟨h2,k3,k4,by rw[Pm];exact hn,by rw[Nz];exact hac,?_,?_,by omega,by rw[hrun];simp[Hx.step]⟩ h3 hf rfl
   .rcases FD ⟨4,a,b,c,d,dp,t⟩ k (Hx.qp v ⟨4,a,b,c,d,dp,t⟩ m)with e|e<;>rw[e]
    .exact KG
    .omega
   .rcases FD ⟨4,a,b,c,d,dp,t⟩ k (Hx.qp v ⟨4,a,b,c,d,dp,t⟩ m)with e|e<;>rw[e]
    .exact KH
    .omega
  by_cases q5:q=5
  .subst q5;obtain⟨⟨hs0,hs1⟩,lp,hl0,hlp,hl1,ht0,ht1,hlb,hd0,hd1⟩:=hfs.FB rfl;simp only at hs0 hs1 hl0 hlp hl1;obtain⟨a,rfl⟩:=Int.eq_ofNat_of_zero_le hs0;by_cases hz:m.aF.getD a 0=0
   .obtain⟨t,rfl⟩:=Int.eq_ofNat_of_zero_le hl0;simp only[Int.toNat_natCast]at hlp;refine ahh H vv rv fuel k u4 u7 u11 u13 u14 u15 u16 ji jk jl u20 u21 u22 u23 u24 u25 u26 u27 u28 u29 u30 u31 u32 u33 u34 u35 u36 u37 u38 jm u40 jo u42 jq u44 u45 u46 jr u48 u49 jv u51 jw u53 jy u55 jA jB u58 u59 u60 u61 jC u63 u64 jD u66 jE u68 u69 u70 jF u72 u73 jG u75 jH jI jJ jK jL jM jO jP jQ jR jS jT jU jV jW jX jY u93 jZ ku kC kD kE kF gG gI gJ gK gQ u105 gU gV gW gX gY gZ ig iq iw iy iC iD iE u119 iF iG iH iI u124 iJ iK u127 iL iM iO u131 iP iQ iR iT iU iV u138 u139 iW iY iZ jc jd je jf jg jh Q hf hfm hkn hlen hm hc a b c d dp t hst (by omega) hz lp hlp (by rw[hn];exact hlb) ⟨hd0,hd1⟩ ?_;intro a' w' h1 h2 h3;obtain⟨k3,k4⟩:=aN w' h3;have hz':m.get (a:Int)=0:=by simpa [Hx.Mc.get]using hz
    refine hgo a' w' _ _ _ h1 ⟨h2,k3,k4,by rw[Pm];exact hn,by rw[Nz];exact hac,?_,?_,by omega,by rw[hrun];simp[Hx.step,hlp,hz']⟩ h3 hf rfl
    .rcases FD lp t m with e|e<;>rw[e]<;>omega
    .rcases FD lp t m with e|e<;>rw[e]<;>omega
   .refine ahj H vv rv fuel k u4 u7 u11 u13 u14 u15 u16 ji jk jl u20 u21 u22 u23 u24 u25 u26 u27 u28 u29 u30 u31 u32 u33 u34 u35 u36 u37 u38 jm u40 jo u42 jq u44 u45 u46 jr u48 u49 jv u51 jw u53 jy u55 jA jB u58 u59 u60 u61 jC u63 u64 jD u66 jE u68 u69 u70 jF u72 u73 jG u75 jH jI jJ jK jL jM jO jP jQ jR jS jT jU jV jW jX jY u93 jZ ku kC kD kE kF gG gI gJ gK gQ u105 gU gV gW gX gY gZ ig iq iw iy iC iD iE u119 iF iG iH iI u124 iJ iK u127 iL iM iO u131 iP iQ iR iT iU iV u138 u139 iW iY iZ jc jd je jf jg jh Q hf hfm hkn hlen hm hc a b c d dp t hst (by omega) hz ?_;rintro a' w' h1 ⟨i,rfl⟩;have hb:Below B w (w.drewN i):=below_drewN (Below.refl _ _) i;obtain⟨k3,k4⟩:=aN _ hb;have hz':¬m.get (a:Int)=0:=by simpa [Hx.Mc.get]using hz
    exact hgo a' _ _ _ m h1 ⟨hm.drewN i,k3,k4,hn,hac,by omega,by omega,by omega,by rw[hrun];simp[Hx.step,hz']⟩ hb hf rfl
  by_cases q6:q=36
  .subst q6;obtain⟨⟨hs0,hs1⟩,hs2,hs3⟩:=hfs.Dw rfl;simp only at hs0 hs1 hs2 hs3;obtain⟨a,rfl⟩:=Int.eq_ofNat_of_zero_le hs0;obtain⟨b,rfl⟩:=Int.eq_ofNat_of_zero_le hs2;have e0:Hx.push v (m.get (a:Int)) (m.get (b:Int)) m=Hx.push v (m.aF.getD a 0) (m.aF.getD b 0) m:=by simp[Hx.Mc.get]
   cases hpu:Hx.push v (m.aF.getD a 0) (m.aF.getD b 0) m with
   |none=>
    refine ahe H vv rv fuel k u4 u7 u11 u13 u14 u15 u16 ji jk jl u20 u21 u22 u23 u24 u25 u26 u27 u28 u29 u30 u31 u32 u33 u34 u35 u36 u37 u38 jm u40 jo u42 jq u44 u45 u46 jr u48 u49 jv u51 jw u53 jy u55 jA jB u58 u59 u60 u61 jC u63 u64 jD u66 jE u68 u69 u70 jF u72 u73 jG u75 jH jI jJ jK jL jM jO jP jQ jR jS jT jU jV jW jX jY u93 jZ ku kC kD kE kF gG gI gJ gK gQ u105 gU gV gW gX gY gZ ig iq iw iy iC iD iE u119 iF iG iH iI u124 iJ iK u127 iL iM iO u131 iP iQ iR iT iU iV u138 u139 iW iY iZ jc jd je jf jg jh Q hf hfm hkn hlen hm hc a b c d dp t hst (by omega) (by omega) hac hpu ?_;intro a' w' h1 h2;exact hwr a' w' 1 h1 (by rw[hrun];simp[Hx.step,e0.trans hpu]) (aN w' h2).2 h2
   |some m2=>
    refine ahf H vv rv fuel k u4 u7 u11 u13 u14 u15 u16 ji jk jl u20 u21 u22 u23 u24 u25 u26 u27 u28 u29 u30 u31 u32 u33 u34 u35 u36 u37 u38 jm u40 jo u42 jq u44 u45 u46 jr u48 u49 jv u51 jw u53 jy u55 jA jB u58 u59 u60 u61 jC u63 u64 jD u66 jE u68 u69 u70 jF u72 u73 jG u75 jH jI jJ jK jL jM jO jP jQ jR jS jT jU jV jW jX jY u93 jZ ku kC kD kE kF gG gI gJ gK gQ u105 gU gV gW gX gY gZ ig iq iw iy iC iD iE u119 iF iG iH iI u124 iJ iK u127 iL iM iO u131 iP iQ iR iT iU iV u138 u139 iW iY iZ jc jd je jf jg jh Q hf hfm hkn hlen hm hc a b c d dp t hst (by omega) (by omega) hac m2 hpu ?_;intro a' w' h1 h2 h3;obtain⟨k3,k4⟩:=aN w' h3;obtain⟨p1,p2⟩:=af4 hpu hac;exact hgo a' w' _ _ m2 h1 ⟨h2,k3,k4,by omega,p2,by omega,by omega,by omega,by rw[hrun];simp[Hx.step,e0.trans hpu]⟩ h3 hf rfl
  .refine ahk H vv rv fuel k u4 u7 u11 u13 u14 u15 u16 ji jk jl u20 u21 u22 u23 u24 u25 u26 u27 u28 u29 u30 u31 u32 u33 u34 u35 u36 u37 u38 jm u40 jo u42 jq u44 u45 u46 jr u48 u49 jv u51 jw u53 jy u55 jA jB u58 u59 u60 u61 jC u63 u64 jD u66 jE u68 u69 u70 jF u72 u73 jG u75 jH jI jJ jK jL jM jO jP jQ jR jS jT jU jV jW jX jY u93 jZ ku kC kD kE kF gG gI gJ gK gQ u105 gU gV gW gX gY gZ ig iq iw iy iC iD iE u119 iF iG iH iI u124 iJ iK u127 iL iM iO u131 iP iQ iR iT iU iV u138 u139 iW iY iZ jc jd je jf jg jh Q hf hfm hkn hlen hm hc _ hst (by rw[hn];exact hfs.DV q1 q2 q3 q4 q5 q0 q6) (by simpa using q1) (by simpa using q2) (by simpa using q3) (by simpa using q4) (by simpa using q5) (by simpa using q0) (by simpa using q6) ?_;intro a' w' h1 h2 h3;obtain⟨k3,k4⟩:=aN w' h3;exact hgo a' w' _ _ _ h1 ⟨h2,k3,k4,by rw[adL];exact hn,by rw[ZL];exact hac,by omega,by omega,by omega,by rw[hrun];simp[Hx.step,q1,q2,q3,q4,q5,q0,q6]⟩ h3 hf rfl
 .refine ahi H vv rv fuel k u4 u7 u11 u13 u14 u15 u16 ji jk jl u20 u21 u22 u23 u24 u25 u26 u27 u28 u29 u30 u31 u32 u33 u34 u35 u36 u37 u38 jm u40 jo u42 jq u44 u45 u46 jr u48 u49 jv u51 jw u53 jy u55 jA jB u58 u59 u60 u61 jC u63 u64 jD u66 jE u68 u69 u70 jF u72 u73 jG u75 jH jI jJ jK jL jM jO jP jQ jR jS jT jU jV jW jX jY u93 jZ ku kC kD kE kF gG gI gJ gK gQ u105 gU gV gW gX gY gZ ig iq iw iy iC iD iE u119 iF iG iH iI u124 iJ iK u127 iL iM iO u131 iP iQ iR iT iU iV u138 u139 iW iY iZ jc jd je jf jg jh Q (by omega) ?_;intro a' h1;refine hwr a' w 2 h1 ?_ hr (Below.refl _ _);rw[<-hout];have e:fuel.toNat=0:=by omega
  rw[e]
  rfl
def Ed(w:World)(H:Nat)(x0 x1 x2 x3 x4 x5 x6 x7:Int):Prop:=
 ∀j,j<8->w.cell? (Ad (H+1) j)=some (Im ([x0,x1,x2,x3,x4,x5,x6,x7].getD j 0))
set_option maxRecDepth 1000000 in
theorem SH{fuel k:Int}{a:Act}(ha:mW cb co H M vv rv fuel k a):a.tmps.getD 3 undef=Im fuel:=by
 unfold mW at ha;obtain⟨u4,ha⟩:=ha;obtain⟨u7,ha⟩:=ha;obtain⟨u11,ha⟩:=ha;obtain⟨u13,ha⟩:=ha;obtain⟨u14,ha⟩:=ha;obtain⟨u15,ha⟩:=ha;obtain⟨u16,ha⟩:=ha;obtain⟨ji,ha⟩:=ha;obtain⟨jk,ha⟩:=ha;obtain⟨jl,ha⟩:=ha;obtain⟨u20,ha⟩:=ha;obtain⟨u21,ha⟩:=ha;obtain⟨u22,ha⟩:=ha;obtain⟨u23,ha⟩:=ha;obtain⟨u24,ha⟩:=ha;obtain⟨u25,ha⟩:=ha;obtain⟨u26,ha⟩:=ha;obtain⟨u27,ha⟩:=ha;obtain⟨u28,ha⟩:=ha;obtain⟨u29,ha⟩:=ha;obtain⟨u30,ha⟩:=ha;obtain⟨u31,ha⟩:=ha;obtain⟨u32,ha⟩:=ha;obtain⟨u33,ha⟩:=ha;obtain⟨u34,ha⟩:=ha;obtain⟨u35,ha⟩:=ha;obtain⟨u36,ha⟩:=ha;obtain⟨u37,ha⟩:=ha;obtain⟨u38,ha⟩:=ha;obtain⟨jm,ha⟩:=ha;obtain⟨u40,ha⟩:=ha;obtain⟨jo,ha⟩:=ha;obtain⟨u42,ha⟩:=ha;obtain⟨jq,ha⟩:=ha;obtain⟨u44,ha⟩:=ha;obtain⟨u45,ha⟩:=ha;obtain⟨u46,ha⟩:=ha;obtain⟨jr,ha⟩:=ha;obtain⟨u48,ha⟩:=ha;obtain⟨u49,ha⟩:=ha;obtain⟨jv,ha⟩:=ha;obtain⟨u51,ha⟩:=ha;obtain⟨jw,ha⟩:=ha;obtain⟨u53,ha⟩:=ha;obtain⟨jy,ha⟩:=ha;obtain⟨u55,ha⟩:=ha;obtain⟨jA,ha⟩:=ha;obtain⟨jB,ha⟩:=ha;obtain⟨u58,ha⟩:=ha;obtain⟨u59,ha⟩:=ha;obtain⟨u60,ha⟩:=ha;obtain⟨u61,ha⟩:=ha;obtain⟨jC,ha⟩:=ha;obtain⟨u63,ha⟩:=ha;obtain⟨u64,ha⟩:=ha;obtain⟨jD,ha⟩:=ha;obtain⟨u66,ha⟩:=ha;obtain⟨jE,ha⟩:=ha;obtain⟨u68,ha⟩:=ha;obtain⟨u69,ha⟩:=ha;obtain⟨u70,ha⟩:=ha;obtain⟨jF,ha⟩:=ha;obtain⟨u72,ha⟩:=ha;obtain⟨u73,ha⟩:=ha;obtain⟨jG,ha⟩:=ha;obtain⟨u75,ha⟩:=ha;obtain⟨jH,ha⟩:=ha;obtain⟨jI,ha⟩:=ha;obtain⟨jJ,ha⟩:=ha;obtain⟨jK,ha⟩:=ha;obtain⟨jL,ha⟩:=ha;obtain⟨jM,ha⟩:=ha;obtain⟨jO,ha⟩:=ha;obtain⟨jP,ha⟩:=ha;obtain⟨jQ,ha⟩:=ha;obtain⟨jR,ha⟩:=ha;obtain⟨jS,ha⟩:=ha;obtain⟨jT,ha⟩:=ha;obtain⟨jU,ha⟩:=ha
 obtain⟨jV,ha⟩:=ha;obtain⟨jW,ha⟩:=ha;obtain⟨jX,ha⟩:=ha;obtain⟨jY,ha⟩:=ha;obtain⟨u93,ha⟩:=ha;obtain⟨jZ,ha⟩:=ha;obtain⟨ku,ha⟩:=ha;obtain⟨kC,ha⟩:=ha;obtain⟨kD,ha⟩:=ha;obtain⟨kE,ha⟩:=ha;obtain⟨kF,ha⟩:=ha;obtain⟨gG,ha⟩:=ha;obtain⟨gI,ha⟩:=ha;obtain⟨gJ,ha⟩:=ha;obtain⟨gK,ha⟩:=ha;obtain⟨gQ,ha⟩:=ha;obtain⟨u105,ha⟩:=ha;obtain⟨gU,ha⟩:=ha;obtain⟨gV,ha⟩:=ha;obtain⟨gW,ha⟩:=ha;obtain⟨gX,ha⟩:=ha;obtain⟨gY,ha⟩:=ha;obtain⟨gZ,ha⟩:=ha;obtain⟨ig,ha⟩:=ha;obtain⟨iq,ha⟩:=ha;obtain⟨iw,ha⟩:=ha;obtain⟨iy,ha⟩:=ha;obtain⟨iC,ha⟩:=ha;obtain⟨iD,ha⟩:=ha;obtain⟨iE,ha⟩:=ha;obtain⟨u119,ha⟩:=ha;obtain⟨iF,ha⟩:=ha;obtain⟨iG,ha⟩:=ha;obtain⟨iH,ha⟩:=ha;obtain⟨iI,ha⟩:=ha;obtain⟨u124,ha⟩:=ha;obtain⟨iJ,ha⟩:=ha;obtain⟨iK,ha⟩:=ha;obtain⟨u127,ha⟩:=ha;obtain⟨iL,ha⟩:=ha;obtain⟨iM,ha⟩:=ha;obtain⟨iO,ha⟩:=ha;obtain⟨u131,ha⟩:=ha;obtain⟨iP,ha⟩:=ha;obtain⟨iQ,ha⟩:=ha;obtain⟨iR,ha⟩:=ha;obtain⟨iT,ha⟩:=ha;obtain⟨iU,ha⟩:=ha;obtain⟨iV,ha⟩:=ha;obtain⟨u138,ha⟩:=ha;obtain⟨u139,ha⟩:=ha;obtain⟨iW,ha⟩:=ha;obtain⟨iY,ha⟩:=ha;obtain⟨iZ,ha⟩:=ha;obtain⟨jc,ha⟩:=ha;obtain⟨jd,ha⟩:=ha;obtain⟨je,ha⟩:=ha;obtain⟨jf,ha⟩:=ha;obtain⟨jg,ha⟩:=ha;obtain⟨jh,ha⟩:=ha;subst ha
 rfl
set_option maxRecDepth 1000000 in
theorem ahl{st x0 x1 x2 x3 x4 x5 x6 x7:Int}(a:Act)(ha:zk cb co H M vv rv st a)(hx:Ed w H x0 x1 x2 x3 x4 x5 x6 x7)(hr:qK w H)(Q:Exit->Act->World->Prop)
 (hret:∀a',a'.tmps.getD 8 undef=Pt (H+1+1) 0->a'.defers=[]->Q .ret a' (Ah w H st (Nl) x0 x1 x2 x3 x4 x5 x6 x7)):
 Code.wp prog (tC Tryz.f16 0) Q a w:=by
 unfold zk at ha;obtain⟨u3,ha⟩:=ha;obtain⟨u4,ha⟩:=ha;obtain⟨u7,ha⟩:=ha;obtain⟨u10,ha⟩:=ha;obtain⟨u11,ha⟩:=ha;obtain⟨u13,ha⟩:=ha;obtain⟨u14,ha⟩:=ha;obtain⟨u15,ha⟩:=ha;obtain⟨u16,ha⟩:=ha;obtain⟨ji,ha⟩:=ha;obtain⟨jk,ha⟩:=ha;obtain⟨jl,ha⟩:=ha;obtain⟨u20,ha⟩:=ha;obtain⟨u21,ha⟩:=ha;obtain⟨u22,ha⟩:=ha;obtain⟨u23,ha⟩:=ha;obtain⟨u24,ha⟩:=ha;obtain⟨u25,ha⟩:=ha;obtain⟨u26,ha⟩:=ha;obtain⟨u27,ha⟩:=ha;obtain⟨u28,ha⟩:=ha;obtain⟨u29,ha⟩:=ha;obtain⟨u30,ha⟩:=ha;obtain⟨u31,ha⟩:=ha;obtain⟨u32,ha⟩:=ha;obtain⟨u33,ha⟩:=ha;obtain⟨u34,ha⟩:=ha;obtain⟨u35,ha⟩:=ha;obtain⟨u36,ha⟩:=ha;obtain⟨u37,ha⟩:=ha;obtain⟨u38,ha⟩:=ha;obtain⟨jm,ha⟩:=ha;obtain⟨u40,ha⟩:=ha;obtain⟨jo,ha⟩:=ha;obtain⟨u42,ha⟩:=ha;obtain⟨jq,ha⟩:=ha;obtain⟨u44,ha⟩:=ha;obtain⟨u45,ha⟩:=ha;obtain⟨u46,ha⟩:=ha;obtain⟨jr,ha⟩:=ha;obtain⟨u48,ha⟩:=ha;obtain⟨u49,ha⟩:=ha;obtain⟨jv,ha⟩:=ha;obtain⟨u51,ha⟩:=ha;obtain⟨jw,ha⟩:=ha;obtain⟨u53,ha⟩:=ha;obtain⟨jy,ha⟩:=ha;obtain⟨u55,ha⟩:=ha;obtain⟨jA,ha⟩:=ha;obtain⟨jB,ha⟩:=ha;obtain⟨u58,ha⟩:=ha;obtain⟨u59,ha⟩:=ha;obtain⟨u60,ha⟩:=ha;obtain⟨u61,ha⟩:=ha;obtain⟨jC,ha⟩:=ha;obtain⟨u63,ha⟩:=ha;obtain⟨u64,ha⟩:=ha;obtain⟨jD,ha⟩:=ha;obtain⟨u66,ha⟩:=ha;obtain⟨jE,ha⟩:=ha;obtain⟨u68,ha⟩:=ha;obtain⟨u69,ha⟩:=ha;obtain⟨u70,ha⟩:=ha;obtain⟨jF,ha⟩:=ha;obtain⟨u72,ha⟩:=ha;obtain⟨u73,ha⟩:=ha;obtain⟨jG,ha⟩:=ha;obtain⟨u75,ha⟩:=ha;obtain⟨jH,ha⟩:=ha;obtain⟨jI,ha⟩:=ha;obtain⟨jJ,ha⟩:=ha;obtain⟨jK,ha⟩:=ha;obtain⟨jL,ha⟩:=ha;obtain⟨jM,ha⟩:=ha;obtain⟨jO,ha⟩:=ha;obtain⟨jP,ha⟩:=ha;obtain⟨jQ,ha⟩:=ha;obtain⟨jR,ha⟩:=ha;obtain⟨jS,ha⟩:=ha
 obtain⟨jT,ha⟩:=ha;obtain⟨jU,ha⟩:=ha;obtain⟨jV,ha⟩:=ha;obtain⟨jW,ha⟩:=ha;obtain⟨jX,ha⟩:=ha;obtain⟨jY,ha⟩:=ha;obtain⟨u93,ha⟩:=ha;obtain⟨jZ,ha⟩:=ha;obtain⟨ku,ha⟩:=ha;obtain⟨kC,ha⟩:=ha;obtain⟨kD,ha⟩:=ha;obtain⟨kE,ha⟩:=ha;obtain⟨kF,ha⟩:=ha;obtain⟨gG,ha⟩:=ha;obtain⟨gI,ha⟩:=ha;obtain⟨gJ,ha⟩:=ha;obtain⟨gK,ha⟩:=ha;obtain⟨gQ,ha⟩:=ha;obtain⟨u105,ha⟩:=ha;obtain⟨gU,ha⟩:=ha;obtain⟨gV,ha⟩:=ha;obtain⟨gW,ha⟩:=ha;obtain⟨gX,ha⟩:=ha;obtain⟨gY,ha⟩:=ha;obtain⟨gZ,ha⟩:=ha;obtain⟨ig,ha⟩:=ha;obtain⟨iq,ha⟩:=ha;obtain⟨iw,ha⟩:=ha;obtain⟨iy,ha⟩:=ha;obtain⟨iC,ha⟩:=ha;obtain⟨iD,ha⟩:=ha;obtain⟨iE,ha⟩:=ha;obtain⟨u119,ha⟩:=ha;obtain⟨iF,ha⟩:=ha;obtain⟨iG,ha⟩:=ha;obtain⟨iH,ha⟩:=ha;obtain⟨iI,ha⟩:=ha;obtain⟨u124,ha⟩:=ha;obtain⟨iJ,ha⟩:=ha;obtain⟨iK,ha⟩:=ha;obtain⟨u127,ha⟩:=ha;obtain⟨iL,ha⟩:=ha;obtain⟨iM,ha⟩:=ha;obtain⟨iO,ha⟩:=ha;obtain⟨u131,ha⟩:=ha;obtain⟨iP,ha⟩:=ha;obtain⟨iQ,ha⟩:=ha;obtain⟨iR,ha⟩:=ha;obtain⟨iT,ha⟩:=ha;obtain⟨iU,ha⟩:=ha;obtain⟨iV,ha⟩:=ha;obtain⟨u138,ha⟩:=ha;obtain⟨u139,ha⟩:=ha;obtain⟨iW,ha⟩:=ha;obtain⟨iY,ha⟩:=ha;obtain⟨iZ,ha⟩:=ha;obtain⟨jc,ha⟩:=ha;obtain⟨jd,ha⟩:=ha;obtain⟨je,ha⟩:=ha;obtain⟨jf,ha⟩:=ha;obtain⟨jg,ha⟩:=ha;obtain⟨jh,ha⟩:=ha;subst ha;have y0:=hx 0 (by omega);have y1:=hx 1 (by omega);have y2:=hx 2 (by omega);have y3:=hx 3 (by omega);have y4:=hx 4 (by omega);have y5:=hx 5 (by omega);have y6:=hx 6 (by omega);have y7:=hx 7 (by omega);simp only[List.getD_cons_zero,List.getD_cons_succ]at y0 y1 y2 y3 y4 y5 y6 y7;obtain⟨c0,c1,c2,cf⟩:=hr;have d0:=c2 0 (by omega);have d1:=c2 1 (by omega)
 have d2:=c2 2 (by omega);have d3:=c2 3 (by omega);have d4:=c2 4 (by omega);have d5:=c2 5 (by omega);have d6:=c2 6 (by omega);have d7:=c2 7 (by omega);simp only[Nat.reduceAdd]at d0 d1 d2 d3 d4 d5 d6 d7;clear hx c2
 conv=>arg 2;whnf
 go_wp2;exact hret _ rfl rfl
def Zl(B C:Nat)(M SB:Nat)(v:Vw)(cb co sb so cap:Nat)(ay:List St)(n H:Nat)(bG:List Int)(o:Out)(vv rv:Value)(W:World):Nat->Act->World->Prop
 |0,a,w=>∃st,zk cb co H M vv rv st a/\o=⟨st,bG,[]⟩/\qK w H/\Below B W w
 |1,a,w=>∃fuel k m,mW cb co H M vv rv fuel k a/\eP B C w M SB v cb co sb so cap ay n H bG o fuel k m/\Below B W w
 |_,_,_=>False
def ag6:Nat->Act->World->Nat
 |1,a,_=>1+(intOf (a.tmps.getD 3 undef)).toNat
 |_,_,_=>0
theorem Xf(w:World)(H:Nat)(st:Int)(va:Value)(x0 x1 x2 x3 x4 x5 x6 x7:Int):w.grownBy (Ah w H st va x0 x1 x2 x3 x4 x5 x6 x7) (some (H+1+1)):=by
 unfold Ah;exact(((((((((pO _ (Ad (H+1+1) 0) _).trans (pO _ (Ad (H+1+1) 1) _)).trans (pO _ (Ad (H+1+1) 2) _)).trans (pO _ (Ad (H+1+1) 3) _)).trans (pO _ (Ad (H+1+1) 4) _)).trans (pO _ (Ad (H+1+1) 5) _)).trans (pO _ (Ad (H+1+1) 6) _)).trans (pO _ (Ad (H+1+1) 7) _)).trans (pO _ (Ad (H+1+1) 8) _)).trans (pO _ (Ad (H+1+1) 9) _)
theorem agd(w:World)(H:Nat)(hr:qK w H)(st:Int)(a:Option Addr)(n c:Nat)(x0 x1 x2 x3 x4 x5 x6 x7:Int)(t:Array Value)(ht:t.getD 8 undef=Pt (H+1+1) 0):
 (results Tryz.f16 t).run prog (Ah w H st (.slice a n c) x0 x1 x2 x3 x4 x5 x6 x7)=.ok (qV st (.slice a n c) [x0,x1,x2,x3,x4,x5,x6,x7]) (Ah w H st (.slice a n c) x0 x1 x2 x3 x4 x5 x6 x7):=by
 obtain⟨c0,c1,c2,cf⟩:=hr;have d0:=c2 0 (by omega);have d1:=c2 1 (by omega);have d2:=c2 2 (by omega);have d3:=c2 3 (by omega);have d4:=c2 4 (by omega);have d5:=c2 5 (by omega);have d6:=c2 6 (by omega);have d7:=c2 7 (by omega);simp only[Nat.reduceAdd]at d0 d1 d2 d3 d4 d5 d6 d7;have ht':t[8]?.getD undef=Pt (H+1+1) 0:=by simpa using ht
 unfold Ah qV;simp[results,Tryz.results16,go_sem,ht',c0,c1,d0,d1,d2,d3,d4,d5,d6,d7]
def boxes(w:World)(ar af aa:Option Addr)(nr cr nf cf na ca:Nat)(x0 x1 x2 x3 x4 x5 x6 x7:Int):World:=
 ((w.alloc (Obj.cells #[.slice ar nr cr,.slice af nf cf,.slice aa na ca] 25)).alloc
   (Obj.cells #[Im x0,Im x1,Im x2,Im x3,Im x4,Im x5,Im x6,Im x7] 26)).alloc
   (Obj.cells #[.int .u8 0,Nl,Im 0,Im 0,Im 0,Im 0,Im 0,Im 0,Im 0,Im 0] 35)
section
variable (w:World)(ar af aa:Option Addr)(nr cr nf cf na ca:Nat)(x0 x1 x2 x3 x4 x5 x6 x7:Int)
theorem aaF:(boxes w ar af aa nr cr nf cf na ca x0 x1 x2 x3 x4 x5 x6 x7).heap.size=w.heap.size+1+1+1:=by simp[boxes]
theorem aaG(k:Nat):(boxes w ar af aa nr cr nf cf na ca x0 x1 x2 x3 x4 x5 x6 x7).cell? (Ad w.heap.size k)=#[Value.slice ar nr cr,.slice af nf cf,.slice aa na ca][k]? :=by
 unfold boxes;rw[World.cell?_alloc_past _ _ _ (by simp;omega),World.cell?_alloc_past _ _ _ (by simp)];exact World.cell?_alloc_at _ _ _ _ rfl
theorem aaD:Ed (boxes w ar af aa nr cr nf cf na ca x0 x1 x2 x3 x4 x5 x6 x7) w.heap.size x0 x1 x2 x3 x4 x5 x6 x7:=by
 intro j hj;unfold boxes;rw[World.cell?_alloc_past _ _ _ (by simp),World.cell?_alloc_at _ _ _ _ (by simp)];have:=Xo x0 x1 x2 x3 x4 x5 x6 x7 j hj;rw[<-this];simp[qc]
theorem aaE:qK (boxes w ar af aa nr cr nf cf na ca x0 x1 x2 x3 x4 x5 x6 x7) w.heap.size:=by
 have h:∀k,(boxes w ar af aa nr cr nf cf na ca x0 x1 x2 x3 x4 x5 x6 x7).cell? (Ad (w.heap.size+1+1) k)=#[Value.int .u8 0,Nl,Im 0,Im 0,Im 0,Im 0,Im 0,Im 0,Im 0,Im 0][k]? :=fun k=>World.cell?_alloc_at _ _ _ _ (by simp);refine⟨by rw[h];rfl,by rw[h];rfl,fun j hj=>?_,fun j=>World.frozen?_alloc_at _ _ _ _ (by simp)⟩;rw[h];have:j=0\/j=1\/j=2\/j=3\/j=4\/j=5\/j=6\/j=7:=by omega
 rcases this with rfl|rfl|rfl|rfl|rfl|rfl|rfl|rfl<;>rfl
theorem aaC:w.grownBy (boxes w ar af aa nr cr nf cf na ca x0 x1 x2 x3 x4 x5 x6 x7) none:=by
 unfold boxes;exact((World.grownBy_alloc w _ none).trans (World.grownBy_alloc _ _ none)).trans (World.grownBy_alloc _ _ none)
end
theorem Ed.aN{B:Nat}{w w':World}{H:Nat}{x0 x1 x2 x3 x4 x5 x6 x7:Int}(h:Ed w H x0 x1 x2 x3 x4 x5 x6 x7)(hb:Below B w w')(hB:H+1<B):Ed w' H x0 x1 x2 x3 x4 x5 x6 x7:=fun j hj=>by
 rw[hb.cell (p:=(Ad (H+1) j)) hB];exact h j hj
theorem ru.aN{B:Nat}{w w':World}{ar af aa:Option Addr}{nr nf na:Nat}{v:Vw}(h:ru B w ar af aa nr nf na v)(hc:∀x:Addr,x.block<B->w'.cell? x=w.cell? x):ru B w' ar af aa nr nf na v:=by
 refine⟨fun i r hr=>?_,fun i r hr=>?_,fun i r hr=>?_,h.H8,h.H7,h.H6,h.DC⟩
 .obtain⟨b,o,e,hb,hp⟩:=h.ah i r hr;exact⟨b,o,e,hb,hp.aN hb hc⟩
 .obtain⟨b,o,e,hb,hp⟩:=h.aG i r hr;exact⟨b,o,e,hb,hp.aN hb hc⟩
 .obtain⟨b,o,e,hb,hp⟩:=h.aJ i r hr;exact⟨b,o,e,hb,hp.aN hb hc⟩
end
def yU(v:Vw)(ay:List St)(n:Nat)(fuel x0 x1 x2 x3 x4 x5 x6 x7:Int):Out:=
 if BG v=true then Hx.runs v ay [x0,x1,x2,x3,x4,x5,x6,x7] fuel.toNat 0 (qP x0 x1 x2 x3 x4 x5 x6 x7 n)else ⟨3,[x0,x1,x2,x3,x4,x5,x6,x7],[]⟩
theorem LG{w:World}{b b':Nat}{e:TypeId}{size:Nat}{u:Value}{n:Nat}{xs:List Value}(h:w.ownsRow b e size u n xs)(hb:b'<=b):w.ownsRow b' e size u n xs:=by
 refine⟨h.1,?_⟩;rcases h.2 with h|⟨g,cap,cur,h1,h2,h3⟩
 .exact Or.inl h
 .exact Or.inr ⟨g,cap,cur,h1,by omega,h3⟩
theorem Xr(st:Int)(va:Value)(l:List Int):qV st va l=qV st va [l.getD 0 0,l.getD 1 0,l.getD 2 0,l.getD 3 0,l.getD 4 0,l.getD 5 0,l.getD 6 0,l.getD 7 0]:=by
 simp[qV]
set_option maxRecDepth 1000000 in
theorem ag7(w:World)(cb co sb so cap n:Nat)(ay:List St)(v:Vw)(ar af aa:Option Addr)(nr cr nf cf na ca:Nat)(x0 x1 x2 x3 x4 x5 x6 x7 fuel:Int)
 (hfit:Hx.Fits ay n)(h8:8<=n)(hn:n<=100000)(hc:nM w.heap.size w cb co sb so cap ay)(hsl:w.cell? (Ad cb (co+1))=some (Im n))
 (hv:ru w.heap.size w ar af aa nr nf na v)(hT:mZ w)(hone:1<w.heap.size)(hx:∀x∈[x0,x1,x2,x3,x4,x5,x6,x7],aZ x)(hfm:fuel<=9223372036854775807):
 Calls prog 16 #[Pt cb co,.agg #[.slice ar nr cr,.slice af nf cf,.slice aa na ca],.agg #[Im x0,Im x1,Im x2,Im x3,Im x4,Im x5,Im x6,Im x7],Im fuel] w fun e w'=>
  ∃va,e=.returned (qV (yU v ay n fuel x0 x1 x2 x3 x4 x5 x6 x7).status va (yU v ay n fuel x0 x1 x2 x3 x4 x5 x6 x7).bG)/\
   w'.ownsRow w.heap.size 76 2 va (yU v ay n fuel x0 x1 x2 x3 x4 x5 x6 x7).aY.length (kZ (yU v ay n fuel x0 x1 x2 x3 x4 x5 x6 x7).aY)/\Below w.heap.size w w':=by
 generalize ho:yU v ay n fuel x0 x1 x2 x3 x4 x5 x6 x7=o;generalize hW:boxes w ar af aa nr cr nf cf na ca x0 x1 x2 x3 x4 x5 x6 x7=W;have hsz:W.heap.size=w.heap.size+1+1+1:=by rw[<-hW];exact aaF ..
 have hold:w.grownBy W none:=by rw[<-hW];exact aaC ..
 have KI:∀k,W.cell? (Ad w.heap.size k)=#[Value.slice ar nr cr,.slice af nf cf,.slice aa na ca][k]? :=fun k=>by rw[<-hW];exact aaG ..
 have zU:Ed W w.heap.size x0 x1 x2 x3 x4 x5 x6 x7:=by rw[<-hW];exact aaD w ar af aa nr cr nf cf na ca x0 x1 x2 x3 x4 x5 x6 x7
 have hres:qK W w.heap.size:=by rw[<-hW];exact aaE ..
 have hcell:∀x:Addr,x.block<w.heap.size->W.cell? x=w.cell? x:=fun x hx=>World.cell?_of_block (hold.block _ hx (by simp));have hbelow:Below w.heap.size w W:=(Below.refl _ _).grown hold (Nat.le_refl _) (by simp);have UY:ru W.heap.size W ar af aa nr nf na v:=by
  have:=hv.aN hcell;exact⟨fun i r hr=>by obtain⟨b,o,e,hb,hp⟩:=this.ah i r hr;exact⟨b,o,e,by omega,hp⟩,fun i r hr=>by obtain⟨b,o,e,hb,hp⟩:=this.aG i r hr;exact⟨b,o,e,by omega,hp⟩,fun i r hr=>by obtain⟨b,o,e,hb,hp⟩:=this.aJ i r hr;exact⟨b,o,e,by omega,hp⟩,this.H8,this.H7,this.H6,this.DC⟩
 have hTW:mZ W:=fun j hj=>by rw[hcell _ (by show 1<_;omega)];exact hT j hj
 have Oo:=hc.aN hbelow;have hcW:nM W.heap.size W cb co sb so cap ay:=⟨by have:=hc.xg;omega,by have:=hc.wI;omega,Oo.slice,Oo.step⟩;have akd:W.cell? (Ad cb (co+1))=some (Im n):=by rw[hcell _ hc.xg];exact hsl
 have Nc:Hid (∀(a':Act)(w1:World)(st:Int)(va:Value)(y0 y1 y2 y3 y4 y5 y6 y7:Int)(aY:List (Int×Int)),Below W.heap.size W w1->qK w1 w.heap.size->w1.ownsRow W.heap.size 76 2 va aY.length (kZ aY)->(∃a n c,va=.slice a n c)->
  a'.tmps.getD 8 undef=Pt (w.heap.size+1+1) 0->a'.defers=[]->o.status=st->qV st va o.bG=qV st va [y0,y1,y2,y3,y4,y5,y6,y7]->o.aY=aY->
  bodyPost prog Tryz.f16 (fun e w'=>∃va,e=.returned (qV o.status va o.bG)/\w'.ownsRow w.heap.size 76 2 va o.aY.length (kZ o.aY)/\Below w.heap.size w w') .ret a' (Ah w1 w.heap.size st va y0 y1 y2 y3 y4 y5 y6 y7)):=by
  rintro a' w1 st va y0 y1 y2 y3 y4 y5 y6 y7 aY hb1 hr1 hown ⟨Ef,nn,cc,rfl⟩ ht hd rfl He rfl;refine bodyPost_ret (v:=qV o.status (.slice Ef nn cc) [y0,y1,y2,y3,y4,y5,y6,y7]) (agd w1 w.heap.size hr1 o.status Ef nn cc y0 y1 y2 y3 y4 y5 y6 y7 a'.tmps ht) hd ⟨.slice Ef nn cc,by rw[He],?_,?_⟩
  .have h1:=hown.kept (Xf w1 w.heap.size o.status (.slice Ef nn cc) y0 y1 y2 y3 y4 y5 y6 y7) (by
    cases hb:(Value.slice Ef nn cc).ownBlock with
    |none=>exact Or.inl rfl
    |some g=>
     right;have:=(hown.lt g hb).1;simp;omega)
   exact LG h1 (by omega)
  .refine(hbelow.trans (hb1.mono (by omega))).trans ((Below.refl _ _).grown (Xf w1 w.heap.size o.status (.slice Ef nn cc) y0 y1 y2 y3 y4 y5 y6 y7) ?_ ?_)
   .have:=hb1.size;omega
   .intro k hk;cases hk;omega
 have e3:w.heap.size+1+1<W.heap.size:=by omega
 have FX:Hid (∀k,Calls prog 49 #[.agg #[.slice ar nr cr,.slice af nf cf,.slice aa na ca],.agg #[Im x0,Im x1,Im x2,Im x3,Im x4,Im x5,Im x6,Im x7],Im n] (W.drewN k) fun e w'=>
  e=.returned (Pt (W.heap.size+1+1+1) 0)/\Below W.heap.size W w'/\
  (Good v->cu W.heap.size (W.heap.size+4) w' (W.heap.size+1+1+1) (W.heap.size+1+1) v (qP x0 x1 x2 x3 x4 x5 x6 x7 n))):=fun k=>by
  refine(aeM ar af aa nr cr nf cf na ca x0 x1 x2 x3 x4 x5 x6 x7 n (W.drewN k) hn h8).mono ?_;rintro e w' ⟨h1,h2,h3⟩;refine⟨h1,(below_drewN (Below.refl _ _) k).trans h2,fun hgood=>h3 W.heap.size v (by omega) (Nat.le_refl _) (fun j hj=>hTW j hj) (UY.aN (fun _ _=>rfl)) hgood hx⟩
 have b0:=KI 0;have b1:=KI 1;have b2:=KI 2;simp only[List.getElem?_toArray,List.getElem?_cons_succ,List.getElem?_cons_zero]at b0 b1 b2;have g0:=zU 0 (by omega);have g1:=zU 1 (by omega);have g2:=zU 2 (by omega);have g3:=zU 3 (by omega);have g4:=zU 4 (by omega);have g5:=zU 5 (by omega);have g6:=zU 6 (by omega);have g7:=zU 7 (by omega);simp only[List.getD_cons_zero,List.getD_cons_succ]at g0 g1 g2 g3 g4 g5 g6 g7;have HW:Hid (boxes w ar af aa nr cr nf cf na ca x0 x1 x2 x3 x4 x5 x6 x7=W):=hW;have HSZ:Hid (W.heap.size=w.heap.size+1+1+1):=hsz;have HO:Hid (yU v ay n fuel x0 x1 x2 x3 x4 x5 x6 x7=o):=ho;clear hW hold KI hcell hv hc hsl hT Oo hsz ho;generalize hvv:Value.agg #[.slice ar nr cr,.slice af nf cf,.slice aa na ca]=vv0;generalize KE:Value.agg #[Im x0,Im x1,Im x2,Im x3,Im x4,Im x5,Im x6,Im x7]=rv0;subst hvv KE;go_enter func16,ntmps16;go_wp2_with fail;rw[show((w.alloc (Obj.cells #[.slice ar nr cr,.slice af nf cf,.slice aa na ca] 25)).alloc
  (Obj.cells #[Im x0,Im x1,Im x2,Im x3,Im x4,Im x5,Im x6,Im x7] 26)).alloc
  (Obj.cells #[.int .u8 0,Nl,Im 0,Im 0,Im 0,Im 0,Im 0,Im 0,Im 0,Im 0] 35)=W from HW.out]
 refine ajD (fun l=>.seq .skip (tC Tryz.f16 l)) (Zl W.heap.size (W.heap.size+4) (W.heap.size+1+1+1) (W.heap.size+1+1) v cb co sb so cap ay n w.heap.size [x0,x1,x2,x3,x4,x5,x6,x7] o (.agg #[.slice ar nr cr,.slice af nf cf,.slice aa na ca]) (.agg #[Im x0,Im x1,Im x2,Im x3,Im x4,Im x5,Im x6,Im x7]) W) ag6 ?hf ?first ?pass
 case hf=>
  intro l a1 w1 hJ;have hl:l=0\/l=1:=by
   rcases l with _|_|l
   .exact Or.inl rfl
   .exact Or.inr rfl
   .exact hJ.elim
  clear hJ;rcases hl with rfl|rfl
  .show _=_
   kernel_rfl
  .show _=_
   kernel_rfl
 case pass=>
  intro l a1 w1 hJ;rcases l with _|_|l
  .obtain⟨st,ha,hos,hr,hb⟩:=hJ;refine wp_seq (wp_skip ?_);refine ahl a1 ha (zU.aN hb (by omega)) hr _ ?_;intro a' ht hd;have:=Nc.out a' w1 st (Nl) x0 x1 x2 x3 x4 x5 x6 x7 [] hb hr (World.ownsRow_nil _ _ _ _) ⟨_,_,_,rfl⟩ ht hd (by rw[hos]) (by rw[hos]) (by rw[hos]);exact this
  .obtain⟨fuel1,k1,m1,ha,hg,hb⟩:=hJ;refine wp_seq (wp_skip ?_);refine Xy hfit h8 e3 a1 ha hg _ ?_ ?_ ?_
   .intro a' w' fuel' k' m' h1 h2 h3 h4 h5;refine⟨⟨fuel',k',m',h1,h2,hb.trans h3⟩,?_⟩;show 1+(intOf (a'.tmps.getD 3 undef)).toNat<1+(intOf (a1.tmps.getD 3 undef)).toNat;rw[SH h1,SH ha];simp only[intOf];omega
   .intro a' w' st h1 h2 h3 h4;refine⟨⟨st,h1,h2,h3,hb.trans h4⟩,?_⟩;show 0<1+(intOf (a1.tmps.getD 3 undef)).toNat;omega
   .intro a' w2 va h1 h2 h3 h4 h5 h6 h7;have:=Nc.out a' w2 0 va _ _ _ _ _ _ _ _ m1.aY (hb.trans h4) h5 (LG h2 (by omega)) h3 h6 h7 (by rw[h1]) (by rw[h1];exact Xr _ _ _) (by rw[h1]);exact this
  .exact hJ.elim
 case first=>
  go_wp2_with fail;refine fC 6 (by kernel_rfl) (by kernel_rfl) ?_;simp only[List.take_succ_cons,List.take_zero,List.drop_succ_cons,List.drop_zero];repeat (go_big_quiet_step (fail))
  refine wpQuiet_nil ?_;intro _ hw';obtain⟨n3,hw''⟩:=hw';subst hw'';go_wp2_with fail;refine(FX.out n3).mono ?_;rintro e w1 ⟨rfl,hb1,hm1⟩;have v0:w1.cell? (Ad w.heap.size 0)=some (.slice ar nr cr):=(hb1.cell (p:=(Ad w.heap.size 0)) (by show w.heap.size<_;omega)).trans b0;have v1:w1.cell? (Ad w.heap.size 1)=some (.slice af nf cf):=(hb1.cell (p:=(Ad w.heap.size 1)) (by show w.heap.size<_;omega)).trans b1;have v2:w1.cell? (Ad w.heap.size 2)=some (.slice aa na ca):=(hb1.cell (p:=(Ad w.heap.size 2)) (by show w.heap.size<_;omega)).trans b2;have HV:Hid (Calls prog 50 #[.agg #[.slice ar nr cr,.slice af nf cf,.slice aa na ca]] w1 fun e w'=>e=.returned (.bool (BG v))/\Below w1.heap.size w1 w'):=adu cr cf ca (UY.aN (fun x hx=>hb1.cell hx)) hb1.size;have HB1:Hid (Below W.heap.size W w1):=hb1;have Y4:Hid (Good v->cu W.heap.size (W.heap.size+4) w1 (W.heap.size+1+1+1) (W.heap.size+1+1) v (qP x0 x1 x2 x3 x4 x5 x6 x7 n)):=hm1;clear hb1 hm1;go_wp2_with fail;refine(HV.out).mono ?_;rintro e w2 ⟨rfl,hb2⟩;have HB2:Hid (Below w1.heap.size w1 w2):=hb2;clear hb2;cases hok:BG v with
  |false=>
   have HF:Hid (o=⟨3,[x0,x1,x2,x3,x4,x5,x6,x7],[]⟩):=by
    show o=_;rw[<-HO.out];simp[yU,hok]
   clear hok;go_wp2;go_step3;have hb:Below W.heap.size W w2:=HB1.out.trans (HB2.out.mono HB1.out.size);refine⟨3,?_,HF.out,hres.aN hb e3,hb⟩;unfold zk
   (repeat apply Exists.intro)
   rfl
  |true=>
   have HF:Hid (Hx.runs v ay [x0,x1,x2,x3,x4,x5,x6,x7] fuel.toNat 0 (qP x0 x1 x2 x3 x4 x5 x6 x7 n)=o):=by
    show _=o;rw[<-HO.out];simp[yU,hok]
   have hgood:=ajh hok;have HG:Hid (Good v):=hgood;clear hok hgood;go_wp2;go_step3;rename_i hK;refine hK _ _ ?_;have hb:Below W.heap.size W w2:=HB1.out.trans (HB2.out.mono HB1.out.size);have hm1:=Y4.out HG.out;have hg:w1.grownBy w2 none:=⟨HB2.out.os,HB2.out.tape,HB2.out.output,HB2.out.size,fun k hk _=>HB2.out.block k hk⟩;have hm2:=hm1.grow hg;refine Xy (B:=W.heap.size) (C:=W.heap.size+4) (M:=W.heap.size+1+1+1) (SB:=W.heap.size+1+1) (v:=v) (ay:=ay) (H:=w.heap.size) (cb:=cb) (co:=co) (sb:=sb) (so:=so) (cap:=cap) (fuel:=fuel) (k:=0) (m:=qP x0 x1 x2 x3 x4 x5 x6 x7 n) (o:=o) (bG:=[x0,x1,x2,x3,x4,x5,x6,x7]) (vv:=.agg #[.slice ar nr cr,.slice af nf cf,.slice aa na ca]) (rv:=.agg #[Im x0,Im x1,Im x2,Im x3,Im x4,Im x5,Im x6,Im x7]) hfit h8 e3 _ ?_ ?_ _ ?_ ?_ ?_
   .unfold mW
    (repeat apply Exists.intro)
    rfl
   .exact⟨hm2,hcW.aN hb,hres.aN hb e3,by simp[qP];omega,by simp[qP],by omega,by have:=hfit.pos;omega,hfm,HF.out⟩
   .intro a' w' fuel' k' m' h1 h2 h3 _ _;exact⟨fuel',k',m',h1,h2,hb.trans h3⟩
   .intro a' w' st h1 h2 h3 h4;exact⟨st,h1,h2,h3,hb.trans h4⟩
   .intro a' w3 va h1 h2 h3 h4 h5 h6 h7;have:=Nc.out a' w3 0 va _ _ _ _ _ _ _ _ (qP x0 x1 x2 x3 x4 x5 x6 x7 n).aY (hb.trans h4) h5 (LG h2 (by omega)) h3 h6 h7 (by rw[h1]) (by rw[h1];exact Xr _ _ _) (by rw[h1]);exact this
end
end Go.Proofs.YthllhabjfchgiaaGreatDoor
