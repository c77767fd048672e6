import Derived.Test.YthllhabjfchgiaaGreatDoorHs07
set_option maxRecDepth 100000
set_option maxHeartbeats 8000000
set_option linter.unusedSimpArgs false
namespace Go.Proofs.YthllhabjfchgiaaGreatDoor
open _root_.Go.Proofs.Tryz
section
open Go.RowKit
open Hx (Rd Pk Vw St Mc jK)
section
def SQ:Code->Option Code
 | .scope c=>some c
 | .seq a b=>match SQ a with
   |some c=>some c
   |none=>SQ b
 | .block _ c=>SQ c
 |_=>none
def avk:Code->Code
 | .seq .skip c=>c
 |c=>c
def zG(f:Func)(l:Nat):Code:=avk (((f.body.bind SQ).bind (findLabel · l)).getD .skip)
set_option maxRecDepth 1000000 in
def nG(cb co H M:Nat)(vv rv:jm)(fuel k:Int)(a:Act):Prop:=
 ∃u4 u7 u11 u13 u14 u15 u16 Zl Zm Zn u20 u21 u22 u23 u24 u25 u26 u27 u28 u29 u30 u31 u32 u33 u34 u35 u36 u37 u38 Zo u40 Zp u42 Zq u44 u45 u46 Zr u48 u49 Zt u51 Zu u53 Zv u55 Zw Zx u58 u59 u60 u61 Zy u63 u64 Zz u66 ZA u68 u69 u70 ZB u72 u73 ZC u75 ZE ZF ZG ZH ZI ZJ ZK ZL ZM ZN ZO ZP ZQ ZR ZT ZU ZV u93 ZW ZX ZY Z4 Z5 Z7 YE YF YG YH YI u105 YJ YK YL YM YN YO YP YQ YR YS YT YU YV u119 YW YX YZ Y0 u124 Y1 Y2 u127 Y3 Y4 Y5 u131 Y6 Y7 Y8 Y9 Za Zb u138 u139 Zc Zd Ze Zf Zg Zh Zi Zj Zk:jm,a=⟨#[Pt cb co,vv,rv,Im fuel,u4,Pt H 0,Pt (H+1) 0,u7,Pt (H+1+1) 0,Pt M 0,Im k,u11,.int .u8 0,u13,u14,u15,u16,Zl,Zm,Zn,u20,u21,u22,u23,u24,u25,u26,u27,u28,u29,u30,u31,u32,u33,u34,u35,u36,u37,u38,Zo,u40,Zp,u42,Zq,u44,u45,u46,Zr,u48,u49,Zt,u51,Zu,u53,Zv,u55,Zw,Zx,u58,u59,u60,u61,Zy,u63,u64,Zz,u66,ZA,u68,u69,u70,ZB,u72,u73,ZC,u75,ZE,ZF,ZG,ZH,ZI,ZJ,ZK,ZL,ZM,ZN,ZO,ZP,ZQ,ZR,ZT,ZU,ZV,u93,ZW,ZX,ZY,Z4,Z5,Z7,YE,YF,YG,YH,YI,u105,YJ,YK,YL,YM,YN,YO,YP,YQ,YR,YS,YT,YU,YV,u119,YW,YX,YZ,Y0,u124,Y1,Y2,u127,Y3,Y4,Y5,u131,Y6,Y7,Y8,Y9,Za,Zb,u138,u139,Zc,Zd,Ze,Zf,Zg,Zh,Zi,Zj,Zk],[]⟩
set_option maxRecDepth 1000000 in
def Ey(cb co H M:Nat)(vv rv:jm)(st:Int)(a:Act):Prop:=
 ∃u3 u4 u7 u10 u11 u13 u14 u15 u16 Zl Zm Zn u20 u21 u22 u23 u24 u25 u26 u27 u28 u29 u30 u31 u32 u33 u34 u35 u36 u37 u38 Zo u40 Zp u42 Zq u44 u45 u46 Zr u48 u49 Zt u51 Zu u53 Zv u55 Zw Zx u58 u59 u60 u61 Zy u63 u64 Zz u66 ZA u68 u69 u70 ZB u72 u73 ZC u75 ZE ZF ZG ZH ZI ZJ ZK ZL ZM ZN ZO ZP ZQ ZR ZT ZU ZV u93 ZW ZX ZY Z4 Z5 Z7 YE YF YG YH YI u105 YJ YK YL YM YN YO YP YQ YR YS YT YU YV u119 YW YX YZ Y0 u124 Y1 Y2 u127 Y3 Y4 Y5 u131 Y6 Y7 Y8 Y9 Za Zb u138 u139 Zc Zd Ze Zf Zg Zh Zi Zj Zk:jm,a=⟨#[Pt cb co,vv,rv,u3,u4,Pt H 0,Pt (H+1) 0,u7,Pt (H+1+1) 0,Pt M 0,u10,u11,.int .u8 st,u13,u14,u15,u16,Zl,Zm,Zn,u20,u21,u22,u23,u24,u25,u26,u27,u28,u29,u30,u31,u32,u33,u34,u35,u36,u37,u38,Zo,u40,Zp,u42,Zq,u44,u45,u46,Zr,u48,u49,Zt,u51,Zu,u53,Zv,u55,Zw,Zx,u58,u59,u60,u61,Zy,u63,u64,Zz,u66,ZA,u68,u69,u70,ZB,u72,u73,ZC,u75,ZE,ZF,ZG,ZH,ZI,ZJ,ZK,ZL,ZM,ZN,ZO,ZP,ZQ,ZR,ZT,ZU,ZV,u93,ZW,ZX,ZY,Z4,Z5,Z7,YE,YF,YG,YH,YI,u105,YJ,YK,YL,YM,YN,YO,YP,YQ,YR,YS,YT,YU,YV,u119,YW,YX,YZ,Y0,u124,Y1,Y2,u127,Y3,Y4,Y5,u131,Y6,Y7,Y8,Y9,Za,Zb,u138,u139,Zc,Zd,Ze,Zf,Zg,Zh,Zi,Zj,Zk],[]⟩
structure uz(B:Nat)(w:jk)(cb co sb so cap:Nat)(jB:List St):Prop where
 IC:cb<B
 Hu:sb<B
 slice:w.cell? (Ad cb co)=some (.slice (some (Ad sb so)) jB.length cap)
 step:∀(i:Nat)(s:St),jB[i]? =some s->zZ w sb (so+i * 7) s
theorem uz.keep{B:Nat}{w w':jk}{cb co sb so cap:Nat}{jB:List St}(h:uz B w cb co sb so cap jB)(b:Below B w w'):uz B w' cb co sb so cap jB:=by
 refine⟨h.IC,h.Hu,by rw[b.cell (p:=(Ad cb co)) h.IC];exact h.slice,λi s l=>?_⟩;obtain⟨c,d,e,f,g,j,k⟩:=h.step i s l;have a:∀o,w'.cell? (Ad sb o)=w.cell? (Ad sb o):=λo=>b.cell (p:=(Ad sb o)) h.Hu;exact⟨by rw[a];exact c,by rw[a];exact d,by rw[a];exact e,by rw[a];exact f,by rw[a];exact g,by rw[a];exact j,by rw[a];exact k⟩
variable {B C:Nat}{w:jk}{M SB:Nat}{v:Vw}{m:Mc}{cb co sb so cap:Nat}{jB:List St}
set_option maxRecDepth 1000000 in
theorem asO(H:Nat)(vv rv:jm)(fuel:Int)(k:Nat){d:Act}(a:nG cb co H M vv rv fuel k d)(Q:Exit->Act->jk->Prop)(e:fuel<=0)
 (b:∀c,Ey cb co H M vv rv 2 c->Q (.goto 0) c w):
 Code.wp prog (zG Tryz.f16 1) Q d w:=by
 unfold nG at a
 iterate 139 obtain⟨_,a⟩:=a
 subst a;have f:decide (fuel<=0)=true:=by simpa using e
 conv=>arg 2;whnf
 go_wp2;go_step3;refine b _ ?_;unfold Ey
 (repeat apply Exists.intro)
 rfl
set_option maxRecDepth 1000000 in
theorem asF(H:Nat)(vv rv:jm)(fuel:Int)(k:Nat){i:Act}(e:nG cb co H M vv rv fuel k i)(Q:Exit->Act->jk->Prop)(G:0<fuel)(q:fuel<=9223372036854775807)(I:k<jB.length)(n:jB.length<=1000000)
 (l:uz B w cb co sb so cap jB)(a b c d p t:Int)(g:jB[k]? =some ⟨3,a,b,c,d,p,t⟩)
 (f:∀h o,nG cb co H M vv rv (fuel-1) t h->o=w->Q (.goto 1) h o):
 Code.wp prog (zG Tryz.f16 1) Q i w:=by
 unfold nG at e
 iterate 139 obtain⟨_,e⟩:=e
 subst e;have F:decide (fuel<=0)=false:=by simp;omega
 have J:(0:Int)<=(k:Int):=by omega
 have K:(k:Int)<(jB.length:Int):=by omega
 have L:(k:Int)<=1000000:=by omega
 have r:=l.slice;obtain⟨s,u,x,y,z,A,D⟩:=l.step k _ g;simp only at s u x y z A D;generalize j:jB.length=N at *;have E:Hid (jB.length=N):=j;clear j
 conv=>arg 2;whnf
 go_wp2;go_step3;refine f _ _ ?_ ?_
 .unfold nG
  (repeat apply Exists.intro)
  rfl
 .rfl
set_option maxRecDepth 1000000 in
theorem asH(H:Nat)(vv rv:jm)(fuel:Int)(k:Nat){p:Act}(g:nG cb co H M vv rv fuel k p)(Q:Exit->Act->jk->Prop)(S:0<fuel)(D:fuel<=9223372036854775807)(T:k<jB.length)(s:jB.length<=1000000)
 (h:kP B C w M SB v m)(r:uz B w cb co sb so cap jB)(a:Nat)(b c d y t:Int)(i:jB[k]? =some ⟨2,a,b,c,d,y,t⟩)(A:a<m.jD.length)
 (e:∀o x,nG cb co H M vv rv (fuel-1) (if m.jD.getD a 0=0 then t else k+1) o->(∃n,x=w.drewN n)->Q (.goto 1) o x):
 Code.wp prog (zG Tryz.f16 1) Q p w:=by
 unfold nG at g
 iterate 139 obtain⟨_,g⟩:=g
 subst g;have R:decide (fuel<=0)=false:=by simp;omega
 have V:(0:Int)<=(k:Int):=by omega
 have X:(k:Int)<(jB.length:Int):=by omega
 have Z:(k:Int)<=1000000:=by omega
 have E:=r.slice;obtain⟨F,G,I,J,K,L,O⟩:=r.step k _ i;simp only at F G I J K L O;generalize q:jB.length=N at *;have P:Hid (jB.length=N):=q;clear q;have U:=h.jD;have ca:=h.slot a A;clear h;generalize m.jD.getD a 0=l at *;generalize m.jD.length=j at *;have W:(0:Int)<=(a:Int):=by omega
 have Y:(a:Int)<(j:Int):=by omega
 obtain⟨z,u⟩:∃z,(l==0)=z:=⟨_,rfl⟩
 conv=>arg 2;whnf
 cases z with
 |true=>
  have f:l=0:=by simpa using u
  rw[jh f]at e;clear f;go_wp2_with fail;go_quiet (fail);go_wp2;go_step3;refine e _ _ ?_ ?_
  .unfold nG
   (repeat apply Exists.intro)
   rfl
  .exact⟨_,rfl⟩
 |false=>
  have f:¬l=0:=by simpa using u
  rw[jg f]at e;clear f;go_wp2_with fail;go_quiet (fail);go_wp2;go_step3;refine e _ _ ?_ ?_
  .unfold nG
   (repeat apply Exists.intro)
   rfl
  .exact⟨_,rfl⟩
set_option maxRecDepth 1000000 in
theorem asI(H:Nat)(vv rv:jm)(fuel:Int)(k:Nat){F:Act}(p:nG cb co H M vv rv fuel k F)(Q:Exit->Act->jk->Prop)(hf:0<fuel)(S:fuel<=9223372036854775807)(T:k<jB.length)(o:jB.length<=1000000)
 (I:kP B C w M SB v m)(i:uz B w cb co sb so cap jB)(l:Int)(b c:Nat)(d:Int)(a:Nat)(t:Int)(h:jB[k]? =some ⟨4,l,b,c,d,a,t⟩)(hb:b<m.jD.length)(s:c<m.jD.length)(u:a<8)
 (x:∀E f,nG cb co H M vv rv (fuel-1) (Hx.kR ⟨4,l,b,c,d,a,t⟩ k (Hx.rX v ⟨4,l,b,c,d,a,t⟩ m)).2 E->kP B C f M SB v (Hx.kR ⟨4,l,b,c,d,a,t⟩ k (Hx.rX v ⟨4,l,b,c,d,a,t⟩ m)).1->Below B w f->Q (.goto 1) E f):
 Code.wp prog (zG Tryz.f16 1) Q F w:=by
 unfold nG at p
 iterate 139 obtain⟨_,p⟩:=p
 subst p;have hd:decide (fuel<=0)=false:=by simp;omega
 have i0:(0:Int)<=(k:Int):=by omega
 have j0:(k:Int)<(jB.length:Int):=by omega
 have k1:(k:Int)<=1000000:=by omega
 have D:=akg I sb (so+k * 7) 4 l b c d a t (i.step k _ h) s u;have K:Hid (Calls prog 52 #[Pt M 0,Pt sb (so+k * 7)] w λe f=>e=.returned (.tuple #[])/\kP B C f M SB v (Hx.rX v ⟨4,l,b,c,d,a,t⟩ m)/\Below B w f):=D;clear D;have L:Hid (∀f,kP B C f M SB v (Hx.rX v ⟨4,l,b,c,d,a,t⟩ m)->Below B w f->f.cell? (Ad cb co)=some (.slice (some (Ad sb so)) jB.length cap)/\
  Calls prog 53 #[Pt M 0,.slice (some (Ad sb so)) jB.length cap,Im k] f λe g=>e=.returned (Im (Hx.kR ⟨4,l,b,c,d,a,t⟩ k (Hx.rX v ⟨4,l,b,c,d,a,t⟩ m)).2)/\kP B C g M SB v (Hx.kR ⟨4,l,b,c,d,a,t⟩ k (Hx.rX v ⟨4,l,b,c,d,a,t⟩ m)).1/\Below B f g):=λf O P=>by
  have n:=i.keep P;exact⟨n.slice,Yz O sb so jB.length cap k _ i.Hu T o (n.step k _ h) ⟨by show(0:Int)<=(b:Int);omega,by show(b:Int)<_;simp[Hx.rX,Hx.Mc.lY];omega⟩ ⟨by show(0:Int)<=(a:Int);omega,by show(a:Int)<8;omega⟩⟩
 have U:=i.slice;obtain⟨X,Y,Z,s3,s4,s5,s6⟩:=i.step k _ h;simp only at X Y Z s3 s4 s5 s6;generalize G:jB.length=N at *;have HN:Hid (jB.length=N):=G;clear G;clear I i
 conv=>arg 2;whnf
 generalize (Hx.kR ⟨4,l,b,c,d,a,t⟩ k (Hx.rX v ⟨4,l,b,c,d,a,t⟩ m)).2=W at *;generalize (Hx.kR ⟨4,l,b,c,d,a,t⟩ k (Hx.rX v ⟨4,l,b,c,d,a,t⟩ m)).1=V at *;generalize Hx.rX v ⟨4,l,b,c,d,a,t⟩ m=m1 at *;go_wp2_with fail;refine(K.out).mono ?_;rintro e A ⟨rfl,y,j⟩;obtain⟨R,J⟩:=L.out A y j;have q:Hid (Calls prog 53 #[Pt M 0,.slice (some (Ad sb so)) N cap,Im k] A λe g=>e=.returned (Im W)/\kP B C g M SB v V/\Below B A g):=J;clear J;go_wp2_with fail;refine(q.out).mono ?_;rintro e w2 ⟨rfl,z,r⟩;go_wp2;go_step3;refine x _ _ ?_ z (j.trans r);unfold nG
 (repeat apply Exists.intro)
 rfl
set_option maxRecDepth 1000000 in
theorem asG(H:Nat)(vv rv:jm)(fuel:Int)(k:Nat){E:Act}(r:nG cb co H M vv rv fuel k E)(Q:Exit->Act->jk->Prop)(Z:0<fuel)(L:fuel<=9223372036854775807)(hk:k<jB.length)(o:jB.length<=1000000)
 (G:kP B C w M SB v m)(i:uz B w cb co sb so cap jB)(a:Int)(b c d K:Int)(t:Nat)(z:jB[k]? =some ⟨0,a,b,c,d,K,t⟩)(lp:St)(f:jB[t]? =some lp)(j:St.slot m.jD.length lp.b)(l:0<=lp.depth/\lp.depth<8)
 (x:∀D g,nG cb co H M vv rv (fuel-1) (Hx.kR lp t m).2 D->kP B C g M SB v (Hx.kR lp t m).1->Below B w g->Q (.goto 1) D g):
 Code.wp prog (zG Tryz.f16 1) Q E w:=by
 unfold nG at r
 iterate 139 obtain⟨_,r⟩:=r
 subst r;have Y:decide (fuel<=0)=false:=by simp;omega
 have i0:(0:Int)<=(k:Int):=by omega
 have j0:(k:Int)<(jB.length:Int):=by omega
 have k1:(k:Int)<=1000000:=by omega
 have p:t<jB.length:=by
  rcases dG t jB.length with h|h
  .exact h
  .rw[bV h]at f;cases f
 have J:Hid (∀n,Calls prog 53 #[Pt M 0,.slice (some (Ad sb so)) jB.length cap,Im t] (w.drewN n) λe g=>e=.returned (Im (Hx.kR lp t m).2)/\kP B C g M SB v (Hx.kR lp t m).1/\Below B (w.drewN n) g):=λn=>by
  have u:=i.keep (below_drewN (dK B w) n);exact Yz (G.drewN n) sb so jB.length cap t lp i.Hu p o (u.step t lp f) j l
 have O:=i.slice;obtain⟨P,R,S,T,U,V,W⟩:=i.step k _ z;simp only at P R S T U V W;generalize F:jB.length=N at *;have X:Hid (jB.length=N):=F;clear F;clear G i j l f p
 conv=>arg 2;whnf
 generalize (Hx.kR lp t m).2=nx at *;generalize (Hx.kR lp t m).1=m2 at *;go_wp2_with fail;refine nO 9 (by kernel_rfl) (by kernel_rfl) ?_;simp only[aC,aO,aG,aQ];repeat (go_big_quiet_step (fail))
 refine bF ?_;intro _ A;obtain⟨I,q⟩:=A;subst q;go_wp2_with fail;refine(J.out I).mono ?_;rintro e w2 ⟨rfl,y,s⟩;go_wp2;go_step3;refine x _ _ ?_ y ((below_drewN (dK B w) I).trans s);unfold nG
 (repeat apply Exists.intro)
 rfl
set_option maxRecDepth 1000000 in
theorem asN(H:Nat)(vv rv:jm)(fuel:Int)(k:Nat){G:Act}(r:nG cb co H M vv rv fuel k G)(Q:Exit->Act->jk->Prop)(hf:0<fuel)(R:fuel<=9223372036854775807)(hk:k<jB.length)(o:jB.length<=1000000)
 (s:kP B C w M SB v m)(i:uz B w cb co sb so cap jB)(a:Nat)(b c d O:Int)(t:Nat)(A:jB[k]? =some ⟨5,a,b,c,d,O,t⟩)(P:a<m.jD.length)(J:m.jD.getD a 0=0)(lp:St)(f:jB[t]? =some lp)(j:St.slot m.jD.length lp.b)(l:0<=lp.depth/\lp.depth<8)
 (y:∀F g,nG cb co H M vv rv (fuel-1) (Hx.kR lp t m).2 F->kP B C g M SB v (Hx.kR lp t m).1->Below B w g->Q (.goto 1) F g):
 Code.wp prog (zG Tryz.f16 1) Q G w:=by
 unfold nG at r
 iterate 139 obtain⟨_,r⟩:=r
 subst r;have hd:decide (fuel<=0)=false:=by simp;omega
 have i0:(0:Int)<=(k:Int):=by omega
 have j0:(k:Int)<(jB.length:Int):=by omega
 have k1:(k:Int)<=1000000:=by omega
 have p:t<jB.length:=by
  rcases dG t jB.length with h|h
  .exact h
  .rw[bV h]at f;cases f
 have L:Hid (∀n,Calls prog 53 #[Pt M 0,.slice (some (Ad sb so)) jB.length cap,Im t] (w.drewN n) λe g=>e=.returned (Im (Hx.kR lp t m).2)/\kP B C g M SB v (Hx.kR lp t m).1/\Below B (w.drewN n) g):=λn=>by
  have x:=i.keep (below_drewN (dK B w) n);exact Yz (s.drewN n) sb so jB.length cap t lp i.Hu p o (x.step t lp f) j l
 have S:=i.slice;obtain⟨T,U,V,W,X,Y,Z⟩:=i.step k _ A;simp only at T U V W X Y Z;generalize I:jB.length=N at *;have HN:Hid (jB.length=N):=I;clear I;have hs:=s.jD;have ca:=s.slot a P;rw[J]at ca;clear s i j l f p;clear J;generalize m.jD.length=E at *;have i1:(0:Int)<=(a:Int):=by omega
 have j1:(a:Int)<(E:Int):=by omega
 conv=>arg 2;whnf
 generalize (Hx.kR lp t m).2=nx at *;generalize (Hx.kR lp t m).1=m2 at *;go_wp2_with fail;go_quiet (fail);go_wp2_with fail;refine Dp 9 (by kernel_rfl) (by kernel_rfl) ?_;simp only[aC,aO,aG,aQ];repeat (go_big_quiet_step (fail))
 refine bF ?_;intro _ D;obtain⟨K,q⟩:=D;subst q;go_wp2_with fail;refine(L.out K).mono ?_;rintro e w2 ⟨rfl,z,u⟩;go_wp2;go_step3;refine y _ _ ?_ z ((below_drewN (dK B w) K).trans u);unfold nG
 (repeat apply Exists.intro)
 rfl
set_option maxRecDepth 1000000 in
theorem asP(H:Nat)(vv rv:jm)(fuel:Int)(k:Nat){l:Act}(e:nG cb co H M vv rv fuel k l)(Q:Exit->Act->jk->Prop)(R:0<fuel)(y:fuel<=9223372036854775807)(S:k<jB.length)(q:jB.length<=1000000)
 (g:kP B C w M SB v m)(p:uz B w cb co sb so cap jB)(a:Nat)(b c d u t:Int)(h:jB[k]? =some ⟨5,a,b,c,d,u,t⟩)(x:a<m.jD.length)(r:¬m.jD.getD a 0=0)
 (f:∀j s,nG cb co H M vv rv (fuel-1) (k+1) j->(∃n,s=w.drewN n)->Q (.goto 1) j s):
 Code.wp prog (zG Tryz.f16 1) Q l w:=by
 unfold nG at e
 iterate 139 obtain⟨_,e⟩:=e
 subst e;have P:decide (fuel<=0)=false:=by simp;omega
 have U:(0:Int)<=(k:Int):=by omega
 have W:(k:Int)<(jB.length:Int):=by omega
 have Y:(k:Int)<=1000000:=by omega
 have z:=p.slice;obtain⟨D,E,F,G,I,J,K⟩:=p.step k _ h;simp only at D E F G I J K;generalize o:jB.length=N at *;have O:Hid (jB.length=N):=o;clear o;have T:=g.jD;have ca:=g.slot a x;clear g;generalize m.jD.getD a 0=L at *;generalize m.jD.length=i at *;have V:(0:Int)<=(a:Int):=by omega
 have X:(a:Int)<(i:Int):=by omega
 have A:(L==0)=false:=by simpa using r
 clear r
 conv=>arg 2;whnf
 go_wp2_with fail;go_quiet (fail);go_wp2;go_step3;refine f _ _ ?_ ?_
 .unfold nG
  (repeat apply Exists.intro)
  rfl
 .exact⟨_,rfl⟩
set_option maxRecDepth 1000000 in
theorem asL(H:Nat)(vv rv:jm)(fuel:Int)(k:Nat){A:Act}(o:nG cb co H M vv rv fuel k A)(Q:Exit->Act->jk->Prop)(hf:0<fuel)(S:fuel<=9223372036854775807)(hk:k<jB.length)(E:jB.length<=1000000)
 (g:kP B C w M SB v m)(q:uz B w cb co sb so cap jB)(a b:Nat)(c d O t:Int)(u:jB[k]? =some ⟨36,a,b,c,d,O,t⟩)(P:a<m.jD.length)(R:b<m.jD.length)(i:m.jP.length<=256)(y:Mc)(f:Hx.push v (m.jD.getD a 0) (m.jD.getD b 0) m=some y)
 (r:∀z h,nG cb co H M vv rv (fuel-1) (k+1) z->kP B C h M SB v y->Below B w h->Q (.goto 1) z h):
 Code.wp prog (zG Tryz.f16 1) Q A w:=by
 unfold nG at o
 iterate 139 obtain⟨_,o⟩:=o
 subst o;have hd:decide (fuel<=0)=false:=by simp;omega
 have i0:(0:Int)<=(k:Int):=by omega
 have j0:(k:Int)<(jB.length:Int):=by omega
 have k1:(k:Int)<=1000000:=by omega
 have J:Hid (∀n,Calls prog 54 #[Pt M 0,Im (m.jD.getD a 0),Im (m.jD.getD b 0)] (w.drewN n) λe h=>e=.returned (.bool true)/\(∀F,Hx.push v (m.jD.getD a 0) (m.jD.getD b 0) m=some F->kP B C h M SB v F)/\Below B (w.drewN n) h):=λn=>by
  have:=agf (g.drewN n) (m.jD.getD a 0) (m.jD.getD b 0) (g.D6 b).2 i;rw[f]at this⊢;exact this
 have T:=q.slice;obtain⟨U,V,W,X,Y,Z,s6⟩:=q.step k _ u;simp only at U V W X Y Z s6;generalize D:jB.length=N at *;have HN:Hid (jB.length=N):=D;clear D;have hs:=g.jD;have ca:=g.slot a P;have L:=g.slot b R;clear g q;have K:=f;generalize m.jD.getD a 0=xa at *;generalize m.jD.getD b 0=xb at *;have I:Hid (Hx.push v xa xb m=some y):=f;clear f K;generalize m.jD.length=l at *;have i1:(0:Int)<=(a:Int):=by omega
 have j1:(a:Int)<(l:Int):=by omega
 have i2:(0:Int)<=(b:Int):=by omega
 have j2:(b:Int)<(l:Int):=by omega
 conv=>arg 2;whnf
 go_wp2_with fail;refine nO 23 (by kernel_rfl) (by kernel_rfl) ?_;simp only[aC,aO,aG,aQ];repeat (go_big_quiet_step (fail))
 refine bF ?_;intro _ x;obtain⟨G,j⟩:=x;subst j;go_wp2_with fail;refine(J.out G).mono ?_;rintro e w2 ⟨rfl,s,p⟩;go_wp2;go_step3;refine r _ _ ?_ (s _ I.out) ((below_drewN (dK B w) G).trans p);unfold nG
 (repeat apply Exists.intro)
 rfl
set_option maxRecDepth 1000000 in
theorem asK(H:Nat)(vv rv:jm)(fuel:Int)(k:Nat){y:Act}(o:nG cb co H M vv rv fuel k y)(Q:Exit->Act->jk->Prop)(hf:0<fuel)(O:fuel<=9223372036854775807)(hk:k<jB.length)(A:jB.length<=1000000)
 (g:kP B C w M SB v m)(q:uz B w cb co sb so cap jB)(a b:Nat)(c d J t:Int)(s:jB[k]? =some ⟨36,a,b,c,d,J,t⟩)(K:a<m.jD.length)(L:b<m.jD.length)(h:m.jP.length<=256)(f:Hx.push v (m.jD.getD a 0) (m.jD.getD b 0) m=none)
 (r:∀x l,Ey cb co H M vv rv 1 x->Below B w l->Q (.goto 0) x l):
 Code.wp prog (zG Tryz.f16 1) Q y w:=by
 unfold nG at o
 iterate 139 obtain⟨_,o⟩:=o
 subst o;have hd:decide (fuel<=0)=false:=by simp;omega
 have i0:(0:Int)<=(k:Int):=by omega
 have j0:(k:Int)<(jB.length:Int):=by omega
 have k1:(k:Int)<=1000000:=by omega
 have F:Hid (∀n,Calls prog 54 #[Pt M 0,Im (m.jD.getD a 0),Im (m.jD.getD b 0)] (w.drewN n) λe l=>e=.returned (.bool false)/\(∀D,Hx.push v (m.jD.getD a 0) (m.jD.getD b 0) m=some D->kP B C l M SB v D)/\Below B (w.drewN n) l):=λn=>by
  have:=agf (g.drewN n) (m.jD.getD a 0) (m.jD.getD b 0) (g.D6 b).2 h;rw[f]at this⊢;exact this
 have R:=q.slice;obtain⟨S,T,U,V,W,X,Y⟩:=q.step k _ s;simp only at S T U V W X Y;generalize z:jB.length=N at *;have HN:Hid (jB.length=N):=z;clear z;have hs:=g.jD;have ca:=g.slot a K;have I:=g.slot b L;clear g q;have G:=f;generalize m.jD.getD a 0=Z at *;generalize m.jD.getD b 0=xb at *;have HP:Hid (Hx.push v Z xb m=none):=f;clear f G;generalize m.jD.length=j at *;have i1:(0:Int)<=(a:Int):=by omega
 have j1:(a:Int)<(j:Int):=by omega
 have i2:(0:Int)<=(b:Int):=by omega
 have j2:(b:Int)<(j:Int):=by omega
 conv=>arg 2;whnf
 go_wp2_with fail;refine nO 23 (by kernel_rfl) (by kernel_rfl) ?_;simp only[aC,aO,aG,aQ];repeat (go_big_quiet_step (fail))
 refine bF ?_;intro _ u;obtain⟨E,i⟩:=u;subst i;go_wp2_with fail;refine(F.out E).mono ?_;rintro e w2 ⟨rfl,P,p⟩;go_wp2;go_step3;refine r _ _ ?_ ((below_drewN (dK B w) E).trans p);unfold Ey
 (repeat apply Exists.intro)
 rfl
set_option maxRecDepth 1000000 in
theorem asQ(H:Nat)(vv rv:jm)(fuel:Int)(k:Nat){j:Act}(d:nG cb co H M vv rv fuel k j)(Q:Exit->Act->jk->Prop)(z:0<fuel)(r:fuel<=9223372036854775807)(A:k<jB.length)(n:jB.length<=1000000)
 (o:kP B C w M SB v m)(b:uz B w cb co sb so cap jB)(s:St)(c:jB[k]? =some s)(t:s.TP m.jD.length)(q1:(s.op==1)=false)(G:(s.op==2)=false)(I:(s.op==3)=false)(J:(s.op==4)=false)(K:(s.op==5)=false)(L:(s.op==0)=false)(O:(s.op==36)=false)
 (g:∀i a,nG cb co H M vv rv (fuel-1) (k+1) i->kP B C a M SB v (Hx.work v s m)->Below B w a->Q (.goto 1) i a):
 Code.wp prog (zG Tryz.f16 1) Q j w:=by
 unfold nG at d
 iterate 139 obtain⟨_,d⟩:=d
 subst d;have y:decide (fuel<=0)=false:=by simp;omega
 have D:(0:Int)<=(k:Int):=by omega
 have E:(k:Int)<(jB.length:Int):=by omega
 have F:(k:Int)<=1000000:=by omega
 have p:=avG o sb (so+k * 7) s b.Hu (b.step k _ c) t;have q:Hid (Calls prog 55 #[Pt M 0,Pt sb (so+k * 7)] w λe a=>e=.returned (.tuple #[])/\kP B C a M SB v (Hx.work v s m)/\Below B w a):=p;clear p;have u:=b.slice;obtain⟨P,R,S,T,U,V,W⟩:=b.step k _ c;generalize l:jB.length=N at *;have x:Hid (jB.length=N):=l;clear l;clear o b
 conv=>arg 2;whnf
 go_wp2_with fail;refine(q.out).mono ?_;rintro e X ⟨rfl,h,f⟩;go_wp2;go_step3;refine g _ _ ?_ h f;unfold nG
 (repeat apply Exists.intro)
 rfl
def xI(w:jk)(H:Nat):Prop:=
 w.cell? (Ad (H+1+1) 0)=some (.int .u8 0)/\w.cell? (Ad (H+1+1) 1)=some (Nl)/\(∀j,j<8->w.cell? (Ad (H+1+1) (2+j))=some (Im 0))/\(∀j,w.frozen? (Ad (H+1+1) j)=false)
theorem xI.keep{B:Nat}{w w':jk}{H:Nat}(h:xI w H)(c:Below B w w')(b:H+1+1<B):xI w' H:=by
 obtain⟨d,e,f,g⟩:=h;have a:∀o,w'.cell? (Ad (H+1+1) o)=w.cell? (Ad (H+1+1) o):=λo=>c.cell (p:=(Ad (H+1+1) o)) b;exact⟨by rw[a];exact d,by rw[a];exact e,λj i=>by rw[a];exact f j i,λj=>by rw[c.frozen (p:=(Ad (H+1+1) j)) b];exact g j⟩
def FC(w:jk)(H:Nat)(st:Int)(va:jm)(x0 x1 x2 x3 x4 x5 x6 x7:Int):jk:=
 ((((((((((w.setCell (Ad (H+1+1) 0) (.int .u8 st)).setCell (Ad (H+1+1) 1) va).setCell (Ad (H+1+1) 2) (Im x0)).setCell (Ad (H+1+1) 3) (Im x1)).setCell (Ad (H+1+1) 4) (Im x2)).setCell (Ad (H+1+1) 5) (Im x3)).setCell (Ad (H+1+1) 6) (Im x4)).setCell (Ad (H+1+1) 7) (Im x5)).setCell (Ad (H+1+1) 8) (Im x6)).setCell (Ad (H+1+1) 9) (Im x7))
set_option maxRecDepth 1000000 in
theorem asM(H:Nat)(vv rv:jm)(fuel:Int)(k:Nat){E:Act}(r:nG cb co H M vv rv fuel k E)(Q:Exit->Act->jk->Prop)(hf:0<fuel)(ab:fuel<=9223372036854775807)(hk:k<jB.length)(I:jB.length<=1000000)
 (J:kP B C w M SB v m)(z:uz B w cb co sb so cap jB)(a b c d dp t:Int)(A:jB[k]? =some ⟨1,a,b,c,d,dp,t⟩)(h8:8<=m.jD.length)(hH:H+1+1<B)(j:xI w H)
 (p:∀u i l,i.ownsRow C 76 2 l m.jP.length (nT m.jP)->(∃a n c,l=.slice a n c)->Below B w i->xI i H->u.tmps.getD 8 undef=Pt (H+1+1) 0->u.defers=[]->Q .ret u (FC i H 0 l (m.jD.getD 0 0) (m.jD.getD 1 0) (m.jD.getD 2 0) (m.jD.getD 3 0) (m.jD.getD 4 0) (m.jD.getD 5 0) (m.jD.getD 6 0) (m.jD.getD 7 0))):
 Code.wp prog (zG Tryz.f16 1) Q E w:=by
 unfold nG at r
 iterate 139 obtain⟨_,r⟩:=r
 subst r;have hd:decide (fuel<=0)=false:=by simp;omega
 have i0:(0:Int)<=(k:Int):=by omega
 have j0:(k:Int)<(jB.length:Int):=by omega
 have k1:(k:Int)<=1000000:=by omega
 have O:Hid (Calls prog 51 #[Pt M 0] w λe L=>∃l,e=.returned (vG 0 l m.jD)/\L.ownsRow C 76 2 l m.jP.length (nT m.jP)/\Below B w L):=alg J h8;have P:Hid (xI w H):=j;have ac:=z.slice;obtain⟨s0,s1,s2,s3,s4,s5,s6⟩:=z.step k _ A;simp only at s0 s1 s2 s3 s4 s5 s6;generalize G:jB.length=N at *;have HN:Hid (jB.length=N):=G;clear G;clear J z j
 conv=>arg 2;whnf
 go_wp2_with fail;refine(O.out).mono ?_;rintro e i ⟨l,rfl,f,o⟩;obtain⟨aa,x,q⟩:∃aa x,l=.slice aa m.jP.length x:=by
  obtain⟨h1,h2⟩:=f;rcases h2 with⟨y,F⟩|⟨g,cap,R,y,F⟩
  .exact⟨none,0,by rw[y,F]⟩
  .exact⟨_,_,y⟩
 subst q;have K:=P.out.keep o hH;have s:Hid (xI i H):=K;obtain⟨c0,c1,h,cf⟩:=K;have S:=h 0 (by omega);have T:=h 1 (by omega);have U:=h 2 (by omega);have V:=h 3 (by omega);have W:=h 4 (by omega);have X:=h 5 (by omega);have Y:=h 6 (by omega);have Z:=h 7 (by omega);simp only[Nat.reduceAdd]at S T U V W X Y Z;have D:Hid (i.ownsRow C 76 2 (.slice aa m.jP.length x) m.jP.length (nT m.jP)/\Below B w i):=⟨f,o⟩;clear f o h;unfold vG;go_wp2;exact p _ i _ D.out.1 ⟨_,_,_,rfl⟩ D.out.2 s.out rfl rfl
end
end
section
open Go.RowKit
open Hx (Rd Pk Vw St Mc jK Out)
section
variable {B C:Nat}{w:jk}{M SB:Nat}{v:Vw}{m:Mc}{cb co sb so cap:Nat}{jB:List St}{H:Nat}{vv rv:jm}
theorem Rw(m:Mc)(i x:Int):(m.put i x).jD.length=m.jD.length:=by simp[Hx.Mc.put]
theorem aov(m:Mc)(i x:Int):(m.lY i x).jD.length=m.jD.length:=rfl
theorem aou(s:St)(b:Bool)(m:Mc):(Hx.choose s b m).jD.length=m.jD.length:=by
 unfold Hx.choose;split
 .rw[Rw,Rw]
 .rfl
theorem aow(v:Vw)(s:St)(m:Mc):(Hx.work v s m).jD.length=m.jD.length:=by
 unfold Hx.work;repeat' split
 all_goals first|exact Rw _ _ _|exact aou _ _ _
theorem ajw(s:St)(b:Bool)(m:Mc):(Hx.choose s b m).jP=m.jP:=by unfold Hx.choose;split<;>rfl
theorem ajy(v:Vw)(s:St)(m:Mc):(Hx.work v s m).jP=m.jP:=by
 unfold Hx.work;repeat' split
 all_goals first|rfl|exact ajw _ _ _
theorem WS(s:St)(k:Int)(m:Mc):(Hx.kR s k m).1.jD.length=m.jD.length:=by
 unfold Hx.kR;split
 .rfl
 .rw[aov,Rw]
theorem UD(s:St)(k:Int)(m:Mc):(Hx.kR s k m).1.jP=m.jP:=by unfold Hx.kR;split<;>rfl
theorem LV(s:St)(k:Int)(m:Mc):(Hx.kR s k m).2=s.kD\/(Hx.kR s k m).2=k+1:=by unfold Hx.kR;split<;>simp
theorem arw{v:Vw}{i j:Int}{m a:Mc}(h:Hx.push v i j m=some a)(b:m.jP.length<=256):a.jD.length=m.jD.length/\a.jP.length<=256:=by
 unfold Hx.push at h;split at h
 .split at h
  .cases h
  .cases h;simp;omega
 .cases h;exact⟨rfl,b⟩
structure mW(B C:Nat)(w:jk)(M SB:Nat)(v:Vw)(cb co sb so cap:Nat)(jB:List St)(n:Nat)(H:Nat)(jF:List Int)(o:Out)(fuel k:Int)(m:Mc):Prop where
 awz:kP B C w M SB v m
 code:uz B w cb co sb so cap jB
 res:xI w H
 len:m.jD.length=n
 jP:m.jP.length<=256
 k0:0<=k
 k1:k<jB.length
 avY:fuel<=9223372036854775807
 out:Hx.runs v jB jF fuel.toNat k m=o
theorem asT{v:Vw}{jB:List St}{jF:List Int}{fuel k:Int}{m:Mc}{s:St}(d:0<fuel)(c:jB[k.toNat]? =some s):
 Hx.runs v jB jF fuel.toNat k m=match Hx.step v jB jF k.toNat s m with
  | .inl o=>o
  | .inr (k',m')=>Hx.runs v jB jF (fuel-1).toNat k' m':=by
 obtain⟨f,a⟩:∃f,fuel.toNat=f+1:=⟨fuel.toNat-1,by omega⟩;have e:(fuel-1).toNat=f:=by omega
 rw[a,e,Hx.runs,c];cases b:Hx.step v jB jF k.toNat s m<;>simp[b]
set_option maxRecDepth 1000000 in
theorem agK{n:Nat}{jF:List Int}{o:Out}{fuel k:Int}(Z:Hx.Fits jB n)(h8:8<=n)(hH:H+1+1<B)(a:Act)(S:nG cb co H M vv rv fuel k a)(hg:mW B C w M SB v cb co sb so cap jB n H jF o fuel k m)(Q:Exit->Act->jk->Prop)
 (E:∀j g I k' m',nG cb co H M vv rv I k' j->mW B C g M SB v cb co sb so cap jB n H jF o I k' m'->Below B w g->0<fuel->I=fuel-1->Q (.goto 1) j g)
 (al:∀j g st,Ey cb co H M vv rv st j->o=⟨st,jF,[]⟩->xI g H->Below B w g->Q (.goto 0) j g)
 (ai:∀j w1 va,o=⟨0,m.jD,m.jP⟩->w1.ownsRow C 76 2 va m.jP.length (nT m.jP)->(∃a n c,va=.slice a n c)->Below B w w1->xI w1 H->j.tmps.getD 8 undef=Pt (H+1+1) 0->j.defers=[]->Q .ret j (FC w1 H 0 va (m.jD.getD 0 0) (m.jD.getD 1 0) (m.jD.getD 2 0) (m.jD.getD 3 0) (m.jD.getD 4 0) (m.jD.getD 5 0) (m.jD.getD 6 0) (m.jD.getD 7 0))):
 Code.wp prog (zG Tryz.f16 1) Q a w:=by
 obtain⟨R,P,hr,X,x,ao,av,y,ab⟩:=hg;obtain⟨k,rfl⟩:=bI ao;have r:k<jB.length:=by omega
 have h:=Z.len;obtain⟨s,p⟩:∃s,jB[k]? =some s:=⟨jB[k],by simp[r]⟩;have D:=Z.each k s p;by_cases z:0<fuel
 .have f:=asT (v:=v) (jF:=jF) (m:=m) z (show jB[((k:Nat):Int).toNat]? =some s from p);rw[ab]at f;simp only[bK]at f;obtain⟨q,a,b,c,d,J,t⟩:=s;have l:∀g,Below B w g->uz B g cb co sb so cap jB/\xI g H:=λg Y=>⟨P.keep Y,hr.keep Y hH⟩;by_cases q1:q=1
  .subst q1;refine asM H vv rv fuel k S Q z y r h R P a b c d J t p (by omega) hH hr ?_;intro j w1 va u K G h4 h5 h6;exact ai j w1 va (by simpa [Hx.step]using f) u K G h4 h5 h6
  by_cases q3:q=3
  .subst q3;have ak:=D.acj rfl;refine asF H vv rv fuel k S Q z y r h P a b c d J t p ?_;rintro j g u rfl;exact E j _ _ t m u ⟨R,P,hr,X,x,ak.1,ak.2,by omega,by rw[f];simp[Hx.step]⟩ (dK _ _) z rfl
  by_cases q0:q=0
  .subst q0;obtain⟨lp,U,A,ac,aq,au,ad,L,T⟩:=D.ends rfl;simp only at U A ac;obtain⟨t,rfl⟩:=bI U;simp only[bK]at A;refine asG H vv rv fuel k S Q z y r h R P a b c d J t p lp A (by rw[X];exact ad) ⟨L,T⟩ ?_;intro j g u K G;obtain⟨N,O⟩:=l g G;refine E j g _ _ _ u ⟨K,N,O,by rw[WS];exact X,by rw[UD];exact x,?_,?_,by omega,by rw[f];simp[Hx.step,A]⟩ G z rfl
   .rcases LV lp t m with e|e<;>rw[e]<;>omega
   .rcases LV lp t m with e|e<;>rw[e]<;>omega
  have aw:=D.next q1 q3 q0;by_cases q2:q=2
  .subst q2;obtain⟨⟨F,W⟩,Q7,Q8⟩:=D.ifs rfl;simp only at F W Q7 Q8;obtain⟨a,rfl⟩:=bI F;refine asH H vv rv fuel k S Q z y r h R P a b c d J t p (by omega) ?_;rintro j g u ⟨i,rfl⟩;have Y:Below B w (w.drewN i):=below_drewN (dK _ _) i;obtain⟨N,O⟩:=l _ Y;refine E j _ _ _ m u ⟨R.drewN i,N,O,X,x,?_,?_,by omega,by rw[f];simp[Hx.step,Hx.Mc.get]⟩ Y z rfl
   .split<;>omega
   .split<;>omega
  by_cases q4:q=4
  .subst q4;obtain⟨Q7,Q8,⟨ag,am⟩,⟨ah,an⟩,L,T⟩:=D.jY rfl;simp only at Q7 Q8 ag am ah an L T;obtain⟨b,rfl⟩:=bI ag;obtain⟨c,rfl⟩:=bI ah;obtain⟨J,rfl⟩:=bI L;refine asI H vv rv fuel k S Q z y r h R P a b c d J t p (by omega) (by omega) (by omega) ?_;intro j g u K G;obtain⟨N,O⟩:=l g G;refine E j g _ _ _ u ⟨K,N,O,by rw[WS];exact X,by rw[UD];exact x,?_,?_,by omega,by rw[f];simp[Hx.step]⟩ G z rfl
   .rcases LV ⟨4,a,b,c,d,J,t⟩ k (Hx.rX v ⟨4,a,b,c,d,J,t⟩ m)with e|e<;>rw[e]
    .exact Q7
    .omega
   .rcases LV ⟨4,a,b,c,d,J,t⟩ k (Hx.rX v ⟨4,a,b,c,d,J,t⟩ m)with e|e<;>rw[e]
    .exact Q8
    .omega
  by_cases q5:q=5
  .subst q5;obtain⟨⟨F,W⟩,lp,U,A,ac,aq,au,ad,L,T⟩:=D.Js rfl;simp only at F W U A ac;obtain⟨a,rfl⟩:=bI F;by_cases hz:m.jD.getD a 0=0
   .obtain⟨t,rfl⟩:=bI U;simp only[bK]at A;refine asN H vv rv fuel k S Q z y r h R P a b c d J t p (by omega) hz lp A (by rw[X];exact ad) ⟨L,T⟩ ?_;intro j g u K G;obtain⟨N,O⟩:=l g G;have ae:m.get (a:Int)=0:=by simpa [Hx.Mc.get]using hz
    refine E j g _ _ _ u ⟨K,N,O,by rw[WS];exact X,by rw[UD];exact x,?_,?_,by omega,by rw[f];simp[Hx.step,A,ae]⟩ G z rfl
    .rcases LV lp t m with e|e<;>rw[e]<;>omega
    .rcases LV lp t m with e|e<;>rw[e]<;>omega
   .refine asP H vv rv fuel k S Q z y r h R P a b c d J t p (by omega) hz ?_;rintro j g u ⟨i,rfl⟩;have Y:Below B w (w.drewN i):=below_drewN (dK _ _) i;obtain⟨N,O⟩:=l _ Y;have ae:¬m.get (a:Int)=0:=by simpa [Hx.Mc.get]using hz
    exact E j _ _ _ m u ⟨R.drewN i,N,O,X,x,by omega,by omega,by omega,by rw[f];simp[Hx.step,ae]⟩ Y z rfl
  by_cases q6:q=36
  .subst q6;obtain⟨⟨F,W⟩,aj,ap⟩:=D.Jl rfl;simp only at F W aj ap;obtain⟨a,rfl⟩:=bI F;obtain⟨b,rfl⟩:=bI aj;have e0:Hx.push v (m.get (a:Int)) (m.get (b:Int)) m=Hx.push v (m.jD.getD a 0) (m.jD.getD b 0) m:=by simp[Hx.Mc.get]
   cases V:Hx.push v (m.jD.getD a 0) (m.jD.getD b 0) m with
   |none=>
    refine asK H vv rv fuel k S Q z y r h R P a b c d J t p (by omega) (by omega) x V ?_;intro j g u K;exact al j g 1 u (by rw[f];simp[Hx.step,e0.trans V]) (l g K).2 K
   |some m2=>
    refine asL H vv rv fuel k S Q z y r h R P a b c d J t p (by omega) (by omega) x m2 V ?_;intro j g u K G;obtain⟨N,O⟩:=l g G;obtain⟨p1,p2⟩:=arw V x;exact E j g _ _ m2 u ⟨K,N,O,by omega,p2,by omega,by omega,by omega,by rw[f];simp[Hx.step,e0.trans V]⟩ G z rfl
  .refine asQ H vv rv fuel k S Q z y r h R P _ p (by rw[X];exact D.works q1 q2 q3 q4 q5 q0 q6) (by simpa using q1) (by simpa using q2) (by simpa using q3) (by simpa using q4) (by simpa using q5) (by simpa using q0) (by simpa using q6) ?_;intro j g u K G;obtain⟨N,O⟩:=l g G;exact E j g _ _ _ u ⟨K,N,O,by rw[aow];exact X,by rw[ajy];exact x,by omega,by omega,by omega,by rw[f];simp[Hx.step,q1,q2,q3,q4,q5,q0,q6]⟩ G z rfl
 .refine asO H vv rv fuel k S Q (by omega) ?_;intro j u;refine al j w 2 u ?_ hr (dK _ _);rw[<-ab];have e:fuel.toNat=0:=by omega
  rw[e]
  rfl
def JK(w:jk)(H:Nat)(x0 x1 x2 x3 x4 x5 x6 x7:Int):Prop:=
 ∀j,j<8->w.cell? (Ad (H+1) j)=some (Im ([x0,x1,x2,x3,x4,x5,x6,x7].getD j 0))
set_option maxRecDepth 1000000 in
theorem abj{fuel k:Int}{a:Act}(b:nG cb co H M vv rv fuel k a):a.tmps.getD 3 undef=Im fuel:=by
 unfold nG at b
 iterate 139 obtain⟨_,b⟩:=b
 subst b
 rfl
set_option maxRecDepth 1000000 in
theorem asR{st x0 x1 x2 x3 x4 x5 x6 x7:Int}(a:Act)(e:Ey cb co H M vv rv st a)(c:JK w H x0 x1 x2 x3 x4 x5 x6 x7)(p:xI w H)(Q:Exit->Act->jk->Prop)
 (d:∀f,f.tmps.getD 8 undef=Pt (H+1+1) 0->f.defers=[]->Q .ret f (FC w H st (Nl) x0 x1 x2 x3 x4 x5 x6 x7)):
 Code.wp prog (zG Tryz.f16 0) Q a w:=by
 unfold Ey at e
 iterate 141 obtain⟨_,e⟩:=e
 subst e;have q:=c 0 (by omega);have r:=c 1 (by omega);have s:=c 2 (by omega);have t:=c 3 (by omega);have u:=c 4 (by omega);have x:=c 5 (by omega);have y:=c 6 (by omega);have z:=c 7 (by omega);simp only[iR,iT]at q r s t u x y z;obtain⟨A,D,b,cf⟩:=p;have g:=b 0 (by omega);have h:=b 1 (by omega);have i:=b 2 (by omega);have j:=b 3 (by omega);have k:=b 4 (by omega);have l:=b 5 (by omega);have n:=b 6 (by omega);have o:=b 7 (by omega);simp only[Nat.reduceAdd]at g h i j k l n o;clear c b
 conv=>arg 2;whnf
 go_wp2;exact d _ rfl rfl
def ajk(B C:Nat)(M SB:Nat)(v:Vw)(cb co sb so cap:Nat)(jB:List St)(n H:Nat)(jF:List Int)(o:Out)(vv rv:jm)(W:jk):Nat->Act->jk->Prop
 |0,a,w=>∃st,Ey cb co H M vv rv st a/\o=⟨st,jF,[]⟩/\xI w H/\Below B W w
 |1,a,w=>∃fuel k m,nG cb co H M vv rv fuel k a/\mW B C w M SB v cb co sb so cap jB n H jF o fuel k m/\Below B W w
 |_,_,_=>False
def asC:Nat->Act->jk->Nat
 |1,a,_=>1+(intOf (a.tmps.getD 3 undef)).toNat
 |_,_,_=>0
theorem agp(w:jk)(H:Nat)(st:Int)(va:jm)(x0 x1 x2 x3 x4 x5 x6 x7:Int):w.grownBy (FC w H st va x0 x1 x2 x3 x4 x5 x6 x7) (some (H+1+1)):=by
 unfold FC;exact(((((((((vX _ (Ad (H+1+1) 0) _).trans (vX _ (Ad (H+1+1) 1) _)).trans (vX _ (Ad (H+1+1) 2) _)).trans (vX _ (Ad (H+1+1) 3) _)).trans (vX _ (Ad (H+1+1) 4) _)).trans (vX _ (Ad (H+1+1) 5) _)).trans (vX _ (Ad (H+1+1) 6) _)).trans (vX _ (Ad (H+1+1) 7) _)).trans (vX _ (Ad (H+1+1) 8) _)).trans (vX _ (Ad (H+1+1) 9) _)
theorem arH(w:jk)(H:Nat)(q:xI w H)(st:Int)(a:Option Addr)(n c:Nat)(x0 x1 x2 x3 x4 x5 x6 x7:Int)(t:Array jm)(r:t.getD 8 undef=Pt (H+1+1) 0):
 (results Tryz.f16 t).run prog (FC w H st (.slice a n c) x0 x1 x2 x3 x4 x5 x6 x7)=.ok (vG st (.slice a n c) [x0,x1,x2,x3,x4,x5,x6,x7]) (FC w H st (.slice a n c) x0 x1 x2 x3 x4 x5 x6 x7):=by
 obtain⟨o,p,b,cf⟩:=q;have e:=b 0 (by omega);have f:=b 1 (by omega);have g:=b 2 (by omega);have h:=b 3 (by omega);have i:=b 4 (by omega);have j:=b 5 (by omega);have k:=b 6 (by omega);have l:=b 7 (by omega);simp only[Nat.reduceAdd]at e f g h i j k l;have d:t[8]?.getD undef=Pt (H+1+1) 0:=by simpa using r
 unfold FC vG;simp[results,Tryz.results16,go_sem,d,o,p,e,f,g,h,i,j,k,l]
def boxes(w:jk)(ar af aa:Option Addr)(nr cr nf cf na ca:Nat)(x0 x1 x2 x3 x4 x5 x6 x7:Int):jk:=
 ((w.alloc (Obj.cells #[.slice ar nr cr,.slice af nf cf,.slice aa na ca] 25)).alloc
   (Obj.cells #[Im x0,Im x1,Im x2,Im x3,Im x4,Im x5,Im x6,Im x7] 26)).alloc
   (Obj.cells #[.int .u8 0,Nl,Im 0,Im 0,Im 0,Im 0,Im 0,Im 0,Im 0,Im 0] 35)
section
variable (w:jk)(ar af aa:Option Addr)(nr cr nf cf na ca:Nat)(x0 x1 x2 x3 x4 x5 x6 x7:Int)
theorem akE:(boxes w ar af aa nr cr nf cf na ca x0 x1 x2 x3 x4 x5 x6 x7).heap.size=w.heap.size+1+1+1:=by simp[boxes]
theorem akF(k:Nat):(boxes w ar af aa nr cr nf cf na ca x0 x1 x2 x3 x4 x5 x6 x7).cell? (Ad w.heap.size k)=#[Value.slice ar nr cr,.slice af nf cf,.slice aa na ca][k]? :=by
 unfold boxes;rw[gB _ _ _ (by simp;omega),gB _ _ _ (by simp)];exact fQ _ _ _ _ rfl
theorem akC:JK (boxes w ar af aa nr cr nf cf na ca x0 x1 x2 x3 x4 x5 x6 x7) w.heap.size x0 x1 x2 x3 x4 x5 x6 x7:=by
 intro j a;unfold boxes;rw[gB _ _ _ (by simp),fQ _ _ _ _ (by simp)];have:=agw x0 x1 x2 x3 x4 x5 x6 x7 j a;rw[<-this];simp[wJ]
theorem akD:xI (boxes w ar af aa nr cr nf cf na ca x0 x1 x2 x3 x4 x5 x6 x7) w.heap.size:=by
 have h:∀k,(boxes w ar af aa nr cr nf cf na ca x0 x1 x2 x3 x4 x5 x6 x7).cell? (Ad (w.heap.size+1+1) k)=#[Value.int .u8 0,Nl,Im 0,Im 0,Im 0,Im 0,Im 0,Im 0,Im 0,Im 0][k]? :=λk=>fQ _ _ _ _ (by simp);refine⟨by rw[h];rfl,by rw[h];rfl,λj a=>?_,λj=>World.frozen?_alloc_at _ _ _ _ (by simp)⟩;rw[h];have:j=0\/j=1\/j=2\/j=3\/j=4\/j=5\/j=6\/j=7:=by omega
 rcases this with rfl|rfl|rfl|rfl|rfl|rfl|rfl|rfl<;>rfl
theorem akB:w.grownBy (boxes w ar af aa nr cr nf cf na ca x0 x1 x2 x3 x4 x5 x6 x7) none:=by
 unfold boxes;exact((ah w _ none).trans (ah _ _ none)).trans (ah _ _ none)
end
theorem JK.keep{B:Nat}{w w':jk}{H:Nat}{x0 x1 x2 x3 x4 x5 x6 x7:Int}(h:JK w H x0 x1 x2 x3 x4 x5 x6 x7)(b:Below B w w')(a:H+1<B):JK w' H x0 x1 x2 x3 x4 x5 x6 x7:=λj c=>by
 rw[b.cell (p:=(Ad (H+1) j)) a];exact h j c
theorem uV.keep{B:Nat}{w w':jk}{ar af aa:Option Addr}{nr nf na:Nat}{v:Vw}(h:uV B w ar af aa nr nf na v)(f:∀x:Addr,x.block<B->w'.cell? x=w.cell? x):uV B w' ar af aa nr nf na v:=by
 refine⟨λi r d=>?_,λi r d=>?_,λi r d=>?_,h.KE,h.KD,h.KC,h.yX⟩
 .obtain⟨b,o,e,a,c⟩:=h.jU i r d;exact⟨b,o,e,a,c.keep a f⟩
 .obtain⟨b,o,e,a,c⟩:=h.kK i r d;exact⟨b,o,e,a,c.keep a f⟩
 .obtain⟨b,o,e,a,c⟩:=h.jW i r d;exact⟨b,o,e,a,c.keep a f⟩
end
end
end Go.Proofs.YthllhabjfchgiaaGreatDoor
