import Derived.Test.YthllhabjfchgiaaGreatDoorHs25
set_option maxRecDepth 100000
set_option maxHeartbeats 8000000
set_option linter.unusedSimpArgs false
namespace Go.Proofs.YthllhabjfchgiaaGreatDoor
open _root_.Go.Proofs.Tryz
section
open Go.RowKit Hx
attribute [local go_sem ↓] Go.wp_at_zero Go.wp_at_succ
attribute [local go_sem] kN
section
variable {w w' w1 w2:jk}{C lo hi b d:Nat}{c:Ck}{u:jm}{e l r:Ex}{a:Int}{T:jo}
theorem WI{T' T:jo}{at' jw kind:Int}{mk:List jm->List jm}{dn:Dn}{t:Ck}(E:∀G,dn.jZ G=kind)(D:kT e)(y:lo<=b)(z:b<hi)(H:hi<=C)(A:w.heap[b]? =some (.cells (Im a::Im jw::Im kind::mk [u]).toArray T))
 {p:Nat}(h:og e e.at' w w1 lo b u p C t)(i:Lk w1 w2 0 0 C)(B:kV w2 C (dn.look c)):og (rH T' T at' jw kind (oD (e.here e.at')) mk dn) a w w2 lo hi (.iface T' (Pt b 0)) b C c:=by
 have F:=h.keep;have j:=F.trans (i.all _ _);have f:=(j.keep b (by omega) (je (aj _))).trans A;refine⟨⟨b,[u],rfl,y,z,⟨u,rfl,(D.law _).lk h.here i (by omega) (je (bD _))⟩,f⟩,?_,B,j.wide (aj _) (by omega)⟩;show w2.cell? (Ad b 2)=some (Im (dn.jZ c.jy));rw[E];exact jG f
theorem afw(h:mg d e)(A kind:Int)(i:ji):mg d (sG A kind i e):=by
 refine⟨Xu A kind i h.ok,λc=>?_,?_⟩
 .show((e.does.look c).want (e.does.jZ c.jy) e.at' kind).jy=c.jy;rw[wL,h.jy]
 rintro a w lo hi T b C c ⟨b',us,Z,W,X,⟨u,rfl,L⟩,F⟩ I J K;cases Z;obtain⟨V,B,E,rfl,Y,l1,l2,m1,M,t⟩:=h.use (C:=C) (c:=c) L (by omega) J K;have c4:=jJ 4 F rfl;have M:∀f w,(callFunc E f).run prog w=.ok (.enter E f) w:=M;have t:Hid (Calls prog E #[Pt B 0,Pt C 0] w λD w'=>D=.returned (.tuple #[])/\og e e.at' w w' lo b (.iface V (Pt B 0)) B C c):=t;have y:=jA (jd h I);have H:=jA F;refine⟨367,λw=>by kernel_rfl,λf w=>by kernel_rfl,?_⟩;clear L F J K I h;go_enter func367,ntmps367;go_wp2_with fail;refine t.out.mono ?_;rintro D w1 ⟨rfl,z⟩;have j:=(z.keep.keep b (by have:=y.out.2;omega) (je (aj _))).trans H.out;have e4:=jJ 4 j rfl;have e2:=jJ 2 j rfl;have U:=jA (λn=>z.want y.out.1.ok kind n);have R:=jA z;clear z j t;go_wp2_with fail;refine nO 10 (by kernel_rfl) (by kernel_rfl) ?_;simp only[aC,aO,aG,aQ];repeat (go_big_quiet_step (fail))
 refine bF ?_;intro _ G;obtain⟨n3,p⟩:=G;subst p;go_wp2_with fail;refine(U.out _).mono ?_;rintro D w2 ⟨rfl,N,O⟩;have Q:Hid (og (sG A kind i e) a w w2 lo hi (.iface 379 (Pt b 0)) b C c):=WI (λ_=>rfl) y.out.1.ok W X y.out.2 H.out R.out O N;clear N O;go_wp2_with fail;go_end0;exact⟨rfl,Q.out⟩
theorem anL(h:mg d e)(G:Int):mg d (yP G e):=by
 refine⟨ad3 G h.ok,λc=>?_,?_⟩
 .show(if e.does.jZ c.jy=3 then e.does.look c else (e.does.look c).want (e.does.jZ c.jy) e.at' 4).jy=c.jy;split
  .exact h.jy c
  .rw[wL,h.jy]
 rintro a w lo hi T b C c ⟨b',us,hv,h1,h2,⟨u,rfl,U⟩,I⟩ O Q R;cases hv;obtain⟨N,t,H,rfl,B,l1,l2,m1,V,y⟩:=h.use (C:=C) (c:=c) U (by omega) Q R;have c3:=jJ 3 I rfl;have V:∀f w,(callFunc H f).run prog w=.ok (.enter H f) w:=V;have y:Hid (Calls prog H #[Pt t 0,Pt C 0] w λz w'=>z=.returned (.tuple #[])/\og e e.at' w w' lo b (.iface N (Pt t 0)) t C c):=y;have A:=jA (jd h O);have D:=jA I;refine⟨384,λw=>by kernel_rfl,λf w=>by kernel_rfl,?_⟩;have m2:=B.sort t;clear U I Q R O h B;have L:Hid (∀w1 w2,og e e.at' w w1 lo b (.iface N (Pt t 0)) t C c->Lk w1 w2 0 0 C->kV w2 C (if e.does.jZ c.jy=3 then e.does.look c else (e.does.look c).want (e.does.jZ c.jy) e.at' 4)->og (yP G e) a w w2 lo hi (.iface 395 (Pt b 0)) b C c):=λw1 w2 q1 q2 q3=>WI (λ_=>rfl) A.out.1.ok h1 h2 A.out.2 D.out q1 q2 q3;generalize j:e.does.jZ c.jy=K at *;by_cases J:K=3
 .subst J;go_enter func384,ntmps384;go_wp2_with fail;refine y.out.mono ?_;rintro z w1 ⟨rfl,p⟩;have i:=(p.keep.keep b (by have:=A.out.2;omega) (je (aj _))).trans D.out;have Z:=jJ 3 i rfl;have F:=jA (Ph t 3 (by rw[<-j];exact p.kind));have E:=jA (L.out w1 w1 p (Lk.refl _ _ _ _) p.ck);clear p i y j;go_wp2_with fail;refine F.out.mono ?_;rintro z w2 ⟨rfl,rfl⟩;go_wp2_with fail;go_end0;exact⟨rfl,E.out⟩
 .have aa:(K !=3)=true:=by simp[J]
  rw[jg J]at L;go_enter func384,ntmps384;go_wp2_with fail;refine y.out.mono ?_;rintro z w1 ⟨rfl,p⟩;have i:=(p.keep.keep b (by have:=A.out.2;omega) (je (aj _))).trans D.out;have Z:=jJ 3 i rfl;have F:=jA (Ph t K (by rw[<-j];exact p.kind));have M:=jA (p.want A.out.1.ok 4 0);have Y:=jA p;rw[j]at M;clear p i y j;go_wp2_with fail;refine F.out.mono ?_;rintro z w2 ⟨rfl,rfl⟩;go_wp2_with fail;refine M.out.mono ?_;rintro z w3 ⟨rfl,W,X⟩;have E:=jA (L.out _ _ Y.out X W);clear W X;go_wp2_with fail;go_end0;exact⟨rfl,E.out⟩
theorem aro(h:mg d e)(Q kind f:Int)(t:Wd):mg d (oQ Q kind f e t):=by
 obtain⟨tt,K⟩:=t;refine⟨Sv Q kind f h.ok _,λc=>?_,?_⟩
 .show((if f=0 then (e.does.look c).fail 2 K else e.does.look c).want (e.does.jZ c.jy) e.at' f).jy=c.jy;rw[wL];split
  .rw[J4,h.jy]
  .exact h.jy c
 rintro a w lo hi T b C c ⟨b',us,Z,U,V,⟨u,rfl,hu⟩,W⟩ hC hc hn;cases Z;obtain⟨O,E,R,rfl,aa,l1,l2,m1,kM,H⟩:=h.use (C:=C) (c:=c) hu (by omega) hc hn;have c4:=jJ 4 W rfl;have kM:∀j w,(callFunc R j).run prog w=.ok (.enter R j) w:=kM;have H:Hid (Calls prog R #[Pt E 0,Pt C 0] w λz w'=>z=.returned (.tuple #[])/\og e e.at' w w' lo b (.iface O (Pt E 0)) E C c):=H;have D:=jA (jd h hC);have L:=jA W;refine⟨371,λw=>by kernel_rfl,λj w=>by kernel_rfl,?_⟩;clear hu W hc hn hC h;have nZ:Hid (∀w1 w2,og e e.at' w w1 lo b (.iface O (Pt E 0)) E C c->Lk w1 w2 0 0 C->kV w2 C ((if f=0 then (e.does.look c).fail 2 K else e.does.look c).want (e.does.jZ c.jy) e.at' f)->og (oQ Q kind f e ⟨tt,K⟩) a w w2 lo hi (.iface 383 (Pt b 0)) b C c):=λw1 w2 q1 q2 q3=>WI (λ_=>rfl) D.out.1.ok U V D.out.2 L.out q1 q2 q3;by_cases Y:f=0
 .subst Y;go_enter func371,ntmps371;go_wp2_with fail;refine H.out.mono ?_;rintro z w1 ⟨rfl,A⟩;have i:=(A.keep.keep b (by have:=D.out.2;omega) (je (aj _))).trans L.out;have e3:=jJ 3 i rfl;have e4:=jJ 4 i rfl;have e6:=jJ 6 i rfl;have HF:=jA (NC A.ck 2 K);have I:=jA (jd A i);clear A i H;go_wp2_with fail;refine HF.out.mono ?_;rintro z w2 ⟨rfl,B,y⟩;have X:b<C:=by have:=D.out.2;omega
  have F:=(y.keep b X (je (bD _))).trans I.out.2;have g3:=jJ 3 F rfl;have g4:=jJ 4 F rfl;have N:Hid (∀n,Calls prog 317 #[Pt C 0,.iface O (Pt E 0),Im 0] (w2.drewN n) λz w3=>z=.returned (.tuple #[])/\kV w3 C (((e.does.look c).fail 2 K).want (e.does.jZ c.jy) e.at' 0)/\Lk w2 w3 0 0 C):=λn=>by
   obtain⟨T',b',Z,hT,_,q2,h0,_⟩:=D.out.1.ok.head _ _ _ _ _ I.out.1.here;cases Z;have J:E<C:=by omega
   refine(ab5 (B.grow (lu w2 n)) hT ((lu w2 n).cell ((y.cell J (je (bD _))).trans I.out.1.kind) (by simp)) ((lu w2 n).cell ((y.cell J (je (bD _))).trans h0) (by simp)) 0).mono ?_;rintro z w3 ⟨U,V,h3⟩;exact⟨U,V,(Lk.grown (lu w2 n) B.lt).trans h3⟩
  have lN:=jA y;clear B y F;go_wp2_with fail;refine nO 9 (by kernel_rfl) (by kernel_rfl) ?_;simp only[aC,aO,aG,aQ];repeat (go_big_quiet_step (fail))
  refine bF ?_;intro _ G;obtain⟨n3,p⟩:=G;subst p;go_wp2_with fail;refine(N.out _).mono ?_;rintro z w3 ⟨rfl,B,y⟩;have M:=jA (nZ.out _ _ I.out.1 (lN.out.trans y) B);clear B y;go_wp2_with fail;go_end0;exact⟨rfl,M.out⟩
 .have ab:(f==0)=false:=by simp[Y]
  rw[jg Y]at nZ;go_enter func371,ntmps371;go_wp2_with fail;refine H.out.mono ?_;rintro z w1 ⟨rfl,A⟩;have i:=(A.keep.keep b (by have:=D.out.2;omega) (je (aj _))).trans L.out;have e3:=jJ 3 i rfl;have e4:=jJ 4 i rfl;have N:=jA (λn=>A.want D.out.1.ok f n);have I:=jA A;clear A i H;go_wp2_with fail;refine nO 9 (by kernel_rfl) (by kernel_rfl) ?_;simp only[aC,aO,aG,aQ];repeat (go_big_quiet_step (fail))
  refine bF ?_;intro _ G;obtain⟨n3,p⟩:=G;subst p;go_wp2_with fail;refine(N.out _).mono ?_;rintro z w2 ⟨rfl,B,y⟩;have M:=jA (nZ.out _ _ I.out y B);clear B y;go_wp2_with fail;go_end0;exact⟨rfl,M.out⟩
end
section
variable {w w' w1 w2 w3 w4:jk}{C lo hi b d m:Nat}{c:Ck}{u v:jm}{e l r:Ex}{a:Int}{T:jo}
theorem WM{T' T:jo}{at' jw kind:Int}{mk:List jm->List jm}{dn:Dn}{c1 E:Ck}(N:∀Q,dn.jZ Q=kind)(t:kT l)(O:kT r)(J:lo<=b)(K:b<hi)(R:hi<=C)(i:lo<=m)(j:m<=b)(L:w.heap[b]? =some (.cells (Im a::Im jw::Im kind::mk [u,v]).toArray T))
 {B D:Nat}(y:og l l.at' w w1 lo m u B C c1)(z:Lk w1 w2 0 0 C)(p:og r r.at' w2 w3 m b v D C E)(f:Lk w3 w4 0 0 C)(M:kV w4 C (dn.look c)):og (rH T' T at' jw kind (yC (l.here l.at') (r.here r.at')) mk dn) a w w4 lo hi (.iface T' (Pt b 0)) b C c:=by
 have A:=((y.keep.wide (aj _) j).trans (z.all _ _)).trans ((p.keep.wide i (aj _)).trans (f.all _ _));have h:=(A.keep b (by omega) (je (aj _))).trans L;have F:=(t.law _).lk y.here z (by omega) (je (bD _));have G:=(t.law _).lk F p.keep (by omega) (jf (aj _));have H:=(t.law _).lk G f (by omega) (je (bD _));have I:=(O.law _).lk p.here f (by omega) (je (bD _));refine⟨⟨b,[u,v],rfl,J,K,⟨m,u,v,rfl,i,j,H,I⟩,h⟩,?_,M,A.wide (aj _) (by omega)⟩;show w4.cell? (Ad b 2)=some (Im (dn.jZ c.jy));rw[N];exact jG h
theorem alE{b:Nat}{k:Int}(p:lQ T)(h:w.cell? (Ad b 2)=some (Im k)):Calls prog 362 #[.iface T (Pt b 0)] w λe w'=>e=.returned (Im (if k=2 then 2 else 1))/\w'=w:=by
 have y:=p.sort b;have i:=jA (Ph b k h);by_cases f:k=2
 .subst f;go_enter func362,ntmps362;go_wp2_with fail;refine i.out.mono ?_;rintro j w1 ⟨rfl,rfl⟩;go_wp2_with fail;go_ret;exact⟨rfl,rfl⟩
 .have t:(k==2)=false:=by simp[f]
  rw[jg f];go_enter func362,ntmps362;go_wp2_with fail;refine i.out.mono ?_;rintro j w1 ⟨rfl,rfl⟩;go_wp2_with fail;go_ret;exact⟨rfl,rfl⟩
theorem aqi(A:mg d l)(E:mg d r)(O:Int):mg d (wG O l r):=by
 refine⟨afo O A.ok E.ok,λc=>?_,?_⟩
 .show((r.does.look ((l.does.look c).want (l.does.jZ c.jy) l.at' 4)).want (r.does.jZ ((l.does.look c).want (l.does.jZ c.jy) l.at' 4).jy) r.at' 3).jy=c.jy;rw[wL,E.jy,wL,A.jy]
 rintro a w lo hi T b C c ⟨b',us,hv,h1,h2,⟨m,u,v,rfl,X,B,hu,t⟩,W⟩ hC hc Y;cases hv;obtain⟨T1,Q,U,rfl,aa,l1,l2,m1,kM,H⟩:=A.use (C:=C) (c:=c) hu (by omega) hc Y;have kM:∀f w,(callFunc U f).run prog w=.ok (.enter U f) w:=kM;have H:Hid (Calls prog U #[Pt Q 0,Pt C 0] w λi w'=>i=.returned (.tuple #[])/\og l l.at' w w' lo m (.iface T1 (Pt Q 0)) Q C c):=H;obtain⟨T2,R,rfl,ab,_⟩:=E.ok.head _ _ _ _ _ t;have c3:=jJ 3 W rfl;have Z:=jA W;have h:=jA (jd A (jd E (jd hC (jd Y t))));refine⟨387,λw=>by kernel_rfl,λf w=>by kernel_rfl,?_⟩;clear hu W hc Y t A E;go_enter func387,ntmps387;go_wp2_with fail;refine H.out.mono ?_;rintro i w1 ⟨rfl,K⟩;have j:=(K.keep.keep b (by omega) (je B)).trans Z.out;have e3:=jJ 3 j rfl;have J:=jA (K.want h.out.1.ok 4 0);have M:=jA (jd K j);clear K j H;go_wp2_with fail;refine J.out.mono ?_;rintro i w2 ⟨rfl,G,y⟩;have p:=(y.keep b (by omega) (je (bD _))).trans M.out.2;have e4:=jJ 4 p rfl;have F:=(h.out.2.1.ok.law _).lk ((h.out.2.1.ok.law _).lk h.out.2.2.2.2 M.out.1.keep (by omega) (je (aj _))) y (by omega) (je (bD _));have D:((l.does.look c).want (l.does.jZ c.jy) l.at' 4).jy=c.jy:=by rw[wL,h.out.1.jy]
 obtain⟨V,m2,qC,I⟩:=h.out.2.1.look _ _ _ _ _ _ C _ F (by omega) G (by rw[D];exact h.out.2.2.2.1);have qC:∀f w,(callFunc V f).run prog w=.ok (.enter V f) w:=qC;have I:Hid (Calls prog V #[Pt R 0,Pt C 0] w2 λi w'=>i=.returned (.tuple #[])/\og r r.at' w2 w' m b (.iface T2 (Pt R 0)) R C ((l.does.look c).want (l.does.jZ c.jy) l.at' 4)):=I;have lN:=jA (jd y p);clear G y p F D J;go_wp2_with fail;refine I.out.mono ?_;rintro i w3 ⟨rfl,L⟩;have z:=(L.keep.keep b (by omega) (je (aj _))).trans lN.out.2;have e5:=jJ 4 z rfl;have J:=jA (L.want h.out.2.1.ok 3 0);have N:=jA L;clear L z I;go_wp2_with fail;refine J.out.mono ?_;rintro i w4 ⟨rfl,G,y⟩;have HE:Hid (og (wG O l r) a w w4 lo hi (.iface 398 (Pt b 0)) b C c):=WM (λ_=>rfl) h.out.1.ok h.out.2.1.ok h1 h2 hC X B Z.out M.out.1 lN.out.1 N.out y G;clear G y;go_wp2_with fail;go_end0;exact⟨rfl,HE.out⟩
theorem au9(hl:mg d l)(hr:mg d r)(M kind:Int)(f:ji):mg d (nX M kind f l r):=by
 refine⟨TK M kind f hl.ok hr.ok,λc=>?_,?_⟩
 .show((r.does.look ((l.does.look c).want (l.does.jZ c.jy) l.at' (ru f (l.does.jZ c.jy)))).want (r.does.jZ ((l.does.look c).want (l.does.jZ c.jy) l.at' (ru f (l.does.jZ c.jy))).jy) r.at' (ru f (l.does.jZ c.jy))).jy=c.jy;rw[wL,hr.jy,wL,hl.jy]
 rintro a w lo hi T b C c ⟨b',us,hv,h1,h2,⟨m,u,v,rfl,ac,Q,hu,U⟩,hb⟩ hC hc hn;cases hv;obtain⟨T1,b1,f1,rfl,aa,l1,l2,m1,kM,H1⟩:=hl.use (C:=C) (c:=c) hu (by omega) hc hn;have kM:∀i w,(callFunc f1 i).run prog w=.ok (.enter f1 i) w:=kM;have H1:Hid (Calls prog f1 #[Pt b1 0,Pt C 0] w λp w'=>p=.returned (.tuple #[])/\og l l.at' w w' lo m (.iface T1 (Pt b1 0)) b1 C c):=H1;obtain⟨Z,H,rfl,af,_⟩:=hr.ok.head _ _ _ _ _ U;have c4:=jJ 4 hb rfl;have HB:=jA hb;have j:=jA (jd hl (jd hr (jd hC (jd hn U))));have Um:=jA (λx=>ahb f x);have ae:=jA aa;refine⟨355,λw=>by kernel_rfl,λi w=>by kernel_rfl,?_⟩;clear hu hb hc hn U hl hr aa;have A:ru f (l.does.jZ c.jy)=if (mJ f.data.toList).1=0 then (if l.does.jZ c.jy=2 then 2 else 1)else (mJ f.data.toList).1:=rfl;generalize F:ru f (l.does.jZ c.jy)=h at *;have X:=jA F;clear F;generalize ah:mJ f.data.toList=sk at *;obtain⟨s1,s2⟩:=sk;simp only at A Um;go_enter func355,ntmps355;go_wp2_with fail;refine H1.out.mono ?_;rintro p w1 ⟨rfl,Y⟩;have K:=(Y.keep.keep b (by omega) (je Q)).trans HB.out;have e3:=jJ 3 K rfl;have e4:=jJ 4 K rfl;have HQ:=jA (alE ae.out Y.kind);have L:=jA (Y.want j.out.1.ok h 0);have V:=jA (jd Y K);clear Y K H1;generalize ab:l.does.jZ c.jy=G at *;have W:=jA ab;clear ab;by_cases R:s1=0
 .subst R;rw[jh rfl]at A;rw[<-A]at HQ;clear A;go_wp2_with fail;refine(Um.out _).mono ?_;rintro p ad ⟨rfl,rfl⟩;go_wp2_with fail;refine HQ.out.mono ?_;rintro p ad ⟨rfl,rfl⟩;go_wp2_with fail;refine L.out.mono ?_;rintro p w2 ⟨rfl,y,z⟩;have t:=(z.keep b (by omega) (je (bD _))).trans V.out.2;have e5:=jJ 5 t rfl;have E:=(j.out.2.1.ok.law _).lk ((j.out.2.1.ok.law _).lk j.out.2.2.2.2 V.out.1.keep (by omega) (je (aj _))) z (by omega) (je (bD _));have D:((l.does.look c).want G l.at' h).jy=c.jy:=by rw[wL,j.out.1.jy]
  obtain⟨O,m2,qC,I⟩:=j.out.2.1.look _ _ _ _ _ _ C _ E (by omega) y (by rw[D];exact j.out.2.2.2.1);have qC:∀i w,(callFunc O i).run prog w=.ok (.enter O i) w:=qC;have I:Hid (Calls prog O #[Pt H 0,Pt C 0] w2 λp w'=>p=.returned (.tuple #[])/\og r r.at' w2 w' m b (.iface Z (Pt H 0)) H C ((l.does.look c).want G l.at' h)):=I;have lN:=jA (jd z t);clear y z t E D L;go_wp2_with fail;refine I.out.mono ?_;rintro p w3 ⟨rfl,J⟩;have B:=(J.keep.keep b (by omega) (je (aj _))).trans lN.out.2;have e6:=jJ 5 B rfl;have L:=jA (J.want j.out.2.1.ok h 0);have N:=jA J;clear J B I;go_wp2_with fail;refine L.out.mono ?_;rintro p w4 ⟨rfl,y,z⟩;have HE:Hid (og (nX M kind f l r) a w w4 lo hi (.iface 374 (Pt b 0)) b C c):=by
   refine WM (λ_=>rfl) j.out.1.ok j.out.2.1.ok h1 h2 hC ac Q HB.out V.out.1 lN.out.1 N.out z ?_;have h0:(nX M kind f l r).does.look c=(r.does.look ((l.does.look c).want G l.at' h)).want (r.does.jZ ((l.does.look c).want G l.at' h).jy) r.at' h:=by
    show(r.does.look ((l.does.look c).want (l.does.jZ c.jy) l.at' (ru f (l.does.jZ c.jy)))).want (r.does.jZ ((l.does.look c).want (l.does.jZ c.jy) l.at' (ru f (l.does.jZ c.jy))).jy) r.at' (ru f (l.does.jZ c.jy))=_;rw[W.out,X.out]
   have y:kV w4 C ((nX M kind f l r).does.look c):=by rw[h0];exact y
   exact y
  clear y z;go_wp2_with fail;go_end0;exact⟨rfl,HE.out⟩
 .have ag:(s1==0)=false:=by simp[R]
  rw[jg R]at A;subst A;go_wp2_with fail;refine(Um.out _).mono ?_;rintro p ad ⟨rfl,rfl⟩;go_wp2_with fail;refine L.out.mono ?_;rintro p w2 ⟨rfl,y,z⟩;have t:=(z.keep b (by omega) (je (bD _))).trans V.out.2;have e5:=jJ 5 t rfl;have E:=(j.out.2.1.ok.law _).lk ((j.out.2.1.ok.law _).lk j.out.2.2.2.2 V.out.1.keep (by omega) (je (aj _))) z (by omega) (je (bD _));have D:((l.does.look c).want G l.at' h).jy=c.jy:=by rw[wL,j.out.1.jy]
  obtain⟨O,m2,qC,I⟩:=j.out.2.1.look _ _ _ _ _ _ C _ E (by omega) y (by rw[D];exact j.out.2.2.2.1);have qC:∀i w,(callFunc O i).run prog w=.ok (.enter O i) w:=qC;have I:Hid (Calls prog O #[Pt H 0,Pt C 0] w2 λp w'=>p=.returned (.tuple #[])/\og r r.at' w2 w' m b (.iface Z (Pt H 0)) H C ((l.does.look c).want G l.at' h)):=I;have lN:=jA (jd z t);clear y z t E D L;go_wp2_with fail;refine I.out.mono ?_;rintro p w3 ⟨rfl,J⟩;have B:=(J.keep.keep b (by omega) (je (aj _))).trans lN.out.2;have e6:w3.cell? (Ad b 5)=some (.iface Z (Pt H 0)):=jG B;have L:Hid (Calls prog 317 #[Pt C 0,.iface Z (Pt H 0),Im h] w3 λp w4=>p=.returned (.tuple #[])/\kV w4 C ((r.does.look ((l.does.look c).want G l.at' h)).want (r.does.jZ ((l.does.look c).want G l.at' h).jy) r.at' h)/\Lk w3 w4 0 0 C):=J.want j.out.2.1.ok h 0;have N:Hid (og r r.at' w2 w3 m b (.iface Z (Pt H 0)) H C ((l.does.look c).want G l.at' h)):=J;clear J B I;go_wp2_with fail;refine L.out.mono ?_;rintro p w4 ⟨rfl,y,z⟩;have HE:Hid (og (nX M kind f l r) a w w4 lo hi (.iface 374 (Pt b 0)) b C c):=by
   refine WM (λ_=>rfl) j.out.1.ok j.out.2.1.ok h1 h2 hC ac Q HB.out V.out.1 lN.out.1 N.out z ?_;have h0:(nX M kind f l r).does.look c=(r.does.look ((l.does.look c).want G l.at' h)).want (r.does.jZ ((l.does.look c).want G l.at' h).jy) r.at' h:=by
    show(r.does.look ((l.does.look c).want (l.does.jZ c.jy) l.at' (ru f (l.does.jZ c.jy)))).want (r.does.jZ ((l.does.look c).want (l.does.jZ c.jy) l.at' (ru f (l.does.jZ c.jy))).jy) r.at' (ru f (l.does.jZ c.jy))=_;rw[W.out,X.out]
   have y:kV w4 C ((nX M kind f l r).does.look c):=by rw[h0];exact y
   exact y
  clear y z;go_wp2_with fail;go_end0;exact⟨rfl,HE.out⟩
end
end
section
open Go.RowKit Hx
section
theorem abJ{g:Nat}:∀{f:List (Wd×Ex)}{w w':jk}{lo hi:Nat}{us:List jm},(∀b∈f,∀a,Lawful (b.2.here a))->uY g f w lo hi us->(∀b,lo<=b->b<hi->b≠g->w'.heap[b]? =w.heap[b]?)->uY g f w' lo hi us
 |[],_,_,_,_,_,_,h,_=>h
 |b::f,_,_,_,_,_,hl,⟨l,m,u,us',h0,h1,h2,h3,h4,h5,h6⟩,hk=>
  ⟨l,m,u,us',h0,h1,h2,h3,h4,(hl b (aW ..) _).loc _ _ _ _ _ h5 (λk p i=>hk k (by omega) (by omega) (by omega)),abJ (λc j=>hl c (aI _ j)) h6 (λk p i t=>hk k (by omega) i t)⟩
theorem abK{g:Nat}:∀{f:List (Wd×Ex)}{w:jk}{lo hi:Nat}{us:List jm},uY g f w lo hi us->us.length=f.length
 |[],_,_,_,_,h=>by
  have h:=h;rw[h];rfl
 |_::_,_,_,_,_,⟨_,_,_,_,h0,_,_,_,_,_,h6⟩=>by rw[h0];simp[abK h6]
theorem abI:∀(f:List (Wd×Ex))(us:List jm)(b:Wd×Ex)(u:jm),us.length=f.length->xK (f++[b]) (us++[u])=xK f us++Qc b.1 u
 |[],[],b,u,_=>by simp[xK]
 |c::f,v::us,b,u,h=>by
  have:=abI f us b u (by simpa using h);simp[xK,this]
 |[],_::_,_,_,h=>by simp at h
 |_::_,[],_,_,h=>by simp at h
structure sJ(P:Nat)(w wr:jk)(S:Nat)(fv:jm)(g:Nat)(x:Sx)(us:List jm)(m:Nat):Prop where
 Gy:uY g x.jE wr (S+1) m us
 own:wr.ownsRow (S+1) 361 3 fv x.jE.length (xK x.jE us)
 jM:(fv.ownBlock=some g/\g<m)\/(x.jE=[]/\fv=Nl)
 Hg:S+1<=m
 FB:m<=wr.heap.size
 H6:w.heap.size<=S
 set:wr.heap[S]? =some (.cells #[Im x.at',Im x.jw,.string x.base,Im x.of,fv] 348)
 grown:w.grownBy wr (some P)
variable {P S g m gg cap n l hh:Nat}{w wr w2 wy w':jk}{fv u:jm}{x:Sx}{us:List jm}{d:Wd}{e:Ex}{s:ji}{q:Ps}
theorem sJ.keep(h:sJ P w wr S fv g x us m)(t:pF x)(D:P<w.heap.size)(f:wr.grownBy w' (some P)):sJ P w w' S fv g x us m:=by
 have j:=h.H6;have p:=h.Hg;have A:=h.FB;have B:=f.size;refine⟨Gz (λb i a=>(t.all b i).law a) h.Gy (λb y z=>f.block b (by omega) (by simp;omega)),h.own.kept f ?_,h.jM,p,by omega,j,(f.block S (by omega) (by simp;omega)).trans h.set,h.grown.trans f⟩;cases i:fv.ownBlock with
 |none=>exact jf rfl
 |some k=>right;have:=(h.own.lt k i).1;simp;omega
theorem sJ.out(h:sJ P w wr S fv g x us m):oZ x wr w.heap.size wr.heap.size (Pt S 0):=by
 have A:=h.H6;have G:=h.Hg;have B:=h.FB;refine⟨S,fv,rfl,A,by omega,h.set,?_⟩;rcases h.own with⟨_,⟨i,y⟩|⟨z,cap,t,i,y,E,H,I,J,F⟩⟩
 .exact jf ⟨List.length_eq_zero_iff.1 y,i⟩
 .rcases h.jM with⟨p,D⟩|⟨_,p⟩
  .subst i;simp only[Value.ownBlock,bJ]at p;subst p;refine je ⟨z,cap,S+1,us,t,rfl,by omega,by omega,by omega,by omega,Qh h.Gy B,E,λj v f=>?_⟩;rw[<-F]at f;rw[iW]at f;split at f
   .simpa using f
   .cases f
  .rw[p]at i;cases i
theorem sJ.pI(h:sJ P w wr S fv g x us m)(i:wr.grownBy wy none)(f:wy.grownBy w2 fv.ownBlock):
 (∀b,b<wr.heap.size->b≠g\/m<=b\/b<=S->w2.heap[b]? =wr.heap[b]?)/\w.grownBy w2 (some P):=by
 have D:=h.H6;have E:=h.Hg;have F:=h.FB;have G:=i.size;rcases h.jM with⟨t,y⟩|⟨t,y⟩
 .rw[t]at f;have B:=(h.own.lt g t).1;refine⟨λb p A=>(f.block b (by omega) (by simp;omega)).trans (i.block b p (by simp)),?_⟩;exact(h.grown.trans (i.but _)).andThen f (λj z=>by cases z;exact jf (by omega))
 .rw[y]at f;have f:wy.grownBy w2 none:=f;exact⟨λb p _=>(f.block b (by omega) (by simp)).trans (i.block b p (by simp)),h.grown.trans ((i.trans f).but _)⟩
theorem sJ.add(h:sJ P w wr S fv g x us m)(W:pF x)(O:kT e)(L:wr.grownBy wy none)(t:wy.grownBy w2 fv.ownBlock)
 (i:w2.ownsRow (S+1) 361 3 (.slice (some (Ad gg 0)) n cap) (x.jE.length+1) (xK x.jE us++Qc d u))(D:fv.ownBlock=some gg\/wr.heap.size<=gg)(y:gg<w2.heap.size)
 (F:e.here e.at' wr l hh u)(G:m<=l)(H:l<=hh)(V:hh<=wr.heap.size):
 sJ P w (w2.setCell (Ad S 4) (.slice (some (Ad gg 0)) n cap)) S (.slice (some (Ad gg 0)) n cap) gg {x with jE:=x.jE++[(d,e)]} (us++[u]) w2.heap.size:=by
 have p:=h.H6;have Z:=h.Hg;have h3:=h.FB;have h4:=L.size;have h5:=t.size;obtain⟨K,Y⟩:=h.pI L t;have E:gg=g/\g<m\/wr.heap.size<=gg:=by
  rcases D with f|f
  .rcases h.jM with⟨A,J⟩|⟨_,A⟩
   .rw[A]at f;exact jf ⟨(fZ f).symm,J⟩
   .rw[A]at f;cases f
  .exact je f
 have Q:∀b∈x.jE,∀a,Lawful (b.2.here a):=λb j a=>(W.all b j).law a;have f:=abJ Q h.Gy (λb M N R=>K b (by omega) (jf R));have A:uY gg x.jE w2 (S+1) m us:=by
  rcases E with⟨p,_⟩|p
  .rw[p];exact f
  .exact abL f (by omega)
 have J:=(O.law _).loc _ _ _ _ _ F (λb M N=>K b (by omega) (je (jf (by omega))));have X:uY gg (x.jE++[(d,e)]) w2 (S+1) w2.heap.size (us++[u]):=abM (Qh A G) J (by omega) H (by omega) (by omega);have B:∀b∈x.jE++[(d,e)],∀a,Lawful (b.2.here a):=λb j a=>by
  rcases List.mem_append.1 j with j|j
  .exact Q b j a
  .rw[cO.1 j];exact O.law a
 have U:S≠gg:=by have:=(i.lt gg rfl).1;omega
 have z:=(K S (by omega) (je (je (aj _)))).trans h.set;have I:(w2.setCell (Ad S 4) (.slice (some (Ad gg 0)) n cap)).heap.size=w2.heap.size:=by simp[World.setCell]
 refine⟨Gz B X (λb M N=>bC _ _ _ _ (by simp only;omega)),?_,jf ⟨rfl,y⟩,by omega,by rw[I];exact aj _,p,?_,?_⟩
 .rw[abI _ _ _ _ (abK h.Gy)];have:=i.kept (vX w2 (Ad S 4) (.slice (some (Ad gg 0)) n cap)) (je (by simp[Value.ownBlock];omega));simpa using this
 .exact aK _ _ _ _ _ _ z
 .exact pR Y p _ _
theorem sJ.jw(h:sJ P w wr S fv g x us m)(t:pF x)(y:P<w.heap.size)(z:wr.grownBy w' none)(c:Int):sJ P w (w'.setCell (Ad S 1) (Im c)) S fv g {x with jw:=c} us m:=by
 have k:=h.keep t y (z.but _);have p:=h.H6;have i:(w'.setCell (Ad S 1) (Im c)).heap.size=w'.heap.size:=by simp[World.setCell]
 refine⟨Gz (λb f a=>(t.all b f).law a) k.Gy (λb A B=>bC _ _ _ _ (by simp only;omega)),?_,h.jM,k.Hg,by rw[i];exact k.FB,p,aK _ _ _ _ _ _ k.set,pR k.grown p _ _⟩;refine k.own.kept (vX w' (Ad S 1) (Im c)) ?_;cases f:fv.ownBlock with
 |none=>exact jf rfl
 |some j=>right;have:=(k.own.lt j f).1;simp;omega
theorem sJ.start(f:wr.heap[S]? =some (.cells #[Im x.at',Im x.jw,.string x.base,Im x.of,Nl] 348))(h:x.jE=[])(i:w.heap.size<=S)(j:w.grownBy wr (some P)):sJ P w wr S (Nl) 0 x [] (S+1):=by
 refine⟨?_,?_,je ⟨h,rfl⟩,aj _,lT f,i,f,j⟩
 .rw[h];rfl
 .rw[h];exact fK _ _ _ _
end
end
section
open Go.RowKit Hx
attribute [local go_sem ↓] Go.wp_at_zero Go.wp_at_succ
attribute [local go_sem] kN
section
variable {w w' w1 w2 w3 w4:jk}{C lo hi b d m k:Nat}{c:Ck}{u v:jm}{e l r:Ex}{a:Int}{T:jo}{o:Obj}
structure Dt(w:jk)(C k:Nat)(o:Obj):Prop where
 at':w.heap[k]? =some o
 gt:C<k
 row:rowOf w C≠some k
theorem Dt.lk(h:Dt w C k o)(i:Lk w w' lo hi C):Dt w' C k o:=
 ⟨(i.pI k h.gt (lT h.at') (λe=>h.row e.symm)).trans h.at',h.gt,λe=>by
   rcases i.row k e with f|f
   .exact h.row f
   .have:=lT h.at';omega⟩
theorem Dt.new(i:kV w C c)(o:Obj):Dt (w.alloc o) C w.heap.size o:=by
 have f:=i.lt;refine⟨aY w o,f,λe=>?_⟩;rw[XV (fP w o C f)]at e;obtain⟨v,h⟩:=i;have j:rowOf w C=v.ownBlock:=by unfold rowOf;rw[show w.cell? (Ad C 0)=some v from jG h.jM]
 rw[j]at e;have:=(h.row.lt _ e).2;omega
theorem afR{a:Option Addr}{n i cap f k:Nat}(h:(Value.slice a n cap).ownBlock=some k):(Value.slice a i f).ownBlock=some k:=by
 cases a with
 |none=>cases h
 |some ad=>exact h
theorem abD(c:Ck)(t:ji)(j:Int)(e:Dn)(h one f:Int)(i:∀c,(e.look c).jy=c.jy):(c.bracket t j e h one f).jy=c.jy:=by
 unfold Ck.bracket Ck.cut;simp only[wL,i,Ck.add,LW];simp
theorem ab4(h:mg d e)(hh:e.here e.at' w lo hi u)(hC:hi<=C)(hc:kV w C c)(hn:c.jy.length+(d+1)<=900000)(t:ji)(i one j:Int):
 Calls prog 351 #[Pt C 0,.agg #[.string t,Im i,u],Im one,Im j] w λA w'=>A=.returned (.tuple #[])/\e.here e.at' w' lo hi u/\kV w' C (c.bracket t i e.does e.at' one j)/\Lk w w' lo hi C:=by
 have Af:=hc.lt;obtain⟨E,z,rfl,aa,l1,l2,_⟩:=h.ok.head _ _ _ _ _ hh;have g0:w.grownBy (w.alloc (.cells #[.string t,Im i,.iface E (Pt z 0)] 361)) none:=ah w _ none;have G:Dt (w.alloc (.cells #[.string t,Im i,.iface E (Pt z 0)] 361)) C w.heap.size (.cells #[.string t,Im i,.iface E (Pt z 0)] 361):=Dt.new hc _;have p:=jA (jd h (jd hC hn));have N:=U8 (hc.grow g0) t i (by omega);have HN:Hid (Calls prog 325 #[Pt C 0,.agg #[.string t,Im i]] (w.alloc (.cells #[.string t,Im i,.iface E (Pt z 0)] 361)) λA w'=>A=.returned (.tuple #[])/\kV w' C (c.nD t i)/\Dt w' C w.heap.size (.cells #[.string t,Im i,.iface E (Pt z 0)] 361)/\Lk w w' 0 0 C/\e.here e.at' w' lo hi (.iface E (Pt z 0))):=N.mono λA w' ⟨I,q2,q3⟩=>by
  have hl:=(Lk.grown g0 Af).trans q3;exact⟨I,q2,G.lk q3,hl,(h.ok.law _).lk hh hl hC (je (bD _))⟩
 have n0:¬C=w.heap.size:=by omega
 clear N G g0 hh hc hn aa h;go_enter func351,ntmps351;go_wp2_with fail;refine HN.out.mono ?_;rintro A w1 ⟨rfl,k1,B,V,O⟩;have Z:=LW c t i;have U:=jA (jd k1 (jd B (jd V O)));obtain⟨v1,I⟩:=U.out.1;obtain⟨a1,ae,rfl⟩:=BG I.row;rw[Z]at I;have c0:=jJ 0 I.jM rfl;have x0:=jJ 0 B.at' rfl;have x1:=jJ 1 B.at' rfl;have M:=U5 U.out.1 t i one false (by rw[Z];have:=p.out.2.2;omega);have Ij:=jA M;have ai:c.jy.length<=900000:=by have:=p.out.2.2;omega
 clear k1 B V O I M HN;generalize ac:c.jy.length=y at *;go_wp2_with fail;refine Ij.out.mono ?_;rintro A w2 ⟨rfl,k2,RD⟩;have U2:=U.out.2.1.lk RD;have Q:=(p.out.1.ok.law _).lk U.out.2.2.2 RD p.out.2.1 (je (bD _));have R:((c.nD t i).add t one false).jy.length+d<=900000:=by
  have:=p.out.2.2;unfold Ck.add;rw[Z];simp only[aA,aF,bg];omega
 obtain⟨f1,m1,kM,X⟩:=p.out.1.look _ _ _ _ _ _ C _ Q p.out.2.1 k2 R;have kM:∀F w,(callFunc f1 F).run prog w=.ok (.enter f1 F) w:=kM;have X:Hid (Calls prog f1 #[Pt z 0,Pt C 0] w2 λA w'=>A=.returned (.tuple #[])/\og e e.at' w2 w' lo hi (.iface E (Pt z 0)) z C ((c.nD t i).add t one false)):=X;have x2:=jJ 2 U2.at' rfl;have J:=jA (jd U2 (U.out.2.2.1.trans RD));clear k2 RD U2 Q R Ij;go_wp2_with fail;refine X.out.mono ?_;rintro A w3 ⟨rfl,Y⟩;have K:=J.out.1.lk Y.keep;have x3:=jJ 2 K.at' rfl;have HW:=jA (Y.want p.out.1.ok j 0);have xB:=jA Y;clear Y K X;go_wp2_with fail;refine HW.out.mono ?_;rintro A w4 ⟨rfl,k4,W⟩;have VZ:((e.does.look ((c.nD t i).add t one false)).want (e.does.jZ ((c.nD t i).add t one false).jy) e.at' j).jy.length=y+1:=by
  rw[wL,p.out.1.jy];unfold Ck.add;rw[Z];simp only[aA,aF,bg];omega
 obtain⟨v4,D⟩:=k4;obtain⟨H,f,rfl⟩:=BG D.row;rw[VZ]at D;have y0:=jJ 0 D.jM rfl;have fz:=qV D.jM;have af:y+1<=f:=by
  have:=D.row;rw[VZ]at this;rcases this with⟨_,⟨h2,h3⟩|⟨g,ad,ag,h2,_,_,h5,_⟩⟩
  .omega
  .cases h2;exact h5
 have hcut:=D.cut (m:=y) (by omega);have HE:Hid (e.here e.at' (w4.setCell (Ad C 0) (.slice H y f)) lo hi (.iface E (Pt z 0))/\kV (w4.setCell (Ad C 0) (.slice H y f)) C (c.bracket t i e.does e.at' one j)/\Lk w (w4.setCell (Ad C 0) (.slice H y f)) lo hi C):=by
  have ab:Lk w4 (w4.setCell (Ad C 0) (.slice H y f)) 0 0 C:=Lk.named (v:=.slice H (y+1) f) (aN _ _) D.lt y0 (λk hk=>by have:=(D.row.lt k hk).1;omega) (λk hk=>jf (afR hk));have L:=W.trans ab;refine⟨(p.out.1.ok.law _).lk xB.out.here L p.out.2.1 (je (bD _)),⟨.slice H y f,?_⟩,(J.out.2.all _ _).trans (xB.out.keep.trans (L.all _ _))⟩;unfold Ck.bracket;rw[ac];exact hcut
 clear D hcut W VZ;have i0:(0:Int)<=(y:Int):=by omega
 have i1:(y:Int)<=(f:Int):=by omega
 go_wp2_with fail;go_end0;exact⟨rfl,HE.out⟩
end
section
variable {w w' w1 w2 w3 w4:jk}{C lo hi b d m k:Nat}{c:Ck}{u v:jm}{e l r:Ex}{a:Int}{T:jo}{o:Obj}{x:Sx}
theorem U1{g:Nat}:∀{f:List (Wd×Ex)}{w:jk}{lo hi i:Nat}{us:List jm}{b:Wd×Ex},(∀b∈f,∀a,Lawful (b.2.here a))->uY g f w lo hi us->f[i]? =some b->
 ∃l m u,us[i]? =some u/\lo<=l/\l<=m/\m<=hi/\(g<l\/m<=g)/\b.2.here b.2.at' w l m u/\∀w',(∀k,lo<=k->k<hi->k<l\/m<=k->w'.heap[k]? =w.heap[k]?)->b.2.here b.2.at' w' l m u->uY g f w' lo hi us
 |[],_,_,_,_,_,_,_,_,hb=>by simp at hb
 |b0::f,w,lo,hi,0,us,b,hl,⟨l,m,u,us',h0,h1,h2,h3,h4,h5,h6⟩,hb=>by
  simp only[dw,bJ]at hb;subst hb h0;refine⟨l,m,u,rfl,h1,h2,h3,h4,h5,λw' h hh=>⟨l,m,u,us',rfl,h1,h2,h3,h4,hh,?_⟩⟩;exact Gz (λc p=>hl c (aI _ p)) h6 (λk t j=>h k (by omega) j (je t))
 |b0::f,w,lo,hi,i+1,us,b,hl,⟨l,m,u,us',h0,h1,h2,h3,h4,h5,h6⟩,hb=>by
  subst h0;obtain⟨z,A,I,B,J,D,E,F,G,H⟩:=U1 (i:=i) (λc p=>hl c (aI _ p)) h6 (by simpa using hb);refine⟨z,A,I,by simpa using B,by omega,D,E,F,G,λw' h hh=>⟨l,m,u,us',rfl,h1,h2,h3,h4,?_,H w' (λk t j y=>h k (by omega) j y) hh⟩⟩;exact(hl b0 (aW ..) _).loc _ _ _ _ _ h5 (λk t j=>h k (by omega) (by omega) (jf (by omega)))
theorem Qg:∀(f:List (Wd×Ex))(us:List jm)(i:Nat)(b:Wd×Ex)(u:jm),f[i]? =some b->us[i]? =some u->(xK f us)[i * 3]? =some (.string b.1.text)/\(xK f us)[i * 3+1]? =some (Im b.1.at')/\(xK f us)[i * 3+2]? =some u
 |[],_,i,b,u,h,_=>by simp at h
 |_::_,[],i,b,u,_,h=>by simp at h
 |b0::f,u0::us,0,b,u,h,k=>by
  simp only[dw,bJ]at h k;subst h k;exact⟨rfl,rfl,rfl⟩
 |b0::f,u0::us,i+1,b,u,h,k=>by
  have p:=Qg f us i b u (by simpa using h) (by simpa using k);have e:∀j,(xK (b0::f) (u0::us))[j+3]? =(xK f us)[j]? :=λj=>by simp[xK,Qc]
  have t:(i+1) * 3=i * 3+3:=by omega
  rw[t];exact⟨(e _).trans p.1,(e (i * 3+1)).trans p.2.1,(e (i * 3+2)).trans p.2.2⟩
theorem OC(i:Int):∀(f:List (Wd×Ex))(c:Ck),(∀b∈f,∀c,(b.2.does.look c).jy=c.jy)->(oG i f c).jy=c.jy
 |[],_,_=>rfl
 |b::f,c,h=>by
  unfold oG;rw[bP];have:=OC i f (c.bracket b.1.text b.1.at' b.2.does b.2.at' i 2) (λj p=>h j (aI _ p));unfold oG at this;rw[this,abD _ _ _ _ _ _ _ (h b (aW ..))]
theorem aoV(f:Int)(fs:List (Wd×Ex))(c:Ck)(i:Nat)(b:Wd×Ex)(h:fs[i]? =some b):oG f (fs.take (i+1)) c=(oG f (fs.take i) c).bracket b.1.text b.1.at' b.2.does b.2.at' f 2:=by
 have j:fs.take (i+1)=fs.take i++[b]:=by rw[fU,h];rfl
 rw[j];unfold oG;rw[dV]
 rfl
structure UA(x:Sx)(S g cap:Nat)(w wr:jk)(lo hi m C:Nat)(us:List jm)(arr:Array jm)(c:Ck)(i:Nat):Prop where
 set:wr.heap[S]? =some (.cells #[Im x.at',Im x.jw,.string x.base,Im x.of,.slice (some (Ad g 0)) x.jE.length cap] 348)
 row:wr.heap[g]? =some (.cells arr 361)
 Gy:uY g x.jE wr m hi us
 ck:kV wr C (oG x.of (x.jE.take i) c)
 keep:Lk w wr lo hi C
theorem U7(h:rF 100000 (mg d) x)(hh:oZ x w lo hi v)(hC:hi<=C)(N:kV w C c)(hn:c.jy.length+(d+1)<=900000):
 Calls prog 349 #[Pt C 0,v] w λF w'=>F=.returned (.tuple #[])/\oZ x w' lo hi v/\kV w' C (oG x.of x.jE c)/\Lk w w' lo hi C:=by
 obtain⟨S,fv,rfl,h1,h2,B,K⟩:=hh;rcases K with⟨hf,rfl⟩|⟨g,cap,m,us,t,rfl,g1,g2,m1,m2,I,hg,A⟩
 .have c4:=jJ 4 B rfl;have O:Hid (oZ x w lo hi (Pt S 0)/\kV w C (oG x.of x.jE c)/\Lk w w lo hi C):=⟨⟨S,_,rfl,h1,h2,B,jf ⟨hf,rfl⟩⟩,by rw[hf];exact N,Lk.refl _ _ _ _⟩;clear B N;go_enter func349,ntmps349;go_wp2_with fail;refine wp_loop_rounds 1 ?_;rw[rounds_succ];go_wp2_with fail;go_end0;exact⟨rfl,O.out⟩
 .have c4:=jJ 4 B rfl;have E:=jA (jd h (jd hn (jd A (jd hC (jd h1 (jd h2 (jd g1 (jd g2 (jd m1 m2)))))))));have HO:Hid (UA x S g cap w w lo hi m C us t c 0):=⟨B,hg,I,N,Lk.refl _ _ _ _⟩;have ae:=h.len;clear B N I hg A h hn;go_enter func349,ntmps349;go_wp2_with fail;go_loopg [11] (x.jE.length+1) (λgg i wr=>Hid (∃k:Nat,k+gg=x.jE.length+1/\k<=x.jE.length/\i=Im k/\UA x S g cap w wr lo hi m C us t c k))
  case atStart=>exact⟨0,by omega,bD _,rfl,HO.out⟩
  case round=>
   obtain⟨k,ac,ad,rfl,f⟩:=hrel.out;clear hrel HO;by_cases W:k<x.jE.length
   .have d1:decide ((k:Int)<(x.jE.length:Int))=true:=by simp;omega
    have i0:(0:Int)<=(k:Int):=by omega
    have i1:(k:Int)<(x.jE.length:Int):=by omega
    have p:x.jE[k]? =some x.jE[k]:=by simp
    have M:=E.out.1.all x.jE[k] (fG W);obtain⟨Z,D,q3,q4,q5,q6,q7,q8,q9⟩:=E.out.2;obtain⟨l',m',u',e0,e1,e2,e3,e4,R,e6⟩:=U1 (λb V a=>(E.out.1.all b V).ok.law a) f.Gy p;obtain⟨z0,z1,z2⟩:=Qg _ us k _ u' p e0;obtain⟨T1,b1,X,_⟩:=M.ok.head _ _ _ _ _ R;have k0:wr.cell? (Ad g (k * 3))=some (.string x.jE[k].1.text):=(jG f.row).trans (D _ _ z0);have k1:wr.cell? (Ad g (k * 3+1))=some (Im x.jE[k].1.at'):=(jG f.row).trans (D _ _ z1);have k2:wr.cell? (Ad g (k * 3+2))=some u':=(jG f.row).trans (D _ _ z2);have c3:=jJ 3 f.set rfl;have aa:=lT f.set;have nS:¬S=wr.heap.size:=by omega
    have Af:=f.ck.lt;have H:(oG x.of (x.jE.take k) c).jy=c.jy:=OC _ _ _ (λb V=>(E.out.1.all b (dS V)).jy);have Ik:Hid (∀y,wr.grownBy y none->Calls prog 351 #[Pt C 0,.agg #[.string x.jE[k].1.text,Im x.jE[k].1.at',u'],Im x.of,Im 2] y λF w'=>F=.returned (.tuple #[])/\UA x S g cap w w' lo hi m C us t c (k+1)):=λy hy=>by
     have Og:=Lk.grown hy Af;refine(ab4 M ((M.ok.law _).lk R Og (by omega) (je (bD _))) (by omega) (f.ck.grow hy) (by rw[H];exact Z) _ _ x.of 2).mono ?_;rintro F w' ⟨r1,r2,r3,r4⟩;have z:=(Og.all _ _).trans r4;refine⟨r1,(z.keep S (by omega) (jf (by omega))).trans f.set,(z.keep g (by omega) (by omega)).trans f.row,e6 w' (λj j1 j2 j3=>z.keep j (by omega) j3) r2,?_,f.keep.trans (z.wide (by omega) (by omega))⟩;rw[aoV _ _ _ _ _ p];exact r3
    obtain⟨U,ab⟩:∃U,gk=U+1:=⟨gk-1,by omega⟩;subst X;clear p M Z D q3 q4 q5 q6 q7 q8 q9 e0 e1 e2 e3 e4 R e6 z0 z1 z2 f H;generalize x.jE[k].1.text=ft at *;generalize x.jE[k].1.at'=fa at *;go_wp2_with fail;refine nO 6 (by kernel_rfl) (by kernel_rfl) ?_;simp only[aC,aO,aG,aQ];repeat (go_big_quiet_step (fail))
    refine bF ?_;intro _ Y;obtain⟨n3,L⟩:=Y;subst L;go_wp2_with fail;refine(Ik.out _ ((ah wr _ none).trans (lu _ _))).mono ?_;rintro F w2 ⟨rfl,G⟩;have Q:=jA G;clear G Ik;go_wp2_with fail;go_roundg U
    case measure=>omega
    case rel=>exact⟨k+1,by omega,by omega,by go_num,Q.out⟩
   .have d1:decide ((k:Int)<(x.jE.length:Int))=false:=by simp;omega
    have O:Hid (oZ x wr lo hi (Pt S 0)/\kV wr C (oG x.of x.jE c)/\Lk w wr lo hi C):=by
     obtain⟨Z,D,q3,q4,q5,q6,q7,q8,q9⟩:=E.out.2;have J:=f.ck;rw[eU (by omega)]at J;exact⟨⟨S,_,rfl,q4,q5,f.set,je ⟨g,cap,m,us,t,rfl,q6,q7,q8,q9,f.Gy,f.row,D⟩⟩,J,f.keep⟩
    clear f;go_wp2_with fail;go_end0;exact⟨rfl,O.out⟩
end
section
variable {w w' w1 w2:jk}{C lo hi b S:Nat}{c:Co}{u:jm}{e l r:Ex}{a:Int}{T:jo}{x:Sx}
theorem Ws(f:kF e)(t:ji)(one:Int):(c.inside t e.does one).1.jy=c.jy:=by
 unfold Co.inside Co.cut;simp only[f.jy,Co.know];simp
theorem Wq(f:kF e)(t:ji)(one:Int)(h:e.jw<=1000000):((c.inside t e.does one).1.code.length:Int)<=c.code.length+200 * e.jw+50:=f.len (c.know t one) (-1) h
theorem kG.back(h:kG w C c){n:Nat}(z:n<=c.jy.length):∃a cap,w.cell? (Ad C 1)=some (.slice a c.jy.length cap)/\c.jy.length<=cap/\(∀j,w.frozen? (Ad C j)=false)/\kG (w.setCell (Ad C 1) (.slice a n cap)) C (c.cut n)/\Gk w (w.setCell (Ad C 1) (.slice a n cap)) C:=by
 obtain⟨v,A,h⟩:=h;obtain⟨a,cap,rfl⟩:=BG h.jy;have hcut:=h.cut z;refine⟨a,cap,jG h.jM,?_,λj=>nA h.jM,⟨v,_,hcut.1⟩,hcut.2⟩;rcases h.jy with⟨_,⟨i,t⟩|⟨g,f,p,i,_,_,y,_⟩⟩
 .rw[t];exact bD _
 .cases i;exact y
theorem acR(A:kF e)(hh:e.here e.at' w lo hi u)(hC:hi<=C)(z:kG w C c)(E:Room c (e.jw+1))(t:ji)(K one:Int):
 Calls prog 352 #[Pt C 0,.agg #[.string t,Im K,u],Im one] w λh w'=>h=.returned (Im (c.inside t e.does one).2)/\kG w' C (c.inside t e.does one).1/\Gk w w' C:=by
 have Z:=z.lt;have ec:=A.ok.jw;obtain⟨T1,M,rfl,_⟩:=A.ok.head _ _ _ _ _ hh;have O:=λo=>ah w o none;have ab:c.jy.length<=3000000:=by have:=E.jy;omega
 have L:Hid (∀o,Calls prog 324 #[Pt C 0,.agg #[.string t,Im K],Im one] (w.alloc o) λh w'=>h=.returned (.tuple #[])/\kG w' C (c.know t one)/\ED w' C w.heap.size o/\Gk w w' C):=λo=>(Vu (z.grow (O o)) t K one (by omega)).mono λh w' ⟨F,G,W⟩=>⟨F,G,(ED.new z o).gk W,(Gk.grown (O o) Z).trans W⟩;have i:Hid (kF e/\hi<=C/\e.here e.at' w lo hi (.iface T1 (Pt M 0))/\Room (c.know t one) e.jw):=⟨A,hC,hh,by have:=E.jw;omega,by have:=E.code;show(c.code.length:Int)+_<=_;omega,by have:=E.jy;show((c.jy++[(t,one)]).length:Int)+_<=_;simp only[aA,aF,bg];omega⟩;have D:(e.does.give (c.know t one) (-1)).1.jy.length=c.jy.length+1:=by rw[A.jy];simp[Co.know]
 obtain⟨a0,N,c1,_⟩:=z.back (n:=0) (bD _);have n0:¬C=w.heap.size:=by omega
 clear hh z E A;unfold Co.inside;generalize aa:c.jy.length=J at *;generalize B:e.does.give (c.know t one) (-1)=gv at *;have H:=jA B;clear B;obtain⟨gc,gs⟩:=gv;simp only at D⊢;go_enter func352,ntmps352;go_wp2_with fail;refine(L.out _).mono ?_;rintro h w1 ⟨rfl,U,p,F⟩;have x2:=jJ 2 p.at' rfl;obtain⟨I,m1,Q,j⟩:=i.out.1.give _ _ _ _ _ _ C (c.know t one) (-1) ((i.out.1.ok.law _).gk i.out.2.2.1 F i.out.2.1) i.out.2.1 U i.out.2.2.2;have Q:∀f w,(callFunc I f).run prog w=.ok (.enter I f) w:=Q;rw[H.out]at j;have j:Hid (Calls prog I #[Pt M 0,Pt C 0,Im (-1)] w1 λh w'=>h=.returned (Im gs)/\kG w' C gc/\Gk w1 w' C):=j;have R:=jA F;clear U F p L;go_wp2_with fail;refine j.out.mono ?_;rintro h w2 ⟨rfl,V,G⟩;obtain⟨a2,y,y1,y2,fz,X,Y⟩:=V.back (n:=J) (by omega);rw[D]at y1 y2;have HE:=jA (jd X ((R.out.trans G).trans Y));clear V G X Y j R;have i0:(0:Int)<=(J:Int):=by omega
 have i1:(J:Int)<=(y:Int):=by omega
 go_wp2_with fail;go_ret;exact⟨rfl,HE.out⟩
theorem Vx(h:w.heap[S]? =some (.cells #[Im x.at',Im x.jw,.string x.base,Im x.of,u] 348)):Calls prog 348 #[Pt S 0] w λe w'=>e=.returned (Im (jO x.base))/\w'=w:=by
 have f:=jJ 2 h rfl;clear h;unfold jO;rw[<-aZ];cases i:(x.base.toList==[70,82,69,83,72])with
 |true=>
  go_enter func348,ntmps348;go_wp2;go_ret;exact⟨rfl,rfl⟩
 |false=>
  cases j:(x.base.toList==[65,71,65,73,78])with
  |true=>
   go_enter func348,ntmps348;go_wp2;go_ret;exact⟨rfl,rfl⟩
  |false=>
   go_enter func348,ntmps348;go_wp2;go_ret;exact⟨rfl,rfl⟩
def yB(one:Int)(c:Co)(b:Wd×Ex):Co:=((c.inside b.1.text b.2.does one).1.lay 5 [(c.inside b.1.text b.2.does one).2]).kC c.free
theorem Vk(one:Int){b:Wd×Ex}(h:kF b.2):(yB one c b).jy=c.jy:=Ws h _ _
theorem alL(one:Int){b:Wd×Ex}(h:kF b.2)(i:b.2.jw<=1000000):((yB one c b).code.length:Int)<=c.code.length+200 * (1+b.2.jw):=by
 have j:=Wq (c:=c) h b.1.text one i;have f:=oN (c.inside b.1.text b.2.does one).1 5 [(c.inside b.1.text b.2.does one).2];simp only[aF,bg]at f;show(((c.inside b.1.text b.2.does one).1.lay 5 [(c.inside b.1.text b.2.does one).2]).code.length:Int)<=_;omega
theorem alM(one:Int)(fs:List (Wd×Ex))(c:Co)(i:Nat)(b:Wd×Ex)(h:fs[i]? =some b):Co.jE one (fs.take (i+1)) c=yB one (Co.jE one (fs.take i) c) b:=by
 have f:fs.take (i+1)=fs.take i++[b]:=by rw[fU,h];rfl
 rw[f];unfold Co.jE;rw[dV]
 rfl
theorem Ju{fs:List (Wd×Ex)}(h:∀b∈fs,0<=b.2.jw):0<=(fs.map λb=>1+b.2.jw).sum:=by
 induction fs with
 |nil=>simp
 |cons b fs ih=>
  have:=ih λc f=>h c (aI _ f);have:=h b (aW ..);simp only[dL,gY];omega
theorem Yp{fs:List (Wd×Ex)}(h:∀b∈fs,0<=b.2.jw):∀(i:Nat)(b:Wd×Ex),fs[i]? =some b->((fs.take i).map λb=>1+b.2.jw).sum+(1+b.2.jw)<=(fs.map λb=>1+b.2.jw).sum:=by
 induction fs with
 |nil=>intro i b f;simp at f
 |cons b0 fs ih=>
  have t:=h b0 (aW ..);have j:∀b∈fs,0<=b.2.jw:=λc p=>h c (aI _ p);intro i b f;cases i with
  |zero=>
   simp only[dw,bJ]at f;subst f;have:=Ju j;simp only[aO,iM,List.sum_nil,dL,gY];omega
  |succ i=>
   have:=ih j i b (by simpa using f);simp only[aC,dL,gY];omega
theorem Qv(one:Int):∀(f:List (Wd×Ex))(c:Co),(∀b∈f,kF b.2)->(∀b∈f,b.2.jw<=1000000)->(Co.jE one f c).jy=c.jy/\((Co.jE one f c).code.length:Int)<=c.code.length+200 * (f.map λb=>1+b.2.jw).sum
 |[],c,_,_=>by simp[Co.jE]
 |b::f,c,h,hk=>by
  have j:=h b (aW ..);have t:=alL (c:=c) one j (hk b (aW ..));obtain⟨p,y⟩:=Qv one f (yB one c b) (λd i=>h d (aI _ i)) (λd i=>hk d (aI _ i));have e:Co.jE one (b::f) c=Co.jE one f (yB one c b):=rfl;rw[e];refine⟨p.trans (Vk one j),?_⟩;simp only[dL,gY];omega
structure wM(x:Sx):Prop where
 all:∀b∈x.jE,kF b.2
 pos:∀b∈x.jE,0<=b.2.jw
 sum:1+(x.jE.map λb=>1+b.2.jw).sum<=x.jw
 max:x.jw<=1000000
 len:x.jE.length<=100000
theorem wM.of{N:Nat}(i:N<=100000)(h:rF N kF x)(f:x.jw<=1000000):wM x:=
 ⟨h.all,λb j=>(h.all b j).ok.jw.1,h.sum f,f,dH h.len i⟩
theorem wM.each(h:wM x):∀b∈x.jE,b.2.jw<=1000000:=λb f=>by
 obtain⟨i,hi,p⟩:=List.mem_iff_getElem.1 f;have t:=Yp h.pos i b (by rw[<-p];simp);have y:=Ju (fs:=x.jE.take i) λc j=>h.pos c (dS j);have:=h.sum;have:=h.max;omega
theorem aqJ(h:wM x)(list:Int):(c.ku list x.jE).1.jy=c.jy:=(Qv _ _ _ h.all h.each).1
theorem XA(h:wM x)(list:Int):((c.ku list x.jE).1.code.length:Int)<=c.code.length+52+200 * (x.jw-1):=by
 have j:=(Qv c.hold.2 x.jE ((c.hold.1.lay 21 [c.hold.2,list]).lay 4 [list,c.hold.2,c.hold.2]) h.all h.each).2;have f:=oN (c.hold.1.lay 21 [c.hold.2,list]) 4 [list,c.hold.2,c.hold.2];have i:=oN c.hold.1 21 [c.hold.2,list];have p:=h.sum;have t:c.hold.1.code.length=c.code.length:=rfl;simp only[aF,bg]at f i;show((Co.jE c.hold.2 x.jE ((c.hold.1.lay 21 [c.hold.2,list]).lay 4 [list,c.hold.2,c.hold.2])).code.length:Int)<=_;omega
theorem Qu(h:wM x)(list:Int):((c.nk list x.jE).1.code.length:Int)<=c.code.length+95+200 * (x.jw-1):=by
 have t:c.hold.1.code.length=c.code.length:=rfl;have y:=h.sum;have z:=Ju h.pos;unfold Co.nk;split
 .have f:=oN c.hold.1 21 [c.hold.2,list];simp only[aF,bg]at f;simp only;omega
 .have p:=XA (c:=c.hold.1.lay 6 [c.hold.2,0]) h list;have f:=oN c.hold.1 6 [c.hold.2,0];simp only;generalize (c.hold.1.lay 6 [c.hold.2,0]).ku list x.jE=o at *;have i:=oN o.1 22 [c.hold.2,o.2];have j:=oN (o.1.lay 22 [c.hold.2,o.2]) 0 [];simp only[aF,bg]at i f j;show((((o.1.lay 22 [c.hold.2,o.2]).lay 0 []).code.length:Nat):Int)<=_;omega
end
end
end Go.Proofs.YthllhabjfchgiaaGreatDoor
