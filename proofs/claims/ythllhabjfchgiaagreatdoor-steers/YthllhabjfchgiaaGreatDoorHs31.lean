import Derived.Test.YthllhabjfchgiaaGreatDoorHs30
set_option maxRecDepth 100000
set_option maxHeartbeats 8000000
set_option linter.unusedSimpArgs false
namespace Go.Proofs.YthllhabjfchgiaaGreatDoor
open _root_.Go.Proofs.Tryz
section
open Go.RowKit Hx
attribute [local go_sem ↓] Go.wp_at_zero Go.wp_at_succ
attribute [local go_sem] kN
section
variable {w w' w1 w2 w3 w4:jk}{C lo hi b d m k:Nat}{c:Ck}{u v:jm}{e f:Ex}{a:Int}{T:jo}{x:Sx}{l y n:List jI}
theorem zY.law(h:zY d l):Lawful (mY l):=Rz λs g=>(h.ok s g).law
theorem akS(a:Int)(h:kT e)(i:∀s∈y,oI s)(g:∀s∈n,oI s):oI (qo a e y n):=uO (by simp[o7]) (Ov (h.law _) (uN i) (uN g)) (Jj h.jw (rP i) (rP g))
theorem ao1(a:Int)(t:Wd)(h:pF x)(g:∀s∈l,oI s):oI (qQ a t x l):=uO (by simp[o7]) (wU h.law (uN g)) (rO h.jw (tC (rP g)))
theorem KG{w:jk}{lo hi:Nat}{v:jm}(h:mY l w lo hi v):∃j n i,v=.slice j n i:=by
 rcases h with⟨_,rfl⟩|⟨g,i,q,o,rfl,_⟩
 .exact⟨_,_,_,rfl⟩
 .exact⟨_,_,_,rfl⟩
theorem akR(h:mg k e)(hk:k<=10000 * (d+1))(P:zY d y)(j:zY d n)(a:Int):AQ (d+1) (qo a e y n):=by
 refine⟨akS a h.ok P.ok j.ok,λc=>Lr ?_,?_⟩
 .show(qK n (qK y ((e.does.look c).want (e.does.jZ c.jy) e.at' 2))).jy=c.jy;rw[j.jy,P.jy,wL,h.jy]
 rintro w lo hi T b C c ⟨b',us,hv,h1,h2,⟨m,k',u,v,z,rfl,H,q,VY,hu,t,Z⟩,V⟩ hC hc hn;cases hv;obtain⟨T1,S,U,rfl,aa,l1,l2,m1,kM,M⟩:=h.use (C:=C) (c:=c) hu (by omega) hc (by omega);have kM:∀i w,(callFunc U i).run prog w=.ok (.enter U i) w:=kM;have M:Hid (Calls prog U #[Pt S 0,Pt C 0] w λA w'=>A=.returned (.tuple #[])/\og e e.at' w w' lo m (.iface T1 (Pt S 0)) S C c):=M;obtain⟨ya,yn,yc,rfl⟩:=KG t;obtain⟨na,nn,nc,rfl⟩:=KG Z;have c2:=jJ 2 V rfl;have N:=jA V;have g:Hid (mg k e/\zY d y/\zY d n/\c.jy.length+10000 * d<=800000/\mY y w m k' (.slice ya yn yc)/\mY n w k' b (.slice na nn nc)):=⟨h,P,j,by omega,t,Z⟩;refine⟨338,λw=>by kernel_rfl,λi w=>by kernel_rfl,?_⟩;clear hu V hc hn t Z P j h;go_enter func338,ntmps338;go_wp2_with fail;refine M.out.mono ?_;rintro A w1 ⟨rfl,O⟩;have B:=(O.keep.keep b (by omega) (je (by omega))).trans N.out;have e2:=jJ 2 B rfl;have HW:=jA (O.want g.out.1.ok 2 0);have HL:=jA O;clear O B M;go_wp2_with fail;refine HW.out.mono ?_;rintro A w2 ⟨rfl,p1,p2⟩;have Q:=HL.out.keep.trans (p2.all _ _);have D:=(Q.keep b (by omega) (je (by omega))).trans N.out;have e3:=jJ 3 D rfl;have J:=g.out.2.1.law.lk g.out.2.2.2.2.1 Q (by omega) (je (aj _));have F:=(g.out.1.ok.law _).lk HL.out.here p2 (by omega) (je (bD _));have r:((e.does.look c).want (e.does.jZ c.jy) e.at' 2).jy=c.jy:=by rw[wL,g.out.1.jy]
 have HY:=jA (g.out.2.1.look _ _ _ _ C _ J (by omega) p1 (by rw[r];exact g.out.2.2.2.1));have lN:=jA (jd Q (jd F r));clear p1 p2 Q D J F r HW;go_wp2_with fail;refine HY.out.mono ?_;rintro A w3 ⟨rfl,K,L,o⟩;have R:=(lN.out.1.wide (aj _) q).trans (o.wide H (aj _));have E:=(R.keep b (by omega) (je (by omega))).trans N.out;have e4:=jJ 4 E rfl;have I:=g.out.2.2.1.law.lk g.out.2.2.2.2.2 R (by omega) (je (aj _));have G:=(g.out.1.ok.law _).lk lN.out.2.1 o (by omega) (jf (aj _));have HZ:=jA (g.out.2.2.1.look _ _ _ _ C _ I (by omega) L (by rw[g.out.2.1.jy,lN.out.2.2];exact g.out.2.2.2.1));have qE:=jA (jd R (jd G K));clear K L o R E I G HY;go_wp2_with fail;refine HZ.out.mono ?_;rintro A w4 ⟨rfl,K,L,o⟩;have HE:Hid ((qo a e y n).here w4 lo hi (.iface 339 (Pt b 0))/\kV w4 C ((qo a e y n).does.look c)/\Lk w w4 lo hi C):=by
  have q4:=(qE.out.1.wide (aj _) VY).trans (o.wide (by omega) (aj _));have W:=(q4.keep b (by omega) (je (aj _))).trans N.out;have X:=(g.out.1.ok.law _).lk qE.out.2.1 o (by omega) (jf q);have Y:=g.out.2.1.law.lk qE.out.2.2 o (by omega) (jf (aj _));exact⟨⟨b,_,rfl,h1,h2,⟨m,k',_,_,_,rfl,H,q,VY,X,Y,K⟩,W⟩,L,q4.wide (aj _) (by omega)⟩
 clear K L o;go_wp2_with fail;go_end0;exact⟨rfl,HE.out⟩
theorem ao0(hx:rF 100000 (mg k) x)(hk:k+1<=10000 * (d+1))(hl:zY d l)(a:Int)(t:Wd):AQ (d+1) (qQ a t x l):=by
 obtain⟨g,h⟩:=t;have H:∀c,(oG x.of x.jE c).jy=c.jy:=λc=>OC _ _ _ λb K=>(hx.all b K).jy;refine⟨ao1 a _ hx.ok hl.ok,λc=>Lr ?_,?_⟩
 .show((qK l ((oG x.of x.jE (c.nD g h)).add g x.of false)).cut (oG x.of x.jE (c.nD g h)).jy.length).jy=c.jy;unfold Ck.cut;rw[hl.jy];unfold Ck.add;simp only[H,LW];simp
 rintro w lo hi T b C c ⟨b',us,hv,h1,h2,⟨m,u,v,rfl,R,B,hu,I⟩,K⟩ hC hc hn;cases hv;obtain⟨S,fv,rfl,s1,s2,s3⟩:=xu hu;obtain⟨ya,yn,yc,rfl⟩:=KG I;have c2:=jJ 2 K rfl;have c3:=jJ 3 K rfl;have HB:=jA K;have HN:=jA (U8 hc g h (by omega));have i:=jA (jd hx (jd hl (jd H (jd hn (jd hu I)))));have PS:=jA (LW c g h);refine⟨346,λw=>by kernel_rfl,λaf w=>by kernel_rfl,?_⟩;have A:b<C:=by omega
 clear hu K hc hn I hx hl H s3;go_enter func346,ntmps346;go_wp2_with fail;refine HN.out.mono ?_;rintro J w0 ⟨rfl,Z,D⟩;have O:=(D.keep b A (je (bD _))).trans HB.out;have d4:=jJ 4 O rfl;have V:=i.out.1.law.lk i.out.2.2.2.2.1 D (by omega) (je (bD _));have HS:=jA (U7 i.out.1 V (by omega) Z (by rw[PS.out];have:=i.out.2.2.2.1;omega));have PI:=jA D;clear Z D O V HN;go_wp2_with fail;refine HS.out.mono ?_;rintro J w1 ⟨rfl,E,L,F⟩;have q1:=(PI.out.all _ _).trans F;have z:=(q1.keep b A (je B)).trans HB.out;have e2:=jJ 2 z rfl;have e3:=jJ 3 z rfl;have e4:=jJ 4 z rfl;obtain⟨S',DT,aa,_,_,s3⟩:=xu E;cases aa;have eS:=jJ 3 s3 rfl;obtain⟨o,r⟩:∃o,(oG x.of x.jE (c.nD g h)).jy.length=o:=⟨_,rfl⟩;have M:c.jy.length=o:=by rw[<-r,i.out.2.2.1,PS.out]
 obtain⟨v1,k1⟩:=L;obtain⟨a1,N,rfl⟩:=BG k1.row;have x0:w1.cell? (Ad C 0)=some (.slice a1 o N):=by rw[<-r];exact jG k1.jM
 have q:kV w1 C (oG x.of x.jE (c.nD g h)):=⟨_,k1⟩;have Ij:Hid (∀n,Calls prog 326 #[Pt C 0,.agg #[.string g,Im h],Im x.of,.bool false] (w1.drewN n) λJ w'=>J=.returned (.tuple #[])/\kV w' C ((oG x.of x.jE (c.nD g h)).add g x.of false)/\Lk w1 w' 0 0 C):=λn=>by
  refine(U5 (q.grow (lu w1 n)) g h _ false (by rw[r];have:=i.out.2.2.2.1;omega)).mono ?_;rintro J w' ⟨E,L,F⟩;exact⟨E,L,(Lk.grown (lu w1 n) q.lt).trans F⟩
 have Y:Hid (Lk w w1 lo m C/\oZ x w1 lo m (Pt S 0)/\(oG x.of x.jE (c.nD g h)).jy.length=o/\c.jy.length=o):=⟨q1,E,r,M⟩;clear E F q1 z s3 r M k1 q HS;go_wp2_with fail;refine nO 12 (by kernel_rfl) (by kernel_rfl) ?_;simp only[aC,aO,aG,aQ];repeat (go_big_quiet_step (fail))
 refine bF ?_;intro _ ae;obtain⟨n3,X⟩:=ae;subst X;go_wp2_with fail;refine(Ij.out _).mono ?_;rintro J w2 ⟨rfl,Z,D⟩;have q2:=Y.out.1.trans (D.all _ _);have P:=(q2.keep b A (je B)).trans HB.out;have g5:=jJ 5 P rfl;have Q:=i.out.2.1.law.lk i.out.2.2.2.2.2 q2 (by omega) (je (aj _));have W:=i.out.1.law.lk Y.out.2.1 D (by omega) (je (bD _));have G:((oG x.of x.jE (c.nD g h)).add g x.of false).jy.length=o+1:=by
  unfold Ck.add;simp only[aA,aF,bg,Y.out.2.2.1]
 have HY:=jA (i.out.2.1.look _ _ _ _ C _ Q (by omega) Z (by rw[G];have:=i.out.2.2.2.1;have:=Y.out.2.2.2;omega));have lN:=jA (jd q2 (jd W G));clear Z D q2 P Q W G Ij;go_wp2_with fail;refine HY.out.mono ?_;rintro J w3 ⟨rfl,E,L,F⟩;have U:(qK l ((oG x.of x.jE (c.nD g h)).add g x.of false)).jy.length=o+1:=by rw[i.out.2.1.jy];exact lN.out.2.2
 obtain⟨a5,j,z1,z2,z3,z4,z5⟩:=L.back (n:=o) (by omega);rw[U]at z1;have HE:Hid ((qQ a ⟨g,h⟩ x l).here (w3.setCell (Ad C 0) (.slice a5 o j)) lo hi (.iface 349 (Pt b 0))/\kV (w3.setCell (Ad C 0) (.slice a5 o j)) C ((qQ a ⟨g,h⟩ x l).does.look c)/\Lk w (w3.setCell (Ad C 0) (.slice a5 o j)) lo hi C):=by
  have q4:=((lN.out.1.wide (aj _) B).trans (F.wide R (aj _))).trans (z5.all _ _);have ab:=(q4.keep b A (je (aj _))).trans HB.out;have ad:=i.out.1.law.lk (i.out.1.law.lk lN.out.2.1 F (by omega) (jf (aj _))) z5 (by omega) (je (bD _));have ac:=i.out.2.1.law.lk E z5 (by omega) (je (bD _));refine⟨⟨b,_,rfl,h1,h2,⟨m,_,_,rfl,R,B,ad,ac⟩,ab⟩,?_,q4.wide (aj _) (by omega)⟩;show kV _ C ((qK l ((oG x.of x.jE (c.nD g h)).add g x.of false)).cut (oG x.of x.jE (c.nD g h)).jy.length);rw[Y.out.2.2.1];exact z4
 clear E L F z4 z5 U HY;have j0:(0:Int)<=(o:Int):=by omega
 have j1:(o:Int)<=(j:Int):=by omega
 go_wp2_with fail;go_end0;exact⟨rfl,HE.out⟩
theorem aoU(N:Nat)(j:N<=100000)(d:Nat):Nc N (mg d) (mg (d+1)) (zY d) (AQ (d+1)) where
 jw:=λ_ h=>h.ok.jw
 RH:=λa t _ h=>ape h (by omega) a t
 Tc:=λt _ h=>atm h (by omega) t
 TA:=λa i _ h=>auF h (by omega) a i
 SE:=λa _ _ h k=>arz h k (by omega) a
 returning:=λa=>aso _ a
 choice:=λa _ _ _ h r q=>akR h (by omega) r q a
 loop:=λa t _ _ g o=>ao0 ⟨g.of,g.all,dH g.len j,g.jw,g.sum⟩ (by omega) o a t
end
section
variable {w w' w1 w2:jk}{C lo hi b:Nat}{c:Co}{u v:jm}{e f:Ex}{a:Int}{T:jo}{x:Sx}{l y n:List jI}
def Rj(E F G:Hx.tk):Hx.Kids:=λw lo hi us=>∃u v z,us=[u,v,z]/\E w lo hi u/\F w lo hi v/\G w lo hi z
theorem aog{E F G:Hx.tk}(h:Lawful E)(k:Lawful F)(g:Lawful G):zh (Rj E F G):=
 ⟨λ_ _ _ _ _ ⟨u,v,z,e,j,o,q⟩ i=>⟨u,v,z,e,h.loc _ _ _ _ _ j i,k.loc _ _ _ _ _ o i,g.loc _ _ _ _ _ q i⟩,λ_ _ _ _ _ _ ⟨u,v,z,e,j,o,q⟩ r t=>⟨u,v,z,e,h.wide _ _ _ _ _ _ j r t,k.wide _ _ _ _ _ _ o r t,g.wide _ _ _ _ _ _ q r t⟩⟩
theorem G7(h:wW l w lo hi v):∃j i,v=.slice j l.length i:=by
 rcases h with⟨q,rfl⟩|⟨g,i,o,rfl,_⟩
 .exact⟨none,0,by rw[q];rfl⟩
 .exact⟨_,_,rfl⟩
theorem XF{k m o:Int}(r:0<=k)(t:k<=1000001)(q:0<=m)(z:m<=1000001)(j:0<=o)(A:o<=1000001)(h:jS [k,m,o]<=1000000):jS [k,m,o]=1+(k+m+o):=by
 have g:=(xZ [k,m,o] (by simp;omega)).1;unfold jS at h⊢;have i:=FP (a:=1) g h;rw[i]at h⊢;unfold kZ at h⊢;simp only[bP,eF]at h⊢;omega
structure aiH(e:Ex)(y n:List jI)(c rc:Co)(rs:Int):Prop where
 h1:e.does.give c (-1)=(rc,rs)
theorem U4{g:Co}{rs:Int}(h:aiH e y n c g rs)(a:Int):(qo a e y n).does.lay c=(if 0<n.length then kW n ((kW y ((g.kC c.free).lay 2 [rs])).lay 3 [])else kW y ((g.kC c.free).lay 2 [rs])).lay 0 []:=by
 show(if 0<n.length then kW n ((kW y (((e.does.give c (-1)).1.kC c.free).lay 2 [(e.does.give c (-1)).2])).lay 3 [])else kW y (((e.does.give c (-1)).1.kC c.free).lay 2 [(e.does.give c (-1)).2])).lay 0 []=_;rw[h.h1]
theorem abT(E:kF e)(B:tV y)(G:tV n)(a:Int){k:Int}(W:1<=k/\k<=1000001)(I:k<=1000000->1+(e.jw+sumOf y+sumOf n)<=k):qh (wY 339 341 a k (Rj (e.here e.at') (wW y) (wW n)) (λP=>P++[.bool false]) {lay:=(Aa e y n).lay}):=by
 have ec:=E.ok.jw;have yc:=rP B.ok;have nc:=rP G.ok;refine⟨Jf (by simp[o7]) (aog (E.ok.law _) B.Ai G.Ai) W,W.1,λc=>Jo ?_,λc hk=>?_,?_⟩
 .obtain⟨r,o⟩:∃r,e.does.give c (-1)=r:=⟨_,rfl⟩;obtain⟨g,h⟩:=r;have K:=E.jy c (-1);rw[o]at K;refine Eq.trans (congrArg Co.jy (U4 ⟨o⟩ a)) ?_;rw[I8];split
  .rw[G.jy,I8,B.jy];exact K
  .rw[B.jy];exact K
 .obtain⟨r,o⟩:∃r,e.does.give c (-1)=r:=⟨_,rfl⟩;obtain⟨g,h⟩:=r;have hk:=hk;have hp:=I hk;have h1:=E.len c (-1) (by omega);rw[o]at h1;have h2:=oN (g.kC c.free) 2 [h];have h3:=B.len ((g.kC c.free).lay 2 [h]) (by omega);have h4:=oN (kW y ((g.kC c.free).lay 2 [h])) 3 [];have h5:=G.len ((kW y ((g.kC c.free).lay 2 [h])).lay 3 []) (by omega);have h6:=oN (if 0<n.length then kW n ((kW y ((g.kC c.free).lay 2 [h])).lay 3 [])else kW y ((g.kC c.free).lay 2 [h])) 0 [];simp only[aF,bg,FK]at h1 h2 h4 h6;have D:(wY 339 341 a k (Rj (e.here e.at') (wW y) (wW n)) (λP=>P++[.bool false]) {lay:=(Aa e y n).lay}).does.lay c=_:=U4 ⟨o⟩ a;rw[D];show _<=(c.code.length:Int)+200 * k;split at h6<;>rename_i ab<;>simp only[ab,dM,cZ]<;>omega
 rintro w lo hi T b C c ⟨b',P,hv,h1,h2,⟨u,v,z,rfl,hu,M,hz⟩,hb⟩ hC hc o;cases hv;have o:Room c (k):=o;have hp:=I o.jw;have ac:=o.code;have ae:=o.jy;have ad:=o.jw;obtain⟨T1,b1,rfl,_⟩:=E.ok.head _ _ _ _ _ hu;obtain⟨ya,Dq,Y⟩:=G7 M;obtain⟨yn,Z⟩:∃yn,y.length=yn:=⟨_,rfl⟩;rw[Z]at Y;subst Y;obtain⟨f1,m1,kM,Q⟩:=E.give _ _ _ _ _ _ C c (-1) hu (by omega) hc (o.less (by omega));have kM:∀t w,(callFunc f1 t).run prog w=.ok (.enter f1 t) w:=kM;have J:=E.len c (-1) (by omega);have A:=E.jy c (-1);obtain⟨r,H⟩:∃r,e.does.give c (-1)=r:=⟨_,rfl⟩;obtain⟨g,h⟩:=r;rw[H]at Q J A;simp only at J A;have Q:=jA (Q);have D:(wY 339 341 a k (Rj (e.here e.at') (wW y) (wW n)) (λP=>P++[.bool false]) {lay:=(Aa e y n).lay}).does.lay c=_:=U4 ⟨H⟩ a;rw[D];clear D;obtain⟨v0,Lc,h0⟩:=hc;have c2:=jJ 2 h0.jM rfl;clear h0;generalize c.free=i at *;have aa:b<C:=by omega
 have rU:=jA (λq (L:Gk w q C)=>(L.keep b aa).trans hb);have k2:=oN (g.kC i) 2 [h];simp only[aF,bg,FK]at k2;have k3:=B.len ((g.kC i).lay 2 [h]) (by omega);have Ot:=B.jy ((g.kC i).lay 2 [h]);have HY:=jA (λq (L:Gk w q C)(hg:kG q C ((g.kC i).lay 2 [h]))=>B.lay _ _ _ _ _ _ (B.Ai.gk M L (by omega)) hC hg ⟨by omega,by omega,by show(g.jy.length:Int)+_<=_;rw[A];omega⟩);have k4:=oN (kW y ((g.kC i).lay 2 [h])) 3 [];simp only[bg]at k4;have Gg:=jA (λq (L:Gk w q C)(hg:kG q C ((kW y ((g.kC i).lay 2 [h])).lay 3 []))=>G.lay _ _ _ _ _ _ (G.Ai.gk hz L (by omega)) hC hg ⟨by omega,by omega,by show((kW y ((g.kC i).lay 2 [h])).jy.length:Int)+_<=_;rw[Ot];show(g.jy.length:Int)+_<=_;rw[A];omega⟩);have k5:=G.len ((kW y ((g.kC i).lay 2 [h])).lay 3 []) (by omega);have l1:(g.kC i).code.length<=850000000:=by rw[FK];omega
 have l2:(kW y ((g.kC i).lay 2 [h])).code.length<=850000000:=by omega
 have l3:(kW n ((kW y ((g.kC i).lay 2 [h])).lay 3 [])).code.length<=850000000:=by omega
 obtain⟨za,zc,ag⟩:∃za zc,z=.slice za n.length zc:=by
  exact G7 hz
 subst ag;have d1:=jJ 2 (rU.out w (Gk.refl _ _)) rfl;have d5:=jJ 5 (rU.out w (Gk.refl _ _)) rfl;refine⟨337,λw=>by kernel_rfl,λt w=>by kernel_rfl,?_⟩;clear hu M hz hb o ac ae ad J A k2 k3 Ot k4 k5 hp B G E H Z I;generalize kW n ((kW y ((g.kC i).lay 2 [h])).lay 3 [])=cN at *;generalize VN:kW y ((g.kC i).lay 2 [h])=cY at *;clear VN;obtain⟨R,j⟩:∃R,R=(if 0<n.length then cN else cY):=⟨_,rfl⟩;rw[<-j];have HR:=jA j;clear j;have xB:=jA (λq (L:kG q C cY)=>GU L 3 (by omega));go_enter func337,ntmps337;go_wp2_with fail;refine Q.out.mono ?_;rintro e1 w1 ⟨rfl,⟨v1,Am,p1⟩,q1⟩;have g2:=jJ 2 p1.jM rfl;have fz:=qV p1.jM;have l9:Hid (kG (w1.setCell (Ad C 2) (Im i)) C (g.kC i)/\Gk w (w1.setCell (Ad C 2) (Im i)) C):=⟨⟨v1,Am,p1.kC i⟩,q1.trans (Gk.free _ _ _)⟩;have HL:Hid (Calls prog 92 #[Pt C 0,.int .u8 2,.slice (some (Ad w1.heap.size 0)) 1 1] ((w1.setCell (Ad C 2) (Im i)).alloc (.cells #[Im h] 3)) λe w'=>e=.returned (.tuple #[])/\kG w' C ((g.kC i).lay 2 [h])/\Gk (w1.setCell (Ad C 2) (Im i)) w' C):=by
  have F:=acT l9.out.1 2 h (by omega);have af:(w1.setCell (Ad C 2) (Im i)).heap.size=w1.heap.size:=by simp[World.setCell]
  rw[af]at F;exact F
 clear p1 q1 Q;go_wp2_with fail;refine HL.out.mono ?_;rintro e2 w2 ⟨rfl,p2,q2⟩;have S:=rU.out w2 (l9.out.2.trans q2);have d3:=jJ 3 S rfl;have lN:=jA (jd p2 (l9.out.2.trans q2));clear p2 q2 S HL l9;go_wp2_with fail;refine(HY.out w2 lN.out.2 lN.out.1).mono ?_;rintro e3 w3 ⟨rfl,p3,q3⟩;have U:=rU.out w3 (lN.out.2.trans q3);have d4:=jJ 4 U rfl;have N:=jA (jd p3 (lN.out.2.trans q3));clear p3 q3 U HY lN d3;by_cases X:0<n.length
 .have j:R=cN:=by have F:=HR.out;rw[jh X]at F;exact F
  subst j;clear HR;have dn:decide ((0:Int)<(n.length:Int))=true:=by simp;omega
  generalize n.length=nn at *;go_wp2_with fail;refine(xB.out w3 N.out.1).mono ?_;rintro e4 w4 ⟨rfl,p4,q4⟩;have V:=rU.out w4 (N.out.2.trans q4);have d6:=jJ 4 V rfl;have O:=jA (jd p4 (N.out.2.trans q4));clear p4 q4 V xB N d4;go_wp2_with fail;refine(Gg.out w4 O.out.2 O.out.1).mono ?_;rintro e5 w5 ⟨rfl,p5,q5⟩;have qM:=jA (GU p5 0 (by omega));have x9:=jA (O.out.2.trans q5);clear p5 q5 Gg O;go_wp2_with fail;refine qM.out.mono ?_;rintro e6 w6 ⟨rfl,p6,q6⟩;have HE:=jA (jd p6 (x9.out.trans q6));clear p6 q6 qM x9;go_wp2_with fail;go_end0;exact⟨rfl,HE.out⟩
 .have j:R=cY:=by have F:=HR.out;rw[jg X]at F;exact F
  subst j;clear HR;have dn:=dO (by omega);generalize n.length=nn at *;have l4:R.code.length<=900000000:=dH l2 (by decide);have qM:=jA (GU N.out.1 0 l4);have O:=jA N.out.2;clear N;go_wp2_with fail;refine qM.out.mono ?_;rintro e6 w6 ⟨rfl,p6,q6⟩;have HE:=jA (jd p6 (O.out.trans q6));clear p6 q6 qM O;go_wp2_with fail;go_end0;exact⟨rfl,HE.out⟩
theorem abU(t:kF e)(j:tV y)(i:tV n)(a:Int):qh (qo a e y n):=by
 have g:=t.ok.jw;have r:=rP j.ok;have q:=rP i.ok;refine(abT t j i a ⟨yE (by simp;exact⟨g,r,q⟩),(Jj g r q).2⟩ (λE=>by rw[XF g.1 g.2 r.1 r.2 q.1 q.2 E];omega)).of (uO (by simp[o7]) (Ov (t.ok.law _) j.law i.law) (Jj g r q))
  (λ_ _ _ _ h=>KX (λ_ _ _ _ _ ⟨m,o,u,v,z,A,B,I,J,F,G,H⟩ D=>⟨u,v,z,A,(t.ok.law _).wide _ _ _ _ _ _ F (aj _) (by omega),j.Ai.wide _ _ _ _ _ _ (j.flat G) B (by omega),i.Ai.wide _ _ _ _ _ _ (i.flat H) (by omega) D⟩) h) rfl rfl
theorem WW{t:Wd}{g:Co}{fs:Int}(h:c.nk (jO x.base) x.jE=(g,fs))(a:Int):(qQ a t x l).does.lay c=(((kW l ((g.lay 4 [jO x.base,fs,fs]).know t.text fs)).lay 0 []).cut c.jy.length).kC c.free:=by
 show(((kW l (((c.nk (jO x.base) x.jE).1.lay 4 [jO x.base,(c.nk (jO x.base) x.jE).2,(c.nk (jO x.base) x.jE).2]).know t.text (c.nk (jO x.base) x.jE).2)).lay 0 []).cut c.jy.length).kC c.free=_;rw[h]
theorem aev(F:∀b∈x.jE,kF b.2)(xc:0<=x.jw/\x.jw<=1000001)(A:tV l)(a:Int)(t:Wd){k:Int}(X:1<=k/\k<=1000001)(L:k<=1000000->wM x/\sumOf l<=1000000/\2+x.jw+sumOf l<=k):qh (wY 349 351 a k (Bo (BH x) (wW l)) (λO=>.string t.text::Im t.at'::O) (OD t x l)):=by
 have lc:=rP A.ok;have sD:=Hz λb hb a=>(F b hb).ok.law a;have I:∀c:Co,(c.nk (jO x.base) x.jE).1.jy=c.jy:=λc=>by
  have:=(UH F 0 0 1000001 ⟨#[]⟩ (by omega) (λh=>jl h (by omega)) {give:=DK ⟨#[]⟩ x.base x.jE} rfl).jy c (-1);have e0:(DK ⟨#[]⟩ x.base x.jE c (-1)).1.jy=(c.nk (jO x.base) x.jE).1.jy:=by
   show((((c.nk (jO x.base) x.jE).1.kC c.free).choose (-1)).1.lay _ _).jy=_;rw[I8,JX,SS]
  rw[<-e0];exact this
 obtain⟨i,z⟩:=t;refine⟨Jf (by simp[o7]) (Rk sD A.Ai) X,X.1,λc=>Jo ?_,λc hk=>?_,?_⟩
 .obtain⟨r,o⟩:∃r,c.nk (jO x.base) x.jE=r:=⟨_,rfl⟩;obtain⟨j,g⟩:=r;have G:=I c;rw[o]at G;refine Eq.trans (congrArg Co.jy (WW (t:=⟨i,z⟩) o a)) ?_;show((kW l ((j.lay 4 [jO x.base,g,g]).know i g)).jy.take c.jy.length)=c.jy;rw[A.jy];show((j.jy++[(i,g)]).take c.jy.length)=c.jy;simp only at G;rw[G];simp
 .obtain⟨r,o⟩:∃r,c.nk (jO x.base) x.jE=r:=⟨_,rfl⟩;obtain⟨j,g⟩:=r;obtain⟨Y,D,hp⟩:=L hk;have G:=Qu (c:=c) Y (jO x.base);rw[o]at G;have h2:=oN j 4 [jO x.base,g,g];have h3:=A.len ((j.lay 4 [jO x.base,g,g]).know i g) D;have h4:=oN (kW l ((j.lay 4 [jO x.base,g,g]).know i g)) 0 [];have h5:((j.lay 4 [jO x.base,g,g]).know i g).code=(j.lay 4 [jO x.base,g,g]).code:=rfl;rw[h5]at h3;simp only[aF,bg]at G h2 h4;have B:(wY 349 351 a k (Bo (BH x) (wW l)) (λO=>.string (⟨i,z⟩:Wd).text::Im (⟨i,z⟩:Wd).at'::O) (OD ⟨i,z⟩ x l)).does.lay c=_:=WW (t:=⟨i,z⟩) o a;rw[B];show(((kW l ((j.lay 4 [jO x.base,g,g]).know i g)).lay 0 []).code.length:Int)<=(c.code.length:Int)+200 * k;omega
 rintro w lo hi T b C c ⟨b',O,hv,G,h2,⟨u,v,rfl,hu,M⟩,hb⟩ hC W o;cases hv;have o:Room c (k):=o;obtain⟨Y,D,hp⟩:=L o.jw;have ad:=o.code;have af:=o.jy;have ae:=o.jw;obtain⟨S,fv,rfl,s1,s2,hS,_⟩:=id hu;obtain⟨ya,yc,Z⟩:=G7 M;obtain⟨yn,aa⟩:∃yn,l.length=yn:=⟨_,rfl⟩;rw[aa]at Z;subst Z;have ab:b<C:=by omega
 have rU:=jA (λq (K:Gk w q C)=>(K.keep b ab).trans hb);have JD:=jA (λq (K:Gk w q C)=>Vx ((K.keep S (by omega)).trans hS));have P:=λn=>(acQ Y sD (sD.gk hu (Gk.grown (lu w n) W.lt) (by omega)) hC (W.grow (lu w n)) (o.less (by omega)) (by omega)).mono (R':=λE w'=>E=.returned (Im (c.nk (jO x.base) x.jE).2)/\kG w' C (c.nk (jO x.base) x.jE).1/\Gk w w' C) λE w' ⟨q1,q2,q3⟩=>⟨q1,q2,(Gk.grown (lu w n) W.lt).trans q3⟩;have k1:=Qu (c:=c) Y (jO x.base);have N:=I c;obtain⟨r,J⟩:∃r,c.nk (jO x.base) x.jE=r:=⟨_,rfl⟩;obtain⟨j,g⟩:=r;rw[J]at P k1 N;simp only at k1 N;have P:=jA (P);have B:(wY 349 351 a k (Bo (BH x) (wW l)) (λO=>.string (⟨i,z⟩:Wd).text::Im (⟨i,z⟩:Wd).at'::O) (OD ⟨i,z⟩ x l)).does.lay c=_:=WW (t:=⟨i,z⟩) J a;rw[B];clear B;have k2:=oN j 4 [jO x.base,g,g];simp only[aF,bg]at k2;have k3:=A.len ((j.lay 4 [jO x.base,g,g]).know i g) D;have WA:((j.lay 4 [jO x.base,g,g]).know i g).code=(j.lay 4 [jO x.base,g,g]).code:=rfl;rw[WA]at k3;have Ot:=A.jy ((j.lay 4 [jO x.base,g,g]).know i g);have HY:=jA (λq (K:Gk w q C)(hg:kG q C ((j.lay 4 [jO x.base,g,g]).know i g))=>A.lay _ _ _ _ _ _ (A.Ai.gk M K (by omega)) hC hg ⟨by omega,by rw[WA];omega,by show((j.jy++[(i,g)]).length:Int)+_<=_;rw[N];simp only[aA,aF,bg];omega⟩);have Q:=jA (λq (K:kG q C (j.lay 4 [jO x.base,g,g]))=>Vu K i z g (by show j.jy.length<=_;rw[N];omega));have l1:j.code.length<=850000000:=by omega
 have l2:(kW l ((j.lay 4 [jO x.base,g,g]).know i g)).code.length<=850000000:=by omega
 have ln:(kW l ((j.lay 4 [jO x.base,g,g]).know i g)).jy.length=c.jy.length+1:=by rw[Ot];show(j.jy++[(i,g)]).length=_;rw[N];simp
 obtain⟨a0,ah,c1,_,c2,_⟩:=W.leave (aj _) 0;have d4:=jJ 4 (rU.out w (Gk.refl _ _)) rfl;refine⟨345,λw=>by kernel_rfl,λag w=>by kernel_rfl,?_⟩;clear hu M hb o ad af ae k1 N k2 k3 WA Ot hp A J W Y D L I sD hS aa;generalize VN:kW l ((j.lay 4 [jO x.base,g,g]).know i g)=cY at *;clear VN;generalize jO x.base=ls at *;generalize c.free=fr at *;generalize ai:c.jy.length=nl at *;go_enter func345,ntmps345;go_wp2_with fail;go_quiet (fail);go_wp2_with fail;refine(P.out _).mono ?_;rintro E w1 ⟨rfl,p1,q1⟩;have U:=rU.out w1 q1;have e4:=jJ 4 U rfl;have yh:=jA (QH p1 4 ls g g (by omega));have l9:=jA q1;clear p1 q1 U P;go_wp2_with fail;refine(JD.out _ l9.out).mono ?_;rintro E ak ⟨rfl,rfl⟩;go_wp2_with fail;refine yh.out.mono ?_;rintro E w2 ⟨rfl,p2,q2⟩;have H:=rU.out w2 (l9.out.trans q2);have f2:=jJ 2 H rfl;have f3:=jJ 3 H rfl;have lN:=jA (jd p2 (l9.out.trans q2));clear p2 q2 H yh l9 e4;go_wp2_with fail;refine(Q.out w2 lN.out.1).mono ?_;rintro E w3 ⟨rfl,p3,q3⟩;have V:=rU.out w3 (lN.out.2.trans q3);have g5:=jJ 5 V rfl;have qE:=jA (jd p3 (lN.out.2.trans q3));clear p3 q3 V Q lN f2 f3;go_wp2_with fail;refine(HY.out w3 qE.out.2 qE.out.1).mono ?_;rintro E w4 ⟨rfl,p4,q4⟩;have qM:=jA (GU p4 0 (by omega));have tN:=jA (qE.out.2.trans q4);clear p4 q4 HY qE g5;go_wp2_with fail;refine qM.out.mono ?_;rintro E w5 ⟨rfl,p5,q5⟩;have ac:nl<=(cY.lay 0 []).jy.length:=by rw[I8,ln];omega
 obtain⟨a5,R,z1,z2,z3,z4,z5,z6⟩:=p5.leave ac fr;have HE:=jA (jd z5 ((tN.out.trans q5).trans z6));have j0:(0:Int)<=(nl:Int):=by omega
 have j1:(nl:Int)<=(R:Int):=by omega
 clear p5 q5 z5 z6 qM tN;generalize (cY.lay 0 []).jy.length=nm at *;go_wp2_with fail;go_end0;exact⟨rfl,HE.out⟩
theorem aew{N:Nat}(D:N<=100000)(q:rF N kF x)(j:tV l)(a:Int)(t:Wd):qh (qQ a t x l):=by
 have z:=rP j.ok;have i:=q.jw;have o:=tC (x:=x) z;have g:∀b∈x.jE,∀a,Lawful (b.2.here a):=λb r a=>(q.all b r).ok.law a;refine(aev q.all i j a t ⟨yE (by simp;exact⟨i,o⟩),(rO i o).2⟩ (λE=>?_)).of (uO (by simp[o7]) (wU (Pg g) j.law) (rO i o))
  (λ_ _ _ _ h=>KX (λ_ _ _ _ _ ⟨m,u,v,A,B,H,F,G⟩ r=>⟨u,v,A,(Hz g).wide _ _ _ _ _ _ (X4 g F) (aj _) (by omega),j.Ai.wide _ _ _ _ _ _ (j.flat G) B r⟩) h) rfl rfl
 have J:=Ap i.1 i.2 o.1 o.2 E;have I:=O7 (x:=x) z.1 (by omega);exact⟨wM.of D q (by omega),by omega,by omega⟩
theorem aos(N:Nat)(g:N<=100000):Nc N kF kF tV qh where
 jw:=λ_ h=>h.ok.jw
 RH:=λa t _ h=>aeJ h a t
 Tc:=λt _ h=>ag9 h t
 TA:=λa i _ h=>ahG h a i
 SE:=λa _ _ h k=>agk h k a
 returning:=λa=>XQ a
 choice:=λa _ _ _ h r o=>abU h r o a
 loop:=λa t _ _ q j=>aew g q j a t
theorem auC(s:ji)(g:s.size<=4000)(d:Nat)(p:Ps):tV (mV s d p).1:=
 Tv s (λ_=>kF) (λ_=>qh) (λ_=>tV) (alI s g) (λ_=>aos (s.size+1) (by omega)) (λ_=>I9 (by simp)) (λ_ _ _ h=>I9 h) d p
end
section
variable {s:ji}{ex ex':Ps->Ex×Ps}{d:Nat}{p:Ps}
def uH(fn:FuncId)(s:ji)(p:Ps)(r:jI×Ps):Prop:=
 ∀(P:Nat)(w:jk),jR w P s p->Calls prog fn #[Pt P 0] w λe w'=>∃v,e=.returned v/\r.1.here w' w.heap.size w'.heap.size v/\jR w' P s r.2/\w.grownBy w' (some P)
def Iu(fn:FuncId)(s:ji)(p:Ps)(r:List jI×Ps):Prop:=
 ∀(P:Nat)(w:jk),jR w P s p->Calls prog fn #[Pt P 0] w λe w'=>∃v,e=.returned v/\mY r.1 w' w.heap.size w'.heap.size v/\jR w' P s r.2/\w.grownBy w' (some P)
theorem asv(D:s.size<=4000)(t:p.Ok s)(E:p.is [114,101,116,117,114,110]=true):uH 224 s p (Lm s p):=by
 intro P w h;have i:=oC t (oW (by simp) E);have A:Hid (Calls prog 236 #[Pt P 0] w (qN P s w (.agg #[Im p.k.kind,.string p.k.text,Im p.k.at']) (p.next s))):=xQ h t D;have z:=jA (λx (I:jR x P s (p.next s))=>EW I i.ok D [59]);have H:=NR p.k.kind p.k.at' p.k.text;show Calls prog 224 #[Pt P 0] w λe w'=>∃v,e=.returned v/\(yV p.k.at').here w' w.heap.size w'.heap.size v/\jR w' P s ((p.next s).expect s [59])/\w.grownBy w' (some P);generalize (p.next s).expect s [59]=M at *;generalize p.next s=q at *;generalize p.k.kind=K at *;generalize p.k.text=L at *;generalize p.k.at'=J at *;clear h i t E;go_enter func224,ntmps224;go_wp2_with fail;refine A.out.mono ?_;rintro e w1 ⟨rfl,F,i⟩;have o:=jA (jd F i);clear F i A;go_wp2_with fail;refine(z.out _ o.out.1).mono ?_;rintro e w2 ⟨rfl,G,B⟩;have g:=jA (jd G (o.out.2.trans B));clear G B z o;go_wp2_with fail;refine(RU J _).mono ?_;rintro e w3 ⟨rfl,j⟩;have r:=jA (jd (g.out.1.grow j) (g.out.2.trans (j.but _)));clear j g;go_wp2_with fail;go_ret;exact⟨_,rfl,KY C9 rfl r.out.2.size rfl,r.out.1.grow (ah _ _ none),r.out.2.trans ((ah _ _ none).but _)⟩
theorem auJ(N:s.size<=4000)(h:Reader s ex (d+1))(I:p.Ok s)(E:Deep (d+1) p)(F:p.k.kind=4):uH 221 s p (LH s ex p):=by
 intro P w G;have j:=oC I (Jg (by rw[F];decide));obtain⟨z,R⟩:=J7 h.good j.ok (E.good j);have c3:=kH.c3 G;have K:=jA (agy G I N F);have J:=jA (λx (X:jR x P s (p.next s))=>VA N h j.ok (E.good j) P x X);show Calls prog 221 #[Pt P 0] w λe w'=>∃v,e=.returned v/\(uQ p.k.at' ((p.k.text.data.toList.getD 1 0).toNat-48) (qO s ex (p.next s)).1).here w' w.heap.size w'.heap.size v/\jR w' P s (qO s ex (p.next s)).2/\w.grownBy w' (some P);have t:Hid (kT (qO s ex (p.next s)).1):=R;generalize ((p.k.text.data.toList.getD 1 0).toNat:Int)-48=i at *;generalize qO s ex (p.next s)=r at *;generalize p.next s=q at *;generalize p.k.at'=Y at *;clear G j z R I E F h;go_enter func221,ntmps221;go_wp2_with fail;refine K.out.mono ?_;rintro e w1 ⟨rfl,O,j⟩;have H:=jA (jd O j);clear O j K;go_wp2_with fail;refine(J.out _ H.out.1).mono ?_;rintro e w2 ⟨v,rfl,D,Q,z⟩;obtain⟨T,A,rfl,W,b1,b2,U⟩:=t.out.sH D;have g:=jA (jd D (jd Q z));have zU:=jA (uq A 0 _ U);clear D Q z J;go_wp2_with fail;refine zU.out.mono ?_;rintro e w3 ⟨rfl,rfl⟩;go_wp2_with fail;refine(Aj Y _ [r.1.jw] (Xw w3 _ r.1.jw t.out.jw.1 t.out.jw.2)).mono ?_;rintro e w4 ⟨rfl,M⟩;have B:=jA ((ah w3 _ none).trans M);clear M;have L:Hid (oD (r.1.here r.1.at') w4 w.heap.size w4.heap.size [.iface T (Pt A 0)]/\w.heap.size<=w4.heap.size):=by
  have Z:=H.out.2.size;have s2:=g.out.2.2.size;have s3:=B.out.size;exact⟨⟨_,rfl,(t.out.law _).wide _ _ _ _ _ _ ((t.out.law _).loc _ _ _ _ _ g.out.1 (λb _ V=>B.out.block b V (by simp))) Z s3⟩,by omega⟩
 have S:Hid (∀o,jR (w4.alloc o) P s r.2/\w.grownBy (w4.alloc o) (some P)):=λo=>
  ⟨g.out.2.1.grow (B.out.trans (ah w4 o none)),(H.out.2.trans g.out.2.2).trans ((B.out.trans (ah w4 o none)).but _)⟩
 go_wp2_with fail;go_ret;exact⟨_,rfl,KY (qW (t.out.law _)) L.out.1 L.out.2 rfl,S.out _⟩
theorem akw(O:s.size<=4000){g:Ps->List jI×Ps}(N:Ez s g d)(h:∀p,p.Ok s->Deep d p->Iu 141 s p (g p))(j:p.Ok s)(M:Deep (d+1) p):Iu 241 s p (qj s g p):=by
 intro P w B;have aa:=B.lt;have E:=j.ku [123];have A:=M.ku j (t:=[123]) (by simp);obtain⟨L,Y⟩:=N _ E A;have F:=jA (O4 B j O [123]);have G:=jA (λx (D:jR x P s (p.ku s [123]))=>h _ E A P x D);have H:=jA (λx (D:jR x P s (g (p.ku s [123])).2)=>NG D L.ok O [125]);show Calls prog 241 #[Pt P 0] w λe w'=>∃v,e=.returned v/\mY (g (p.ku s [123])).1 w' w.heap.size w'.heap.size v/\jR w' P s ((g (p.ku s [123])).2.close s [125])/\w.grownBy w' (some P);have I:Hid (Lawful (mY (g (p.ku s [123])).1)):=uN Y;generalize g (p.ku s [123])=r at *;generalize p.ku s [123]=q at *;generalize r.2.close s [125]=q2 at *;clear B E A L Y j M h N;go_enter func241,ntmps241;go_wp2_with fail;refine F.out.mono ?_;rintro e w1 ⟨rfl,V,Q⟩;have U:=jA (jd V Q);clear V Q F;go_wp2_with fail;refine(G.out _ U.out.1).mono ?_;rintro e w2 ⟨v,rfl,K,W,R⟩;have i:=jA (jd K (jd W R));clear K W R G;go_wp2_with fail;refine(H.out _ i.out.2.1).mono ?_;rintro e w3 ⟨rfl,X,S⟩;have lI:=jA (jd X S);clear X S H;go_wp2_with fail;go_ret;obtain⟨a1,J⟩:=U.out;obtain⟨Z,b1,o⟩:=i.out;obtain⟨c1,z⟩:=lI.out;have s1:=J.size;have s3:=z.size;refine⟨v,rfl,I.out.wide _ _ _ _ _ _ (I.out.loc _ _ _ _ _ Z (λb b1 o=>z.block b o (by simp;omega))) s1 s3,c1,(J.trans o).trans z⟩
theorem arD(M:s.size<=4000)(h:Reader s ex' d)(ok:p.Ok s)(hd:Deep (d+1) p)(ht:p.is [112,117,115,104]=true):uH 223 s p (Ll s ex' p):=by
 intro P w hp;have ad:=hp.lt;have A:=oC ok (oW (by simp) ht);have o1:=A.ok.ku [40];have U:=(hd.good A).ku A.ok (t:=[40]) (by simp);obtain⟨B,x2⟩:=h.good _ o1 U;have D:=yN B.ok (t:=[44]) (by simp);have Z:=U.good (B.trans D);obtain⟨F,x4⟩:=h.good _ D.ok Z;have L:=J9 A.ok (t:=[40]) (u:=[41]) (by simp) (by simp) ((B.trans D).trans F);have HN:Hid (Calls prog 236 #[Pt P 0] w (qN P s w (.agg #[Im p.k.kind,.string p.k.text,Im p.k.at']) (p.next s))):=xQ hp ok M;have H0:=jA (λx (j:jR x P s (p.next s))=>O4 j A.ok M [40]);have H1:=jA (λx (j:jR x P s ((p.next s).ku s [40]))=>h.reads _ o1 U P x j);have H2:=jA (λx (j:jR x P s (ex' ((p.next s).ku s [40])).2)=>EW j B.ok M [44]);have H3:=jA (λx (j:jR x P s ((ex' ((p.next s).ku s [40])).2.expect s [44]))=>h.reads _ D.ok Z P x j);have H4:=jA (λx (j:jR x P s (ex' ((ex' ((p.next s).ku s [40])).2.expect s [44])).2)=>NG j F.ok M [41]);have H5:=jA (λx (j:jR x P s ((ex' ((ex' ((p.next s).ku s [40])).2.expect s [44])).2.close s [41]))=>EW j L.ok M [59]);have ac:=NR p.k.kind p.k.at' p.k.text;show Calls prog 223 #[Pt P 0] w λe w'=>∃v,e=.returned v/\(sQ p.k.at' (ex' ((p.next s).ku s [40])).1 (ex' ((ex' ((p.next s).ku s [40])).2.expect s [44])).1).here w' w.heap.size w'.heap.size v/\jR w' P s (((ex' ((ex' ((p.next s).ku s [40])).2.expect s [44])).2.close s [41]).expect s [59])/\w.grownBy w' (some P);have i:=jA (jd x2 x4);generalize ex' ((ex' ((p.next s).ku s [40])).2.expect s [44])=r at *
 generalize (r.2.close s [41]).expect s [59]=q6 at *;generalize r.2.close s [41]=q5 at *;generalize (ex' ((p.next s).ku s [40])).2.expect s [44]=q3 at *;generalize ex' ((p.next s).ku s [40])=E at *;generalize (p.next s).ku s [40]=q1 at *;generalize p.next s=q at *;generalize p.k.kind=kk at *;generalize p.k.text=kt at *;generalize p.k.at'=ka at *;clear hp A o1 U B x2 D Z F x4 L ok hd ht h;go_enter func223,ntmps223;go_wp2_with fail;refine HN.out.mono ?_;rintro e w1 ⟨rfl,p1,A⟩;have kJ:=jA (jd p1 A);clear p1 A HN;go_wp2_with fail;refine(H0.out _ kJ.out.1).mono ?_;rintro e w2 ⟨rfl,p2,B⟩;have z:=jA (jd p2 (kJ.out.2.trans B));clear p2 B H0 kJ;go_wp2_with fail;refine(H1.out _ z.out.1).mono ?_;rintro e w3 ⟨v1,rfl,e3,p3,D⟩;have Q:=jA (jd e3 (jd p3 D));clear e3 p3 D H1;go_wp2_with fail;refine(H2.out _ Q.out.2.1).mono ?_;rintro e w4 ⟨rfl,p4,F⟩;have R:=jA (jd p4 F);clear p4 F H2;go_wp2_with fail;refine(H3.out _ R.out.1).mono ?_;rintro e w5 ⟨v2,rfl,e5,p5,L⟩;have G:=jA (jd e5 (jd p5 L));clear e5 p5 L H3;go_wp2_with fail;refine(H4.out _ G.out.2.1).mono ?_;rintro e w6 ⟨rfl,p6,g6⟩;have X:=jA (jd p6 g6);clear p6 g6 H4;go_wp2_with fail;refine(H5.out _ X.out.1).mono ?_;rintro e H ⟨rfl,p7,g7⟩;have I:=jA (jd p7 (X.out.2.trans g7));clear p7 g7 H5 X
 have Y:Hid (E.1.here E.1.at' H w2.heap.size w3.heap.size v1/\r.1.here r.1.at' H w4.heap.size w5.heap.size v2/\w.heap.size<=w2.heap.size/\w3.heap.size<=w4.heap.size/\w4.heap.size<=w5.heap.size/\w5.heap.size<=H.heap.size/\w.grownBy H (some P)):=by
  have s2:=z.out.2.size;have s3:=Q.out.2.2.size;have s4:=R.out.2.size;have s5:=G.out.2.2.size;have s7:=I.out.2.size;exact⟨i.out.1.keep Q.out.1 (by omega) (aj _) (R.out.2.trans (G.out.2.2.trans I.out.2)),i.out.2.keep G.out.1 (by omega) (aj _) I.out.2,s2,s4,s5,s7,z.out.2.trans (Q.out.2.2.trans (R.out.2.trans (G.out.2.2.trans I.out.2)))⟩
 obtain⟨T1,V,aa,ae,a1,a2,a3⟩:=i.out.1.sH Y.out.1;obtain⟨T2,W,ab,af,b1,b2,b3⟩:=i.out.2.sH Y.out.2.1;subst aa ab;have BU:=jA (uq V 0 _ a3);have MJ:=jA (uq W 0 _ b3);clear z Q R G;go_wp2_with fail;refine BU.out.mono ?_;rintro e1 w8 ⟨rfl,N⟩;rw[N]at *;clear N;go_wp2_with fail;refine MJ.out.mono ?_;rintro e1 w9 ⟨rfl,O⟩;rw[O]at *;clear O;go_wp2_with fail;refine(Aj ka _ [E.1.jw,r.1.jw] (Jw H _ E.1.jw r.1.jw i.out.1.jw.1 i.out.1.jw.2 i.out.2.jw.1 i.out.2.jw.2)).mono ?_;rintro e1 g ⟨rfl,K⟩;have S:=jA ((ah H _ none).trans K);clear K;have J:Hid (∀o,o=(Obj.cells #[Im ka,Im (jS [E.1.jw,r.1.jw]),.iface T1 (Pt V 0),.iface T2 (Pt W 0)] 335)->(sQ ka E.1 r.1).here (g.alloc o) w.heap.size (g.alloc o).heap.size (.iface 333 (Pt g.heap.size 0))/\jR (g.alloc o) P s q6/\w.grownBy (g.alloc o) (some P)):=λo ho=>by
  obtain⟨k1,k2,s2,s4,s5,s7,gw⟩:=Y.out;have sg:=S.out.size;have gf:=S.out.trans (ah g o none);have hK:yC (E.1.here E.1.at') (r.1.here r.1.at') g w.heap.size g.heap.size [.iface T1 (Pt V 0),.iface T2 (Pt W 0)]:=by
   refine⟨w4.heap.size,_,_,rfl,by omega,by omega,?_,?_⟩
   .exact(i.out.1.law _).wide _ _ _ _ _ _ ((i.out.1.law _).loc _ _ _ _ _ k1 (λb _ hb=>S.out.block b (by omega) (by simp))) s2 s4
   .exact(i.out.2.law _).wide _ _ _ _ _ _ ((i.out.2.law _).loc _ _ _ _ _ k2 (λb _ hb=>S.out.block b (by omega) (by simp))) (aj _) (by omega)
  exact⟨KY (wU (i.out.1.law _) (i.out.2.law _)) hK (by omega) ho,I.out.1.grow gf,gw.trans (gf.but _)⟩
 go_wp2_with fail;go_ret;exact⟨_,rfl,J.out _ rfl⟩
end
def aaW(w:jk)(v:jm)(l:List jI):Prop:=
 (l=[]/\v=Nl)\/
 ∃g cap,v=.slice (some (Ad g 0)) l.length cap/\∀(j:Nat)(e:jI),l[j]? =some e->∃T b,w.cell? (Ad g j)=some (.iface T (Pt b 0))/\o7 T/\w.cell? (Ad b 1)=some (Im e.jw)
theorem ahJ{g:Nat}:∀{i:List jI}{w:jk}{lo hi:Nat}{o:List jm},(∀e∈i,oI e)->tJ g i w lo hi o->∀(j:Nat)(e:jI),i[j]? =some e->∃T b,o[j]? =some (.iface T (Pt b 0))/\o7 T/\w.cell? (Ad b 1)=some (Im e.jw)
 |[],_,_,_,_,_,_,j,e,h=>by simp at h
 |b::i,w,lo,hi,o,hl,⟨l,m,u,us',h0,h1,h2,h3,h4,h5,h6⟩,j,e,h=>by
  subst h0;cases j with
  |zero=>
   simp only[dw,bJ]at h;subst h;obtain⟨T,q,t,z,_,_,A⟩:=(hl b (aW ..)).head _ _ _ _ h5;exact⟨T,q,by rw[t];rfl,z,A⟩
  |succ j=>exact ahJ (λe r=>hl e (aI _ r)) h6 j e (by simpa using h)
theorem Jk{l:List jI}(B:∀e∈l,oI e){w:jk}{lo hi:Nat}{v:jm}(h:mY l w lo hi v):aaW w v l:=by
 rcases h with h|⟨g,i,I,o,q,G,H,r,t,z⟩
 .exact jf h
 .refine je ⟨g,i,q,λj e A=>?_⟩;obtain⟨T,b,D,E,F⟩:=ahJ B r j e A;exact⟨T,b,(jG t).trans (z j _ D),E,F⟩
theorem auO(l:List jI)(k:Nat)(h:k<l.length)(a:Int):(l.drop k).foldl (λa e=>kZ [a,e.jw]) a=(l.drop (k+1)).foldl (λa e=>kZ [a,e.jw]) (kZ [a,l[k].jw]):=by
 rw[dA h,bP]
theorem Jv{l:List jI}(J:∀e∈l,oI e)(hn:l.length<=1000000){w:jk}{v:jm}(h:aaW w v l):Calls prog 90 #[v] w λe w'=>e=.returned (Im (sumOf l))/\w.grownBy w' none:=by
 have F:Hid (sumOf l=(l.drop 0).foldl (λa e=>kZ [a,e.jw]) 0):=rfl;rcases h with⟨rfl,rfl⟩|⟨g,S,rfl,H⟩
 .go_enter func90,ntmps90;go_wp2_with fail;refine wp_loop_rounds 1 ?_;rw[rounds_succ];go_wp2_with fail;go_ret;exact⟨rfl,aN _ _⟩
 .generalize Y:sumOf l=r at *;clear Y;have O:=jA H;have Q:=jA J;clear H J;go_enter func90,ntmps90;go_wp2_with fail;go_loopg [3,8] l.length (λV a i wr=>∃(k:Nat)(z:Int),k+V=l.length/\a=Im z/\i=Im k/\0<=z/\z<=1000001/\Hid (r=(l.drop k).foldl (λa e=>kZ [a,e.jw]) z/\w.grownBy wr none))
  case atStart=>exact⟨0,0,by omega,rfl,rfl,by omega,by omega,⟨F.out,aN _ _⟩⟩
  case round=>
   obtain⟨k,z,hk,rfl,rfl,z0,z1,j⟩:=hrel;clear F;by_cases o:k<l.length
   .have U:decide ((k:Int)<(l.length:Int))=true:=by simp;omega
    have i0:(0:Int)<=(k:Int):=by omega
    have i1:(k:Int)<(l.length:Int):=by omega
    have I:l[k]? =some l[k]:=bU o;obtain⟨T,b,K,L,M⟩:=O.out k _ I;have G:=(Q.out _ (fG o)).jw;have m1:=j.out.2.cell K (by simp);have Z:=j.out.2.cell M (by simp);have X:=L.sH b;have D:=j.out.1;rw[auO l k o]at D;generalize l[k].jw=c at *;have zU:=jA (uq b 0 _ Z);have R:Hid (Calls prog 143 #[.slice (some (Ad wr.heap.size 0)) 2 2] (wr.alloc (.cells #[Im z,Im c] 3)) λe w'=>e=.returned (Im (kZ [z,c]))/\w'=wr.alloc (.cells #[Im z,Im c] 3)):=Px (Jw wr _ z c z0 z1 G.1 G.2);have q:=xZ [z,c] (by simp;omega);have N:=jA (jd D j.out.2);clear D j K L M I;generalize kZ [z,c]=t at *;obtain⟨E,W⟩:∃E,gk=E+1:=⟨gk-1,by omega⟩;go_wp2_with fail;refine zU.out.mono ?_;rintro e w1 ⟨rfl,A⟩;rw[A];clear A;go_wp2_with fail;refine R.out.mono ?_;rintro e w2 ⟨rfl,B⟩;rw[B];clear B;go_wp2_with fail;go_roundg E
    case measure=>omega
    case rel=>exact⟨k+1,_,by omega,rfl,by go_num,q.1,q.2,⟨N.out.1,N.out.2.trans (ah _ _ none)⟩⟩
   .have U:decide ((k:Int)<(l.length:Int))=false:=by simp;omega
    have e:r=z:=by rw[j.out.1,fH (by omega)];rfl
    subst e;have P:=jA j.out.2;clear j;go_wp2_with fail;go_ret;exact⟨rfl,P.out⟩
end
end Go.Proofs.YthllhabjfchgiaaGreatDoor
