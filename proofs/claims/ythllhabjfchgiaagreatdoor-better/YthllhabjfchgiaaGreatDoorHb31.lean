import Derived.Test.YthllhabjfchgiaaGreatDoorHb30
set_option maxRecDepth 100000
set_option maxHeartbeats 8000000
set_option linter.unusedSimpArgs false
namespace Go.Proofs.YthllhabjfchgiaaGreatDoor
open _root_.Go.Proofs.Tryz
section
open Go.RowKit Hx
attribute [local go_sem ↓] Go.wp_at_zero Go.wp_at_succ
attribute [local go_sem] kL
section
variable {w w' w1 w2 w3 w4:jo}{C lo hi b d m k:Nat}{c:Ck}{u v:jr}{e f:Ex}{a:Int}{T:jv}{x:Sx}{l y n:List jK}
theorem zq.law(h:zq d l):Lawful (mO l):=Qh λs hs=>(h.ok s hs).law
theorem aiL(a:Int)(h:kV e)(hy:∀s∈y,nZ s)(hn:∀s∈n,nZ s):nZ (rY a e y n):=uF (by simp[oO]) (MK (h.law _) (uz hy) (uz hn)) (Io h.jy (rD hy) (rD hn))
theorem amE(a:Int)(t:Wd)(hx:oU x)(hl:∀s∈l,nZ s):nZ (tK a t x l):=uF (by simp[oO]) (wC hx.law (uz hl)) (rC hx.jy (uf (rD hl)))
theorem Jz{w:jo}{lo hi:Nat}{v:jr}(h:mO l w lo hi v):∃ad n cap,v=.slice ad n cap:=by
 rcases h with⟨_,rfl⟩|⟨g,cap,us,arr,rfl,_⟩
 .exact⟨_,_,_,rfl⟩
 .exact⟨_,_,_,rfl⟩
theorem aiK(h:l7 k e)(hk:k<=10000 * (d+1))(hy:zq d y)(hn':zq d n)(a:Int):zU (d+1) (rY a e y n):=by
 refine⟨aiL a h.ok hy.ok hn'.ok,λc=>JY ?_,?_⟩
 .show(qC n (qC y ((e.does.look c).want (e.does.jU c.jA) e.at' 2))).jA=c.jA;rw[hn'.jA,hy.jA,vY,h.jA]
 rintro w lo hi T b C c ⟨b',us,hv,h1,h2,⟨m,k',u,v,z,rfl,hm1,hm2,UD,hu,hv2,hz⟩,hb⟩ hC hc hn;cases hv;obtain⟨T1,b1,f1,rfl,hT1,l1,l2,m1,kK,H1⟩:=h.use (C:=C) (c:=c) hu (by omega) hc (by omega);have kK:∀args w,(callFunc f1 args).run prog w=.ok (.enter f1 args) w:=kK;have H1:Hid (Calls prog f1 #[Pt b1 0,Pt C 0] w λen w'=>en=.returned (.tuple #[])/\nT e e.at' w w' lo m (.iface T1 (Pt b1 0)) b1 C c):=H1;obtain⟨ya,yn,yc,rfl⟩:=Jz hv2;obtain⟨na,nn,nc,rfl⟩:=Jz hz;have c2:=jJ 2 hb rfl;have HB:=jB hb;have HC:Hid (l7 k e/\zq d y/\zq d n/\c.jA.length+10000 * d<=800000/\mO y w m k' (.slice ya yn yc)/\mO n w k' b (.slice na nn nc)):=⟨h,hy,hn',by omega,hv2,hz⟩;refine⟨338,λw=>by kernel_rfl,λargs w=>by kernel_rfl,?_⟩;clear hu hb hc hn hv2 hz hy hn' h;go_enter func338,ntmps338;go_wp2_with fail;refine H1.out.mono ?_;rintro en w1 ⟨rfl,L1⟩;have hb1:=(L1.keep.keep b (by omega) (jh (by omega))).trans HB.out;have e2:=jJ 2 hb1 rfl;have HW:=jB (L1.want HC.out.1.ok 2 0);have HL:=jB L1;clear L1 hb1 H1;go_wp2_with fail;refine HW.out.mono ?_;rintro en w2 ⟨rfl,p1,p2⟩;have q2:=HL.out.keep.trans (p2.all _ _);have hb2:=(q2.keep b (by omega) (jh (by omega))).trans HB.out;have e3:=jJ 3 hb2 rfl;have hy2:=HC.out.2.1.law.lk HC.out.2.2.2.2.1 q2 (by omega) (jh (aj _));have he2:=(HC.out.1.ok.law _).lk HL.out.here p2 (by omega) (jh (bD _));have hnm:((e.does.look c).want (e.does.jU c.jA) e.at' 2).jA=c.jA:=by rw[vY,HC.out.1.jA]
 have HY:=jB (HC.out.2.1.look _ _ _ _ C _ hy2 (by omega) p1 (by rw[hnm];exact HC.out.2.2.2.1));have lK:=jB (jg q2 (jg he2 hnm));clear p1 p2 q2 hb2 hy2 he2 hnm HW;go_wp2_with fail;refine HY.out.mono ?_;rintro en w3 ⟨rfl,r1,r2,r3⟩;have q3:=(lK.out.1.wide (aj _) hm2).trans (r3.wide hm1 (aj _));have hb3:=(q3.keep b (by omega) (jh (by omega))).trans HB.out;have e4:=jJ 4 hb3 rfl;have hn3:=HC.out.2.2.1.law.lk HC.out.2.2.2.2.2 q3 (by omega) (jh (aj _));have he3:=(HC.out.1.ok.law _).lk lK.out.2.1 r3 (by omega) (ji (aj _));have HZ:=jB (HC.out.2.2.1.look _ _ _ _ C _ hn3 (by omega) r2 (by rw[HC.out.2.1.jA,lK.out.2.2];exact HC.out.2.2.2.1));have qm:=jB (jg q3 (jg he3 r1));clear r1 r2 r3 q3 hb3 hn3 he3 HY;go_wp2_with fail;refine HZ.out.mono ?_;rintro en w4 ⟨rfl,r1,r2,r3⟩;have HE:Hid ((rY a e y n).here w4 lo hi (.iface 339 (Pt b 0))/\kX w4 C ((rY a e y n).does.look c)/\Lk w w4 lo hi C):=by
  have q4:=(qm.out.1.wide (aj _) UD).trans (r3.wide (by omega) (aj _));have hb4:=(q4.keep b (by omega) (jh (aj _))).trans HB.out;have he4:=(HC.out.1.ok.law _).lk qm.out.2.1 r3 (by omega) (ji hm2);have hy4:=HC.out.2.1.law.lk qm.out.2.2 r3 (by omega) (ji (aj _));exact⟨⟨b,_,rfl,h1,h2,⟨m,k',_,_,_,rfl,hm1,hm2,UD,he4,hy4,r1⟩,hb4⟩,r2,q4.wide (aj _) (by omega)⟩
 clear r1 r2 r3;go_wp2_with fail;go_end0;exact⟨rfl,HE.out⟩
theorem amD(hx:qY 100000 (l7 k) x)(hk:k+1<=10000 * (d+1))(hl:zq d l)(a:Int)(t:Wd):zU (d+1) (tK a t x l):=by
 obtain⟨tt,ta⟩:=t;have hns:∀c,(nM x.of x.jF c).jA=c.jA:=λc=>MW _ _ _ λb hb=>(hx.all b hb).jA;refine⟨amE a _ hx.ok hl.ok,λc=>JY ?_,?_⟩
 .show((qC l ((nM x.of x.jF (c.mD tt ta)).add tt x.of false)).cut (nM x.of x.jF (c.mD tt ta)).jA.length).jA=c.jA;unfold Ck.cut;rw[hl.jA];unfold Ck.add;simp only[hns,J8];simp
 rintro w lo hi T b C c ⟨b',us,hv,h1,h2,⟨m,u,v,rfl,hm1,hm2,hu,hv2⟩,hb⟩ hC hc hn;cases hv;obtain⟨S,fv,rfl,s1,s2,s3⟩:=wJ hu;obtain⟨ya,yn,yc,rfl⟩:=Jz hv2;have c2:=jJ 2 hb rfl;have c3:=jJ 3 hb rfl;have HB:=jB hb;have HN:=jB (TL hc tt ta (by omega));have HC:=jB (jg hx (jg hl (jg hns (jg hn (jg hu hv2)))));have Oa:=jB (J8 c tt ta);refine⟨346,λw=>by kernel_rfl,λargs w=>by kernel_rfl,?_⟩;have hbC:b<C:=by omega
 clear hu hb hc hn hv2 hx hl hns s3;go_enter func346,ntmps346;go_wp2_with fail;refine HN.out.mono ?_;rintro en w0 ⟨rfl,p1,p2⟩;have hb0:=(p2.keep b hbC (jh (bD _))).trans HB.out;have d4:=jJ 4 hb0 rfl;have hs0:=HC.out.1.law.lk HC.out.2.2.2.2.1 p2 (by omega) (jh (bD _));have HS:=jB (TK HC.out.1 hs0 (by omega) p1 (by rw[Oa.out];have:=HC.out.2.2.2.1;omega));have N8:=jB p2;clear p1 p2 hb0 hs0 HN;go_wp2_with fail;refine HS.out.mono ?_;rintro en w1 ⟨rfl,r1,r2,r3⟩;have q1:=(N8.out.all _ _).trans r3;have hb1:=(q1.keep b hbC (jh hm2)).trans HB.out;have e2:=jJ 2 hb1 rfl;have e3:=jJ 3 hb1 rfl;have e4:=jJ 4 hb1 rfl;obtain⟨S',CW,hS',_,_,s3⟩:=wJ r1;cases hS';have eS:=jJ 3 s3 rfl;obtain⟨nl,hnl⟩:∃nl,(nM x.of x.jF (c.mD tt ta)).jA.length=nl:=⟨_,rfl⟩;have abQ:c.jA.length=nl:=by rw[<-hnl,HC.out.2.2.1,Oa.out]
 obtain⟨v1,k1⟩:=r2;obtain⟨a1,cap1,rfl⟩:=Aw k1.row;have x0:w1.cell? (Ad C 0)=some (.slice a1 nl cap1):=by rw[<-hnl];exact jH k1.jL
 have hck1:kX w1 C (nM x.of x.jF (c.mD tt ta)):=⟨_,k1⟩;have GN:Hid (∀n,Calls prog 326 #[Pt C 0,.agg #[.string tt,Im ta],Im x.of,.bool false] (w1.drewN n) λen w'=>en=.returned (.tuple #[])/\kX w' C ((nM x.of x.jF (c.mD tt ta)).add tt x.of false)/\Lk w1 w' 0 0 C):=λn=>by
  refine(TI (hck1.grow (lH w1 n)) tt ta _ false (by rw[hnl];have:=HC.out.2.2.2.1;omega)).mono ?_;rintro en w' ⟨r1,r2,r3⟩;exact⟨r1,r2,(Lk.grown (lH w1 n) hck1.lt).trans r3⟩
 have lZ:Hid (Lk w w1 lo m C/\oN x w1 lo m (Pt S 0)/\(nM x.of x.jF (c.mD tt ta)).jA.length=nl/\c.jA.length=nl):=⟨q1,r1,hnl,abQ⟩;clear r1 r3 q1 hb1 s3 hnl abQ k1 hck1 HS;go_wp2_with fail;refine nJ 12 (by kernel_rfl) (by kernel_rfl) ?_;simp only[aC,aO,aG,aQ];repeat (go_big_quiet_step (fail))
 refine bF ?_;intro _ hw';obtain⟨n3,hw''⟩:=hw';subst hw'';go_wp2_with fail;refine(GN.out _).mono ?_;rintro en w2 ⟨rfl,p1,p2⟩;have q2:=lZ.out.1.trans (p2.all _ _);have hb2:=(q2.keep b hbC (jh hm2)).trans HB.out;have g5:=jJ 5 hb2 rfl;have hl2:=HC.out.2.1.law.lk HC.out.2.2.2.2.2 q2 (by omega) (jh (aj _));have hs2:=HC.out.1.law.lk lZ.out.2.1 p2 (by omega) (jh (bD _));have hna:((nM x.of x.jF (c.mD tt ta)).add tt x.of false).jA.length=nl+1:=by
  unfold Ck.add;simp only[aA,aF,bg,lZ.out.2.2.1]
 have HY:=jB (HC.out.2.1.look _ _ _ _ C _ hl2 (by omega) p1 (by rw[hna];have:=HC.out.2.2.2.1;have:=lZ.out.2.2.2;omega));have lK:=jB (jg q2 (jg hs2 hna));clear p1 p2 q2 hb2 hl2 hs2 hna GN;go_wp2_with fail;refine HY.out.mono ?_;rintro en w3 ⟨rfl,r1,r2,r3⟩;have hn3:(qC l ((nM x.of x.jF (c.mD tt ta)).add tt x.of false)).jA.length=nl+1:=by rw[HC.out.2.1.jA];exact lK.out.2.2
 obtain⟨a5,cap5,z1,z2,z3,z4,z5⟩:=r2.back (n:=nl) (by omega);rw[hn3]at z1;have HE:Hid ((tK a ⟨tt,ta⟩ x l).here (w3.setCell (Ad C 0) (.slice a5 nl cap5)) lo hi (.iface 349 (Pt b 0))/\kX (w3.setCell (Ad C 0) (.slice a5 nl cap5)) C ((tK a ⟨tt,ta⟩ x l).does.look c)/\Lk w (w3.setCell (Ad C 0) (.slice a5 nl cap5)) lo hi C):=by
  have q4:=((lK.out.1.wide (aj _) hm2).trans (r3.wide hm1 (aj _))).trans (z5.all _ _);have hb4:=(q4.keep b hbC (jh (aj _))).trans HB.out;have hs4:=HC.out.1.law.lk (HC.out.1.law.lk lK.out.2.1 r3 (by omega) (ji (aj _))) z5 (by omega) (jh (bD _));have hl4:=HC.out.2.1.law.lk r1 z5 (by omega) (jh (bD _));refine⟨⟨b,_,rfl,h1,h2,⟨m,_,_,rfl,hm1,hm2,hs4,hl4⟩,hb4⟩,?_,q4.wide (aj _) (by omega)⟩;show kX _ C ((qC l ((nM x.of x.jF (c.mD tt ta)).add tt x.of false)).cut (nM x.of x.jF (c.mD tt ta)).jA.length);rw[lZ.out.2.2.1];exact z4
 clear r1 r2 r3 z4 z5 hn3 HY;have j0:(0:Int)<=(nl:Int):=by omega
 have j1:(nl:Int)<=(cap5:Int):=by omega
 go_wp2_with fail;go_end0;exact⟨rfl,HE.out⟩
theorem amy(N:Nat)(hN:N<=100000)(d:Nat):KW N (l7 d) (l7 (d+1)) (zq d) (zU (d+1)) where
 jy:=λ_ h=>h.ok.jy
 Qm:=λa t _ h=>amS h (by omega) a t
 Ri:=λt _ h=>aqn h (by omega) t
 Ru:=λa i _ h=>aq0 h (by omega) a i
 QJ:=λa _ _ h k=>aoV h k (by omega) a
 returning:=λa=>apM _ a
 choice:=λa _ _ _ h hy hn=>aiK h (by omega) hy hn a
 loop:=λa t _ _ hx hl=>amD ⟨hx.of,hx.all,dH hx.len hN,hx.jy,hx.sum⟩ (by omega) hl a t
end
section
variable {w w' w1 w2:jo}{C lo hi b:Nat}{c:Co}{u v:jr}{e f:Ex}{a:Int}{T:jv}{x:Sx}{l y n:List jK}
def P5(E F G:Hx.sJ):Hx.Kids:=λw lo hi us=>∃u v z,us=[u,v,z]/\E w lo hi u/\F w lo hi v/\G w lo hi z
theorem alW{E F G:Hx.sJ}(h:Lawful E)(k:Lawful F)(g:Lawful G):yI (P5 E F G):=
 ⟨λ_ _ _ _ _ ⟨u,v,z,e,hu,hv,hz⟩ hk=>⟨u,v,z,e,h.loc _ _ _ _ _ hu hk,k.loc _ _ _ _ _ hv hk,g.loc _ _ _ _ _ hz hk⟩,λ_ _ _ _ _ _ ⟨u,v,z,e,hu,hv,hz⟩ l1 l2=>⟨u,v,z,e,h.wide _ _ _ _ _ _ hu l1 l2,k.wide _ _ _ _ _ _ hv l1 l2,g.wide _ _ _ _ _ _ hz l1 l2⟩⟩
theorem F7(h:wF l w lo hi v):∃ad cap,v=.slice ad l.length cap:=by
 rcases h with⟨hf,rfl⟩|⟨g,cap,arr,rfl,_⟩
 .exact⟨none,0,by rw[hf];rfl⟩
 .exact⟨_,_,rfl⟩
theorem V4{k m o:Int}(h0:0<=k)(hk:k<=1000001)(g0:0<=m)(hm:m<=1000001)(f0:0<=o)(ho:o<=1000001)(h:jS [k,m,o]<=1000000):jS [k,m,o]=1+(k+m+o):=by
 have h1:=(xQ [k,m,o] (by simp;omega)).1;unfold jS at h⊢;have h2:=Gv (a:=1) h1 h;rw[h2]at h⊢;unfold lg at h⊢;simp only[bP,eF]at h⊢;omega
structure agL(e:Ex)(y n:List jK)(c rc:Co)(rs:Int):Prop where
 h1:e.does.give c (-1)=(rc,rs)
theorem TG{rc:Co}{rs:Int}(h:agL e y n c rc rs)(a:Int):(rY a e y n).does.lay c=(if 0<n.length then kU n ((kU y ((rc.jZ c.free).lay 2 [rs])).lay 3 [])else kU y ((rc.jZ c.free).lay 2 [rs])).lay 0 []:=by
 show(if 0<n.length then kU n ((kU y (((e.does.give c (-1)).1.jZ c.free).lay 2 [(e.does.give c (-1)).2])).lay 3 [])else kU y (((e.does.give c (-1)).1.jZ c.free).lay 2 [(e.does.give c (-1)).2])).lay 0 []=_;rw[h.h1]
theorem aae(he:kE e)(hy:sZ y)(hn:sZ n)(a:Int){k:Int}(hk1:1<=k/\k<=1000001)(hke:k<=1000000->1+(e.jy+kN y+kN n)<=k):pV (wG 339 341 a k (P5 (e.here e.at') (wF y) (wF n)) (λus=>us++[.bool false]) {lay:=(zB e y n).lay}):=by
 have ec:=he.ok.jy;have yc:=rD hy.ok;have nc:=rD hn.ok;refine⟨Ii (by simp[oO]) (alW (he.ok.law _) hy.zG hn.zG) hk1,hk1.1,λc=>Iy ?_,λc hk=>?_,?_⟩
 .obtain⟨r,hr⟩:∃r,e.does.give c (-1)=r:=⟨_,rfl⟩;obtain⟨rc,rs⟩:=r;have hnm:=he.jA c (-1);rw[hr]at hnm;refine Eq.trans (congrArg Co.jA (TG ⟨hr⟩ a)) ?_;rw[Ia];split
  .rw[hn.jA,Ia,hy.jA];exact hnm
  .rw[hy.jA];exact hnm
 .obtain⟨r,hr⟩:∃r,e.does.give c (-1)=r:=⟨_,rfl⟩;obtain⟨rc,rs⟩:=r;have hk:=hk;have hp:=hke hk;have h1:=he.len c (-1) (by omega);rw[hr]at h1;have h2:=oD (rc.jZ c.free) 2 [rs];have h3:=hy.len ((rc.jZ c.free).lay 2 [rs]) (by omega);have h4:=oD (kU y ((rc.jZ c.free).lay 2 [rs])) 3 [];have h5:=hn.len ((kU y ((rc.jZ c.free).lay 2 [rs])).lay 3 []) (by omega);have h6:=oD (if 0<n.length then kU n ((kU y ((rc.jZ c.free).lay 2 [rs])).lay 3 [])else kU y ((rc.jZ c.free).lay 2 [rs])) 0 [];simp only[aF,bg,EM]at h1 h2 h4 h6;have hcl:(wG 339 341 a k (P5 (e.here e.at') (wF y) (wF n)) (λus=>us++[.bool false]) {lay:=(zB e y n).lay}).does.lay c=_:=TG ⟨hr⟩ a;rw[hcl];show _<=(c.code.length:Int)+200 * k;split at h6<;>rename_i hc0<;>simp only[hc0,dM,cZ]<;>omega
 rintro w lo hi T b C c ⟨b',us,hv,h1,h2,⟨u,v,z,rfl,hu,hv2,hz⟩,hb⟩ hC hc hr;cases hv;have hr:Room c (k):=hr;have hp:=hke hr.jy;have hrc:=hr.code;have hrn:=hr.jA;have hrk:=hr.jy;obtain⟨T1,b1,rfl,_⟩:=he.ok.head _ _ _ _ _ hu;obtain⟨ya,BU,hvf⟩:=F7 hv2;obtain⟨yn,hyn⟩:∃yn,y.length=yn:=⟨_,rfl⟩;rw[hyn]at hvf;subst hvf;obtain⟨f1,m1,kK,H1⟩:=he.give _ _ _ _ _ _ C c (-1) hu (by omega) hc (hr.less (by omega));have kK:∀args w,(callFunc f1 args).run prog w=.ok (.enter f1 args) w:=kK;have hl1:=he.len c (-1) (by omega);have hn1:=he.jA c (-1);obtain⟨r,hgr⟩:∃r,e.does.give c (-1)=r:=⟨_,rfl⟩;obtain⟨rc,rs⟩:=r;rw[hgr]at H1 hl1 hn1;simp only at hl1 hn1;have H1:=jB (H1);have hcl:(wG 339 341 a k (P5 (e.here e.at') (wF y) (wF n)) (λus=>us++[.bool false]) {lay:=(zB e y n).lay}).does.lay c=_:=TG ⟨hgr⟩ a;rw[hcl];clear hcl;obtain⟨v0,JU,h0⟩:=hc;have c2:=jJ 2 h0.jL rfl;clear h0;generalize c.free=fr at *;have hbC:b<C:=by omega
 have rE:=jB (λq (hq:Gk w q C)=>(hq.keep b hbC).trans hb);have k2:=oD (rc.jZ fr) 2 [rs];simp only[aF,bg,EM]at k2;have k3:=hy.len ((rc.jZ fr).lay 2 [rs]) (by omega);have MI:=hy.jA ((rc.jZ fr).lay 2 [rs]);have HY:=jB (λq (hq:Gk w q C)(hg:kF q C ((rc.jZ fr).lay 2 [rs]))=>hy.lay _ _ _ _ _ _ (hy.zG.gk hv2 hq (by omega)) hC hg ⟨by omega,by omega,by show(rc.jA.length:Int)+_<=_;rw[hn1];omega⟩);have k4:=oD (kU y ((rc.jZ fr).lay 2 [rs])) 3 [];simp only[bg]at k4;have Fb:=jB (λq (hq:Gk w q C)(hg:kF q C ((kU y ((rc.jZ fr).lay 2 [rs])).lay 3 []))=>hn.lay _ _ _ _ _ _ (hn.zG.gk hz hq (by omega)) hC hg ⟨by omega,by omega,by show((kU y ((rc.jZ fr).lay 2 [rs])).jA.length:Int)+_<=_;rw[MI];show(rc.jA.length:Int)+_<=_;rw[hn1];omega⟩);have k5:=hn.len ((kU y ((rc.jZ fr).lay 2 [rs])).lay 3 []) (by omega);have l1:(rc.jZ fr).code.length<=850000000:=by rw[EM];omega
 have l2:(kU y ((rc.jZ fr).lay 2 [rs])).code.length<=850000000:=by omega
 have l3:(kU n ((kU y ((rc.jZ fr).lay 2 [rs])).lay 3 [])).code.length<=850000000:=by omega
 obtain⟨za,zc,hzf⟩:∃za zc,z=.slice za n.length zc:=by
  exact F7 hz
 subst hzf;have d1:=jJ 2 (rE.out w (Gk.refl _ _)) rfl;have d5:=jJ 5 (rE.out w (Gk.refl _ _)) rfl;refine⟨337,λw=>by kernel_rfl,λargs w=>by kernel_rfl,?_⟩;clear hu hv2 hz hb hr hrc hrn hrk hl1 hn1 k2 k3 MI k4 k5 hp hy hn he hgr hyn hke;generalize kU n ((kU y ((rc.jZ fr).lay 2 [rs])).lay 3 [])=cN at *;generalize Ut:kU y ((rc.jZ fr).lay 2 [rs])=cY at *;clear Ut;obtain⟨cR,hcR⟩:∃cR,cR=(if 0<n.length then cN else cY):=⟨_,rfl⟩;rw[<-hcR];have HR:=jB hcR;clear hcR;have wL:=jB (λq (hq:kF q C cY)=>FU hq 3 (by omega));go_enter func337,ntmps337;go_wp2_with fail;refine H1.out.mono ?_;rintro e1 w1 ⟨rfl,⟨v1,zI,p1⟩,q1⟩;have g2:=jJ 2 p1.jL rfl;have fz:=qJ p1.jL;have lZ:Hid (kF (w1.setCell (Ad C 2) (Im fr)) C (rc.jZ fr)/\Gk w (w1.setCell (Ad C 2) (Im fr)) C):=⟨⟨v1,zI,p1.jZ fr⟩,q1.trans (Gk.free _ _ _)⟩;have HL:Hid (Calls prog 92 #[Pt C 0,.int .u8 2,.slice (some (Ad w1.heap.size 0)) 1 1] ((w1.setCell (Ad C 2) (Im fr)).alloc (.cells #[Im rs] 3)) λe w'=>e=.returned (.tuple #[])/\kF w' C ((rc.jZ fr).lay 2 [rs])/\Gk (w1.setCell (Ad C 2) (Im fr)) w' C):=by
  have h9:=aa9 lZ.out.1 2 rs (by omega);have hsz:(w1.setCell (Ad C 2) (Im fr)).heap.size=w1.heap.size:=by simp[World.setCell]
  rw[hsz]at h9;exact h9
 clear p1 q1 H1;go_wp2_with fail;refine HL.out.mono ?_;rintro e2 w2 ⟨rfl,p2,q2⟩;have hb2:=rE.out w2 (lZ.out.2.trans q2);have d3:=jJ 3 hb2 rfl;have lK:=jB (jg p2 (lZ.out.2.trans q2));clear p2 q2 hb2 HL lZ;go_wp2_with fail;refine(HY.out w2 lK.out.2 lK.out.1).mono ?_;rintro e3 w3 ⟨rfl,p3,q3⟩;have hb3:=rE.out w3 (lK.out.2.trans q3);have d4:=jJ 4 hb3 rfl;have qm:=jB (jg p3 (lK.out.2.trans q3));clear p3 q3 hb3 HY lK d3;by_cases hnl:0<n.length
 .have hcR:cR=cN:=by have h9:=HR.out;rw[jl hnl]at h9;exact h9
  subst hcR;clear HR;have dn:decide ((0:Int)<(n.length:Int))=true:=by simp;omega
  generalize n.length=nn at *;go_wp2_with fail;refine(wL.out w3 qm.out.1).mono ?_;rintro e4 w4 ⟨rfl,p4,q4⟩;have hb4:=rE.out w4 (qm.out.2.trans q4);have d6:=jJ 4 hb4 rfl;have sV:=jB (jg p4 (qm.out.2.trans q4));clear p4 q4 hb4 wL qm d4;go_wp2_with fail;refine(Fb.out w4 sV.out.2 sV.out.1).mono ?_;rintro e5 w5 ⟨rfl,p5,q5⟩;have qF:=jB (FU p5 0 (by omega));have xw:=jB (sV.out.2.trans q5);clear p5 q5 Fb sV;go_wp2_with fail;refine qF.out.mono ?_;rintro e6 w6 ⟨rfl,p6,q6⟩;have HE:=jB (jg p6 (xw.out.trans q6));clear p6 q6 qF xw;go_wp2_with fail;go_end0;exact⟨rfl,HE.out⟩
 .have hcR:cR=cY:=by have h9:=HR.out;rw[jk hnl]at h9;exact h9
  subst hcR;clear HR;have dn:=dO (by omega);generalize n.length=nn at *;have l4:cR.code.length<=900000000:=dH l2 (by decide);have qF:=jB (FU qm.out.1 0 l4);have sV:=jB qm.out.2;clear qm;go_wp2_with fail;refine qF.out.mono ?_;rintro e6 w6 ⟨rfl,p6,q6⟩;have HE:=jB (jg p6 (sV.out.trans q6));clear p6 q6 qF sV;go_wp2_with fail;go_end0;exact⟨rfl,HE.out⟩
theorem aaf(he:kE e)(hy:sZ y)(hn:sZ n)(a:Int):pV (rY a e y n):=by
 have ec:=he.ok.jy;have yc:=rD hy.ok;have nc:=rD hn.ok;refine(aae he hy hn a ⟨xK (by simp;exact⟨ec,yc,nc⟩),(Io ec yc nc).2⟩ (λhk=>by rw[V4 ec.1 ec.2 yc.1 yc.2 nc.1 nc.2 hk];omega)).of (uF (by simp[oO]) (MK (he.ok.law _) hy.law hn.law) (Io ec yc nc))
  (λ_ _ _ _ h=>JM (λ_ _ _ _ _ ⟨m,o,u,v,z,e',h1,h2,h3,hu,hv,hz⟩ hb=>⟨u,v,z,e',(he.ok.law _).wide _ _ _ _ _ _ hu (aj _) (by omega),hy.zG.wide _ _ _ _ _ _ (hy.flat hv) h1 (by omega),hn.zG.wide _ _ _ _ _ _ (hn.flat hz) (by omega) hb⟩) h) rfl rfl
theorem Vl{t:Wd}{fc:Co}{fs:Int}(h:c.mW (jQ x.base) x.jF=(fc,fs))(a:Int):(tK a t x l).does.lay c=(((kU l ((fc.lay 4 [jQ x.base,fs,fs]).know t.text fs)).lay 0 []).cut c.jA.length).jZ c.free:=by
 show(((kU l (((c.mW (jQ x.base) x.jF).1.lay 4 [jQ x.base,(c.mW (jQ x.base) x.jF).2,(c.mW (jQ x.base) x.jF).2]).know t.text (c.mW (jQ x.base) x.jF).2)).lay 0 []).cut c.jA.length).jZ c.free=_;rw[h]
theorem acT(hall:∀b∈x.jF,kE b.2)(xc:0<=x.jy/\x.jy<=1000001)(hl:sZ l)(a:Int)(t:Wd){k:Int}(hk1:1<=k/\k<=1000001)(hsg:k<=1000000->wo x/\kN l<=1000000/\2+x.jy+kN l<=k):pV (wG 349 351 a k (Ai (AA x) (wF l)) (λus=>.string t.text::Im t.at'::us) (MZ t x l)):=by
 have lc:=rD hl.ok;have rO:=EL λb hb a=>(hall b hb).ok.law a;have hfn:∀c:Co,(c.mW (jQ x.base) x.jF).1.jA=c.jA:=λc=>by
  have:=(Tj hall 0 0 1000001 ⟨#[]⟩ (by omega) (λh=>jq h (by omega)) {give:=CU ⟨#[]⟩ x.base x.jF} rfl).jA c (-1);have e0:(CU ⟨#[]⟩ x.base x.jF c (-1)).1.jA=(c.mW (jQ x.base) x.jF).1.jA:=by
   show((((c.mW (jQ x.base) x.jF).1.jZ c.free).choose (-1)).1.lay _ _).jA=_;rw[Ia,Je,Q5]
  rw[<-e0];exact this
 obtain⟨tt,ta⟩:=t;refine⟨Ii (by simp[oO]) (P6 rO hl.zG) hk1,hk1.1,λc=>Iy ?_,λc hk=>?_,?_⟩
 .obtain⟨r,hr⟩:∃r,c.mW (jQ x.base) x.jF=r:=⟨_,rfl⟩;obtain⟨fc,fs⟩:=r;have h1:=hfn c;rw[hr]at h1;refine Eq.trans (congrArg Co.jA (Vl (t:=⟨tt,ta⟩) hr a)) ?_;show((kU l ((fc.lay 4 [jQ x.base,fs,fs]).know tt fs)).jA.take c.jA.length)=c.jA;rw[hl.jA];show((fc.jA++[(tt,fs)]).take c.jA.length)=c.jA;simp only at h1;rw[h1];simp
 .obtain⟨r,hr⟩:∃r,c.mW (jQ x.base) x.jF=r:=⟨_,rfl⟩;obtain⟨fc,fs⟩:=r;obtain⟨hs,hsl,hp⟩:=hsg hk;have h1:=OV (c:=c) hs (jQ x.base);rw[hr]at h1;have h2:=oD fc 4 [jQ x.base,fs,fs];have h3:=hl.len ((fc.lay 4 [jQ x.base,fs,fs]).know tt fs) hsl;have h4:=oD (kU l ((fc.lay 4 [jQ x.base,fs,fs]).know tt fs)) 0 [];have h5:((fc.lay 4 [jQ x.base,fs,fs]).know tt fs).code=(fc.lay 4 [jQ x.base,fs,fs]).code:=rfl;rw[h5]at h3;simp only[aF,bg]at h1 h2 h4;have hll:(wG 349 351 a k (Ai (AA x) (wF l)) (λus=>.string (⟨tt,ta⟩:Wd).text::Im (⟨tt,ta⟩:Wd).at'::us) (MZ ⟨tt,ta⟩ x l)).does.lay c=_:=Vl (t:=⟨tt,ta⟩) hr a;rw[hll];show(((kU l ((fc.lay 4 [jQ x.base,fs,fs]).know tt fs)).lay 0 []).code.length:Int)<=(c.code.length:Int)+200 * k;omega
 rintro w lo hi T b C c ⟨b',us,hv,h1,h2,⟨u,v,rfl,hu,hv2⟩,hb⟩ hC hc hr;cases hv;have hr:Room c (k):=hr;obtain⟨hs,hsl,hp⟩:=hsg hr.jy;have hrc:=hr.code;have hrn:=hr.jA;have hrk:=hr.jy;obtain⟨S,fv,rfl,s1,s2,hS,_⟩:=id hu;obtain⟨ya,yc,hvf⟩:=F7 hv2;obtain⟨yn,hyn⟩:∃yn,l.length=yn:=⟨_,rfl⟩;rw[hyn]at hvf;subst hvf;have hbC:b<C:=by omega
 have rE:=jB (λq (hq:Gk w q C)=>(hq.keep b hbC).trans hb);have IW:=jB (λq (hq:Gk w q C)=>Uf ((hq.keep S (by omega)).trans hS));have HF:=λn=>(aa6 hs rO (rO.gk hu (Gk.grown (lH w n) hc.lt) (by omega)) hC (hc.grow (lH w n)) (hr.less (by omega)) (by omega)).mono (R':=λen w'=>en=.returned (Im (c.mW (jQ x.base) x.jF).2)/\kF w' C (c.mW (jQ x.base) x.jF).1/\Gk w w' C) λen w' ⟨q1,q2,q3⟩=>⟨q1,q2,(Gk.grown (lH w n) hc.lt).trans q3⟩;have k1:=OV (c:=c) hs (jQ x.base);have Ju:=hfn c;obtain⟨r,hfr⟩:∃r,c.mW (jQ x.base) x.jF=r:=⟨_,rfl⟩;obtain⟨fc,fs⟩:=r;rw[hfr]at HF k1 Ju;simp only at k1 Ju;have HF:=jB (HF);have hll:(wG 349 351 a k (Ai (AA x) (wF l)) (λus=>.string (⟨tt,ta⟩:Wd).text::Im (⟨tt,ta⟩:Wd).at'::us) (MZ ⟨tt,ta⟩ x l)).does.lay c=_:=Vl (t:=⟨tt,ta⟩) hfr a;rw[hll];clear hll;have k2:=oD fc 4 [jQ x.base,fs,fs];simp only[aF,bg]at k2;have k3:=hl.len ((fc.lay 4 [jQ x.base,fs,fs]).know tt fs) hsl;have U2:((fc.lay 4 [jQ x.base,fs,fs]).know tt fs).code=(fc.lay 4 [jQ x.base,fs,fs]).code:=rfl;rw[U2]at k3;have MI:=hl.jA ((fc.lay 4 [jQ x.base,fs,fs]).know tt fs);have HY:=jB (λq (hq:Gk w q C)(hg:kF q C ((fc.lay 4 [jQ x.base,fs,fs]).know tt fs))=>hl.lay _ _ _ _ _ _ (hl.zG.gk hv2 hq (by omega)) hC hg ⟨by omega,by rw[U2];omega,by show((fc.jA++[(tt,fs)]).length:Int)+_<=_;rw[Ju];simp only[aA,aF,bg];omega⟩);have Y0:=jB (λq (hq:kF q C (fc.lay 4 [jQ x.base,fs,fs]))=>Ue hq tt ta fs (by show fc.jA.length<=_;rw[Ju];omega));have l1:fc.code.length<=850000000:=by omega
 have l2:(kU l ((fc.lay 4 [jQ x.base,fs,fs]).know tt fs)).code.length<=850000000:=by omega
 have ln:(kU l ((fc.lay 4 [jQ x.base,fs,fs]).know tt fs)).jA.length=c.jA.length+1:=by rw[MI];show(fc.jA++[(tt,fs)]).length=_;rw[Ju];simp
 obtain⟨a0,cap0,c1,_,c2,_⟩:=hc.leave (aj _) 0;have d4:=jJ 4 (rE.out w (Gk.refl _ _)) rfl;refine⟨345,λw=>by kernel_rfl,λargs w=>by kernel_rfl,?_⟩;clear hu hv2 hb hr hrc hrn hrk k1 Ju k2 k3 U2 MI hp hl hfr hc hs hsl hsg hfn rO hS hyn;generalize Ut:kU l ((fc.lay 4 [jQ x.base,fs,fs]).know tt fs)=cY at *;clear Ut;generalize jQ x.base=ls at *;generalize c.free=fr at *;generalize hnl:c.jA.length=nl at *;go_enter func345,ntmps345;go_wp2_with fail;go_quiet (fail);go_wp2_with fail;refine(HF.out _).mono ?_;rintro en w1 ⟨rfl,p1,q1⟩;have hb1:=rE.out w1 q1;have e4:=jJ 4 hb1 rfl;have sH:=jB (Pg p1 4 ls fs fs (by omega));have lZ:=jB q1;clear p1 q1 hb1 HF;go_wp2_with fail;refine(IW.out _ lZ.out).mono ?_;rintro en w1' ⟨rfl,rfl⟩;go_wp2_with fail;refine sH.out.mono ?_;rintro en w2 ⟨rfl,p2,q2⟩;have hb2:=rE.out w2 (lZ.out.trans q2);have f2:=jJ 2 hb2 rfl;have f3:=jJ 3 hb2 rfl;have lK:=jB (jg p2 (lZ.out.trans q2));clear p2 q2 hb2 sH lZ e4;go_wp2_with fail;refine(Y0.out w2 lK.out.1).mono ?_;rintro en w3 ⟨rfl,p3,q3⟩;have hb3:=rE.out w3 (lK.out.2.trans q3);have g5:=jJ 5 hb3 rfl;have qm:=jB (jg p3 (lK.out.2.trans q3));clear p3 q3 hb3 Y0 lK f2 f3;go_wp2_with fail;refine(HY.out w3 qm.out.2 qm.out.1).mono ?_;rintro en w4 ⟨rfl,p4,q4⟩;have qF:=jB (FU p4 0 (by omega));have sV:=jB (qm.out.2.trans q4);clear p4 q4 HY qm g5;go_wp2_with fail;refine qF.out.mono ?_;rintro en w5 ⟨rfl,p5,q5⟩;have hle:nl<=(cY.lay 0 []).jA.length:=by rw[Ia,ln];omega
 obtain⟨a5,cap5,z1,z2,z3,z4,z5,z6⟩:=p5.leave hle fr;have HE:=jB (jg z5 ((sV.out.trans q5).trans z6));have j0:(0:Int)<=(nl:Int):=by omega
 have j1:(nl:Int)<=(cap5:Int):=by omega
 clear p5 q5 z5 z6 qF sV;generalize (cY.lay 0 []).jA.length=nm at *;go_wp2_with fail;go_end0;exact⟨rfl,HE.out⟩
theorem acV{N:Nat}(hN:N<=100000)(hx:qY N kE x)(hl:sZ l)(a:Int)(t:Wd):pV (tK a t x l):=by
 have lc:=rD hl.ok;have xc:=hx.jy;have rc:=uf (x:=x) lc;have hb0:∀b∈x.jF,∀a,Lawful (b.2.here a):=λb hb a=>(hx.all b hb).ok.law a;refine(acT hx.all xc hl a t ⟨xK (by simp;exact⟨xc,rc⟩),(rC xc rc).2⟩ (λhk=>?_)).of (uF (by simp[oO]) (wC (NM hb0) hl.law) (rC xc rc))
  (λ_ _ _ _ h=>JM (λ_ _ _ _ _ ⟨m,u,v,e',h1,h2,hu,hv⟩ hb=>⟨u,v,e',(EL hb0).wide _ _ _ _ _ _ (WE hb0 hu) (aj _) (by omega),hl.zG.wide _ _ _ _ _ _ (hl.flat hv) h1 hb⟩) h) rfl rfl
 have hp:=zJ xc.1 xc.2 rc.1 rc.2 hk;have hg:=NH (x:=x) lc.1 (by omega);exact⟨wo.of hN hx (by omega),by omega,by omega⟩
theorem al0(N:Nat)(hN:N<=100000):KW N kE kE sZ pV where
 jy:=λ_ h=>h.ok.jy
 Qm:=λa t _ h=>ac5 h a t
 Ri:=λt _ h=>afn h t
 Ru:=λa i _ h=>afQ h a i
 QJ:=λa _ _ h k=>aex h k a
 returning:=λa=>Wu a
 choice:=λa _ _ _ h hy hn=>aaf h hy hn a
 loop:=λa t _ _ hx hl=>acV hN hx hl a t
theorem aqX(s:jm)(hs:s.size<=4000)(d:Nat)(p:Ps):sZ (oH s d p).1:=
 Rq s (λ_=>kE) (λ_=>pV) (λ_=>sZ) (aju s hs) (λ_=>al0 (s.size+1) (by omega)) (λ_=>Ib (by simp)) (λ_ _ _ h=>Ib h) d p
end
section
variable {s:jm}{ex ex':Ps->Ex×Ps}{d:Nat}{p:Ps}
def um(fn:FuncId)(s:jm)(p:Ps)(r:jK×Ps):Prop:=
 ∀(P:Nat)(w:jo),jR w P s p->Calls prog fn #[Pt P 0] w λe w'=>∃v,e=.returned v/\r.1.here w' w.heap.size w'.heap.size v/\jR w' P s r.2/\w.grownBy w' (some P)
def G6(fn:FuncId)(s:jm)(p:Ps)(r:List jK×Ps):Prop:=
 ∀(P:Nat)(w:jo),jR w P s p->Calls prog fn #[Pt P 0] w λe w'=>∃v,e=.returned v/\mO r.1 w' w.heap.size w'.heap.size v/\jR w' P s r.2/\w.grownBy w' (some P)
theorem apQ(hs:s.size<=4000)(ok:p.Ok s)(ht:p.is [114,101,116,117,114,110]=true):um 224 s p (EI s p):=by
 intro P w h;have g1:=nV ok (oM (by simp) ht);have HN:Hid (Calls prog 236 #[Pt P 0] w (qG P s w (.agg #[Im p.k.kind,.string p.k.text,Im p.k.at']) (p.next s))):=wX h ok hs;have HE:=jB (λx (hx:jR x P s (p.next s))=>Ee hx g1.ok hs [59]);have hfa:=LJ p.k.kind p.k.at' p.k.text;show Calls prog 224 #[Pt P 0] w λe w'=>∃v,e=.returned v/\(yC p.k.at').here w' w.heap.size w'.heap.size v/\jR w' P s ((p.next s).expect s [59])/\w.grownBy w' (some P);generalize (p.next s).expect s [59]=q2 at *;generalize p.next s=q at *;generalize p.k.kind=kk at *;generalize p.k.text=kt at *;generalize p.k.at'=ka at *;clear h g1 ok ht;go_enter func224,ntmps224;go_wp2_with fail;refine HN.out.mono ?_;rintro e w1 ⟨rfl,p1,g1⟩;have kH:=jB (jg p1 g1);clear p1 g1 HN;go_wp2_with fail;refine(HE.out _ kH.out.1).mono ?_;rintro e w2 ⟨rfl,p2,g2⟩;have HP2:=jB (jg p2 (kH.out.2.trans g2));clear p2 g2 HE kH;go_wp2_with fail;refine(Qs ka _).mono ?_;rintro e w3 ⟨rfl,g3⟩;have lF:=jB (jg (HP2.out.1.grow g3) (HP2.out.2.trans (g3.but _)));clear g3 HP2;go_wp2_with fail;go_ret;exact⟨_,rfl,JO BM rfl lF.out.2.size rfl,lF.out.1.grow (ah _ _ none),lF.out.2.trans ((ah _ _ none).but _)⟩
theorem aq4(hs:s.size<=4000)(h:Reader s ex (d+1))(ok:p.Ok s)(hd:Deep (d+1) p)(hk:p.k.kind=4):um 221 s p (EP s ex p):=by
 intro P w hp;have g1:=nV ok (Ij (by rw[hk];decide));obtain⟨g2,x2⟩:=Jk h.good g1.ok (hd.good g1);have c3:=kG.c3 hp;have HR:=jB (aeK hp ok hs hk);have HG:=jB (λx (hx:jR x P s (p.next s))=>Ui hs h g1.ok (hd.good g1) P x hx);show Calls prog 221 #[Pt P 0] w λe w'=>∃v,e=.returned v/\(yE p.k.at' ((p.k.text.data.toList.getD 1 0).toNat-48) (pF s ex (p.next s)).1).here w' w.heap.size w'.heap.size v/\jR w' P s (pF s ex (p.next s)).2/\w.grownBy w' (some P);have HX:Hid (kV (pF s ex (p.next s)).1):=x2;generalize ((p.k.text.data.toList.getD 1 0).toNat:Int)-48=i at *;generalize pF s ex (p.next s)=r at *;generalize p.next s=q at *;generalize p.k.at'=ka at *;clear hp g1 g2 x2 ok hd hk h;go_enter func221,ntmps221;go_wp2_with fail;refine HR.out.mono ?_;rintro e w1 ⟨rfl,p1,g1⟩;have kH:=jB (jg p1 g1);clear p1 g1 HR;go_wp2_with fail;refine(HG.out _ kH.out.1).mono ?_;rintro e w2 ⟨v,rfl,e2,p2,g2⟩;obtain⟨T,A,rfl,hmp,b1,b2,a1⟩:=HX.out.rP e2;have HP2:=jB (jg e2 (jg p2 g2));have zl:=jB (tX A 0 _ a1);clear e2 p2 g2 HG;go_wp2_with fail;refine zl.out.mono ?_;rintro e w3 ⟨rfl,rfl⟩;go_wp2_with fail;refine(zH ka _ [r.1.jy] (VO w3 _ r.1.jy HX.out.jy.1 HX.out.jy.2)).mono ?_;rintro e w4 ⟨rfl,g4⟩;have yH:=jB ((ah w3 _ none).trans g4);clear g4;have HU:Hid (nX (r.1.here r.1.at') w4 w.heap.size w4.heap.size [.iface T (Pt A 0)]/\w.heap.size<=w4.heap.size):=by
  have s1:=kH.out.2.size;have s2:=HP2.out.2.2.size;have s3:=yH.out.size;exact⟨⟨_,rfl,(HX.out.law _).wide _ _ _ _ _ _ ((HX.out.law _).loc _ _ _ _ _ HP2.out.1 (λb _ hb=>yH.out.block b hb (by simp))) s1 s3⟩,by omega⟩
 have KD:Hid (∀o,jR (w4.alloc o) P s r.2/\w.grownBy (w4.alloc o) (some P)):=λo=>
  ⟨HP2.out.2.1.grow (yH.out.trans (ah w4 o none)),(kH.out.2.trans HP2.out.2.2).trans ((yH.out.trans (ah w4 o none)).but _)⟩
 go_wp2_with fail;go_ret;exact⟨_,rfl,JO (qO (HX.out.law _)) HU.out.1 HU.out.2 rfl,KD.out _⟩
theorem ais(hs:s.size<=4000){vg:Ps->List jK×Ps}(hg:DL s vg d)(h:∀p,p.Ok s->Deep d p->G6 141 s p (vg p))(ok:p.Ok s)(hd:Deep (d+1) p):G6 241 s p (xZ s vg p):=by
 intro P w hp;have hlt:=hp.lt;have o1:=ok.jW [123];have d1:=hd.jW ok (t:=[123]) (by simp);obtain⟨g1,x1⟩:=hg _ o1 d1;have H0:=jB (Nx hp ok hs [123]);have H1:=jB (λx (hx:jR x P s (p.jW s [123]))=>h _ o1 d1 P x hx);have H2:=jB (λx (hx:jR x P s (vg (p.jW s [123])).2)=>Lp hx g1.ok hs [125]);show Calls prog 241 #[Pt P 0] w λe w'=>∃v,e=.returned v/\mO (vg (p.jW s [123])).1 w' w.heap.size w'.heap.size v/\jR w' P s ((vg (p.jW s [123])).2.close s [125])/\w.grownBy w' (some P);have HX:Hid (Lawful (mO (vg (p.jW s [123])).1)):=uz x1;generalize vg (p.jW s [123])=r at *;generalize p.jW s [123]=q at *;generalize r.2.close s [125]=q2 at *;clear hp o1 d1 g1 x1 ok hd h hg;go_enter func241,ntmps241;go_wp2_with fail;refine H0.out.mono ?_;rintro e w1 ⟨rfl,p1,k1⟩;have kH:=jB (jg p1 k1);clear p1 k1 H0;go_wp2_with fail;refine(H1.out _ kH.out.1).mono ?_;rintro e w2 ⟨v,rfl,e2,p2,k2⟩;have HP2:=jB (jg e2 (jg p2 k2));clear e2 p2 k2 H1;go_wp2_with fail;refine(H2.out _ HP2.out.2.1).mono ?_;rintro e w3 ⟨rfl,p3,k3⟩;have lF:=jB (jg p3 k3);clear p3 k3 H2;go_wp2_with fail;go_ret;obtain⟨a1,a2⟩:=kH.out;obtain⟨b0,b1,b2⟩:=HP2.out;obtain⟨c1,c2⟩:=lF.out;have s1:=a2.size;have s3:=c2.size;refine⟨v,rfl,HX.out.wide _ _ _ _ _ _ (HX.out.loc _ _ _ _ _ b0 (λb b1 b2=>c2.block b b2 (by simp;omega))) s1 s3,c1,(a2.trans b2).trans c2⟩
theorem aoZ(hs:s.size<=4000)(h:Reader s ex' d)(ok:p.Ok s)(hd:Deep (d+1) p)(ht:p.is [112,117,115,104]=true):um 223 s p (ED s ex' p):=by
 intro P w hp;have hlt:=hp.lt;have g1:=nV ok (oM (by simp) ht);have o1:=g1.ok.jW [40];have d1:=(hd.good g1).jW g1.ok (t:=[40]) (by simp);obtain⟨g2,x2⟩:=h.good _ o1 d1;have g3:=yj g2.ok (t:=[44]) (by simp);have d3:=d1.good (g2.trans g3);obtain⟨g4,x4⟩:=h.good _ g3.ok d3;have g5:=Jm g1.ok (t:=[40]) (u:=[41]) (by simp) (by simp) ((g2.trans g3).trans g4);have HN:Hid (Calls prog 236 #[Pt P 0] w (qG P s w (.agg #[Im p.k.kind,.string p.k.text,Im p.k.at']) (p.next s))):=wX hp ok hs;have H0:=jB (λx (hx:jR x P s (p.next s))=>Nx hx g1.ok hs [40]);have H1:=jB (λx (hx:jR x P s ((p.next s).jW s [40]))=>h.reads _ o1 d1 P x hx);have H2:=jB (λx (hx:jR x P s (ex' ((p.next s).jW s [40])).2)=>Ee hx g2.ok hs [44]);have H3:=jB (λx (hx:jR x P s ((ex' ((p.next s).jW s [40])).2.expect s [44]))=>h.reads _ g3.ok d3 P x hx);have H4:=jB (λx (hx:jR x P s (ex' ((ex' ((p.next s).jW s [40])).2.expect s [44])).2)=>Lp hx g4.ok hs [41]);have H5:=jB (λx (hx:jR x P s ((ex' ((ex' ((p.next s).jW s [40])).2.expect s [44])).2.close s [41]))=>Ee hx g5.ok hs [59]);have hfa:=LJ p.k.kind p.k.at' p.k.text;show Calls prog 223 #[Pt P 0] w λe w'=>∃v,e=.returned v/\(vU p.k.at' (ex' ((p.next s).jW s [40])).1 (ex' ((ex' ((p.next s).jW s [40])).2.expect s [44])).1).here w' w.heap.size w'.heap.size v/\jR w' P s (((ex' ((ex' ((p.next s).jW s [40])).2.expect s [44])).2.close s [41]).expect s [59])/\w.grownBy w' (some P);have HX:=jB (jg x2 x4);generalize ex' ((ex' ((p.next s).jW s [40])).2.expect s [44])=r2 at *
 generalize (r2.2.close s [41]).expect s [59]=q6 at *;generalize r2.2.close s [41]=q5 at *;generalize (ex' ((p.next s).jW s [40])).2.expect s [44]=q3 at *;generalize ex' ((p.next s).jW s [40])=r1 at *;generalize (p.next s).jW s [40]=q1 at *;generalize p.next s=q at *;generalize p.k.kind=kk at *;generalize p.k.text=kt at *;generalize p.k.at'=ka at *;clear hp g1 o1 d1 g2 x2 g3 d3 g4 x4 g5 ok hd ht h;go_enter func223,ntmps223;go_wp2_with fail;refine HN.out.mono ?_;rintro e w1 ⟨rfl,p1,g1⟩;have kH:=jB (jg p1 g1);clear p1 g1 HN;go_wp2_with fail;refine(H0.out _ kH.out.1).mono ?_;rintro e w2 ⟨rfl,p2,g2⟩;have HP2:=jB (jg p2 (kH.out.2.trans g2));clear p2 g2 H0 kH;go_wp2_with fail;refine(H1.out _ HP2.out.1).mono ?_;rintro e w3 ⟨v1,rfl,e3,p3,g3⟩;have lF:=jB (jg e3 (jg p3 g3));clear e3 p3 g3 H1;go_wp2_with fail;refine(H2.out _ lF.out.2.1).mono ?_;rintro e w4 ⟨rfl,p4,g4⟩;have nG:=jB (jg p4 g4);clear p4 g4 H2;go_wp2_with fail;refine(H3.out _ nG.out.1).mono ?_;rintro e w5 ⟨v2,rfl,e5,p5,g5⟩;have vk:=jB (jg e5 (jg p5 g5));clear e5 p5 g5 H3;go_wp2_with fail;refine(H4.out _ vk.out.2.1).mono ?_;rintro e w6 ⟨rfl,p6,g6⟩;have Fe:=jB (jg p6 g6);clear p6 g6 H4;go_wp2_with fail;refine(H5.out _ Fe.out.1).mono ?_;rintro e w7 ⟨rfl,p7,g7⟩;have AZ:=jB (jg p7 (Fe.out.2.trans g7));clear p7 g7 H5 Fe
 have HV:Hid (r1.1.here r1.1.at' w7 w2.heap.size w3.heap.size v1/\r2.1.here r2.1.at' w7 w4.heap.size w5.heap.size v2/\w.heap.size<=w2.heap.size/\w3.heap.size<=w4.heap.size/\w4.heap.size<=w5.heap.size/\w5.heap.size<=w7.heap.size/\w.grownBy w7 (some P)):=by
  have s2:=HP2.out.2.size;have s3:=lF.out.2.2.size;have s4:=nG.out.2.size;have s5:=vk.out.2.2.size;have s7:=AZ.out.2.size;exact⟨HX.out.1.keep lF.out.1 (by omega) (aj _) (nG.out.2.trans (vk.out.2.2.trans AZ.out.2)),HX.out.2.keep vk.out.1 (by omega) (aj _) AZ.out.2,s2,s4,s5,s7,HP2.out.2.trans (lF.out.2.2.trans (nG.out.2.trans (vk.out.2.2.trans AZ.out.2)))⟩
 obtain⟨T1,A1,hv1,hm1,a1,a2,a3⟩:=HX.out.1.rP HV.out.1;obtain⟨T2,A2,hv2,hm2,b1,b2,b3⟩:=HX.out.2.rP HV.out.2.1;subst hv1 hv2;have A8:=jB (tX A1 0 _ a3);have KE:=jB (tX A2 0 _ b3);clear HP2 lF nG vk;go_wp2_with fail;refine A8.out.mono ?_;rintro e1 w8 ⟨rfl,hw8⟩;rw[hw8]at *;clear hw8;go_wp2_with fail;refine KE.out.mono ?_;rintro e1 w9 ⟨rfl,hw9⟩;rw[hw9]at *;clear hw9;go_wp2_with fail;refine(zH ka _ [r1.1.jy,r2.1.jy] (II w7 _ r1.1.jy r2.1.jy HX.out.1.jy.1 HX.out.1.jy.2 HX.out.2.jy.1 HX.out.2.jy.2)).mono ?_;rintro e1 w10 ⟨rfl,g10⟩;have HG:=jB ((ah w7 _ none).trans g10);clear g10;have HFin:Hid (∀o,o=(Obj.cells #[Im ka,Im (jS [r1.1.jy,r2.1.jy]),.iface T1 (Pt A1 0),.iface T2 (Pt A2 0)] 335)->(vU ka r1.1 r2.1).here (w10.alloc o) w.heap.size (w10.alloc o).heap.size (.iface 333 (Pt w10.heap.size 0))/\jR (w10.alloc o) P s q6/\w.grownBy (w10.alloc o) (some P)):=λo ho=>by
  obtain⟨k1,k2,s2,s4,s5,s7,gw⟩:=HV.out;have sg:=HG.out.size;have gf:=HG.out.trans (ah w10 o none);have hK:xH (r1.1.here r1.1.at') (r2.1.here r2.1.at') w10 w.heap.size w10.heap.size [.iface T1 (Pt A1 0),.iface T2 (Pt A2 0)]:=by
   refine⟨w4.heap.size,_,_,rfl,by omega,by omega,?_,?_⟩
   .exact(HX.out.1.law _).wide _ _ _ _ _ _ ((HX.out.1.law _).loc _ _ _ _ _ k1 (λb _ hb=>HG.out.block b (by omega) (by simp))) s2 s4
   .exact(HX.out.2.law _).wide _ _ _ _ _ _ ((HX.out.2.law _).loc _ _ _ _ _ k2 (λb _ hb=>HG.out.block b (by omega) (by simp))) (aj _) (by omega)
  exact⟨JO (wC (HX.out.1.law _) (HX.out.2.law _)) hK (by omega) ho,AZ.out.1.grow gf,gw.trans (gf.but _)⟩
 go_wp2_with fail;go_ret;exact⟨_,rfl,HFin.out _ rfl⟩
end
def Zi(w:jo)(v:jr)(l:List jK):Prop:=
 (l=[]/\v=Nl)\/
 ∃g cap,v=.slice (some (Ad g 0)) l.length cap/\∀(j:Nat)(e:jK),l[j]? =some e->∃T b,w.cell? (Ad g j)=some (.iface T (Pt b 0))/\oO T/\w.cell? (Ad b 1)=some (Im e.jy)
theorem afT{g:Nat}:∀{bs:List jK}{w:jo}{lo hi:Nat}{us:List jr},(∀e∈bs,nZ e)->sS g bs w lo hi us->∀(j:Nat)(e:jK),bs[j]? =some e->∃T b,us[j]? =some (.iface T (Pt b 0))/\oO T/\w.cell? (Ad b 1)=some (Im e.jy)
 |[],_,_,_,_,_,_,j,e,h=>by simp at h
 |b::bs,w,lo,hi,us,hl,⟨l,m,u,us',h0,h1,h2,h3,h4,h5,h6⟩,j,e,h=>by
  subst h0;cases j with
  |zero=>
   simp only[dw,bJ]at h;subst h;obtain⟨T,b',k1,k2,_,_,k5⟩:=(hl b (aW ..)).head _ _ _ _ h5;exact⟨T,b',by rw[k1];rfl,k2,k5⟩
  |succ j=>exact afT (λe he=>hl e (aI _ he)) h6 j e (by simpa using h)
theorem Ip{l:List jK}(hl:∀e∈l,nZ e){w:jo}{lo hi:Nat}{v:jr}(h:mO l w lo hi v):Zi w v l:=by
 rcases h with h|⟨g,cap,us,arr,h1,h2,h3,h4,h5,h6⟩
 .exact ji h
 .refine jh ⟨g,cap,h1,λj e he=>?_⟩;obtain⟨T,b,k1,k2,k3⟩:=afT hl h4 j e he;exact⟨T,b,(jH h5).trans (h6 j _ k1),k2,k3⟩
theorem aq8(l:List jK)(k:Nat)(h:k<l.length)(a:Int):(l.drop k).foldl (λa e=>lg [a,e.jy]) a=(l.drop (k+1)).foldl (λa e=>lg [a,e.jy]) (lg [a,l[k].jy]):=by
 rw[dA h,bP]
theorem IG{l:List jK}(hl:∀e∈l,nZ e)(hn:l.length<=1000000){w:jo}{v:jr}(h:Zi w v l):Calls prog 90 #[v] w λe w'=>e=.returned (Im (kN l))/\w.grownBy w' none:=by
 have HR:Hid (kN l=(l.drop 0).foldl (λa e=>lg [a,e.jy]) 0):=rfl;rcases h with⟨rfl,rfl⟩|⟨g,cap,rfl,hc⟩
 .go_enter func90,ntmps90;go_wp2_with fail;refine wp_loop_rounds 1 ?_;rw[rounds_succ];go_wp2_with fail;go_ret;exact⟨rfl,aN _ _⟩
 .generalize hr:kN l=r at *;clear hr;have HC:=jB hc;have HL:=jB hl;clear hc hl;go_enter func90,ntmps90;go_wp2_with fail;go_loopg [3,8] l.length (λgg a i wr=>∃(k:Nat)(z:Int),k+gg=l.length/\a=Im z/\i=Im k/\0<=z/\z<=1000001/\Hid (r=(l.drop k).foldl (λa e=>lg [a,e.jy]) z/\w.grownBy wr none))
  case atStart=>exact⟨0,0,by omega,rfl,rfl,by omega,by omega,⟨HR.out,aN _ _⟩⟩
  case round=>
   obtain⟨k,z,hk,rfl,rfl,z0,z1,HK⟩:=hrel;clear HR;by_cases hlt:k<l.length
   .have d1:decide ((k:Int)<(l.length:Int))=true:=by simp;omega
    have i0:(0:Int)<=(k:Int):=by omega
    have i1:(k:Int)<(l.length:Int):=by omega
    have hg:l[k]? =some l[k]:=bU hlt;obtain⟨T,b,k1,k2,k3⟩:=HC.out k _ hg;have hb:=(HL.out _ (fG hlt)).jy;have m1:=HK.out.2.cell k1 (by simp);have m2:=HK.out.2.cell k3 (by simp);have hmp:=k2.rP b;have HE:=HK.out.1;rw[aq8 l k hlt]at HE;generalize l[k].jy=c at *;have zl:=jB (tX b 0 _ m2);have HT:Hid (Calls prog 143 #[.slice (some (Ad wr.heap.size 0)) 2 2] (wr.alloc (.cells #[Im z,Im c] 3)) λe w'=>e=.returned (Im (lg [z,c]))/\w'=wr.alloc (.cells #[Im z,Im c] 3)):=NU (II wr _ z c z0 z1 hb.1 hb.2);have hbd:=xQ [z,c] (by simp;omega);have lK:=jB (jg HE HK.out.2);clear HE HK k1 k2 k3 hg;generalize lg [z,c]=t at *;obtain⟨g',hg'⟩:∃g',gk=g'+1:=⟨gk-1,by omega⟩;go_wp2_with fail;refine zl.out.mono ?_;rintro e w1 ⟨rfl,hw1⟩;rw[hw1];clear hw1;go_wp2_with fail;refine HT.out.mono ?_;rintro e w2 ⟨rfl,hw2⟩;rw[hw2];clear hw2;go_wp2_with fail;go_roundg g'
    case measure=>omega
    case rel=>exact⟨k+1,_,by omega,rfl,by go_num,hbd.1,hbd.2,⟨lK.out.1,lK.out.2.trans (ah _ _ none)⟩⟩
   .have d1:decide ((k:Int)<(l.length:Int))=false:=by simp;omega
    have e:r=z:=by rw[HK.out.1,fH (by omega)];rfl
    subst e;have HG:=jB HK.out.2;clear HK;go_wp2_with fail;go_ret;exact⟨rfl,HG.out⟩
end
end Go.Proofs.YthllhabjfchgiaaGreatDoor
