import Derived.Test.YthllhabjfchgiaaGreatDoorHk30
set_option maxRecDepth 100000
set_option maxHeartbeats 8000000
set_option linter.unusedSimpArgs false
namespace Go.Proofs.YthllhabjfchgiaaGreatDoor
open _root_.Go.Proofs.Tryz
section
open Go.RowKit Hx
attribute [local go_sem ↓] Go.wp_at_zero Go.wp_at_succ
attribute [local go_sem] kP
section
variable {w w' w1 w2 w3 w4:jk}{C lo hi b d m k:Nat}{c:Ck}{u v:jm}{e f:Ex}{a:Int}{T:jo}{x:Sx}{l y n:List jG}
theorem zF.law(h:zF d l):Lawful (mW l):=Qa λs hs=>(h.ok s hs).law
theorem ajG(a:Int)(h:kV e)(hy:∀s∈y,oI s)(hn:∀s∈n,oI s):oI (nY a e y n):=uK (by simp[o7]) (MP (h.law _) (uJ hy) (uJ hn)) (Ib h.jw (rH hy) (rH hn))
theorem am9(a:Int)(t:Wd)(hx:pq x)(hl:∀s∈l,oI s):oI (sG a t x l):=uK (by simp[o7]) (wJ hx.law (uJ hl)) (rG hx.jw (uo (rH hl)))
theorem Jz{w:jk}{lo hi:Nat}{v:jm}(h:mW l w lo hi v):∃ad n cap,v=.slice ad n cap:=by
 rcases h with⟨_,rfl⟩|⟨g,cap,us,arr,rfl,_⟩
 .exact⟨_,_,_,rfl⟩
 .exact⟨_,_,_,rfl⟩
theorem ajF(h:mD k e)(hk:k<=10000 * (d+1))(hy:zF d y)(hn':zF d n)(a:Int):Ae (d+1) (nY a e y n):=by
 refine⟨ajG a h.ok hy.ok hn'.ok,λc=>J3 ?_,?_⟩
 .show(qy n (qy y ((e.does.look c).want (e.does.jW c.jy) e.at' 2))).jy=c.jy;rw[hn'.jy,hy.jy,wE,h.jy]
 rintro w lo hi T b C c ⟨b',us,hv,h1,h2,⟨m,k',u,v,z,rfl,hm1,hm2,Ul,hu,hv2,hz⟩,hb⟩ hC hc hn;cases hv;obtain⟨T1,b1,f1,rfl,hT1,l1,l2,m1,kM,H1⟩:=h.use (C:=C) (c:=c) hu (by omega) hc (by omega);have kM:∀args w,(callFunc f1 args).run prog w=.ok (.enter f1 args) w:=kM;have H1:Hid (Calls prog f1 #[Pt b1 0,Pt C 0] w λen w'=>en=.returned (.tuple #[])/\nU e e.at' w w' lo m (.iface T1 (Pt b1 0)) b1 C c):=H1;obtain⟨ya,yn,yc,rfl⟩:=Jz hv2;obtain⟨na,nn,nc,rfl⟩:=Jz hz;have c2:=jK 2 hb rfl;have HB:=jA hb;have HC:Hid (mD k e/\zF d y/\zF d n/\c.jy.length+10000 * d<=800000/\mW y w m k' (.slice ya yn yc)/\mW n w k' b (.slice na nn nc)):=⟨h,hy,hn',by omega,hv2,hz⟩;refine⟨338,λw=>by kernel_rfl,λargs w=>by kernel_rfl,?_⟩;clear hu hb hc hn hv2 hz hy hn' h;go_enter func338,ntmps338;go_wp2_with fail;refine H1.out.mono ?_;rintro en w1 ⟨rfl,L1⟩;have hb1:=(L1.keep.keep b (by omega) (je (by omega))).trans HB.out;have e2:=jK 2 hb1 rfl;have HW:=jA (L1.want HC.out.1.ok 2 0);have HL:=jA L1;clear L1 hb1 H1;go_wp2_with fail;refine HW.out.mono ?_;rintro en w2 ⟨rfl,p1,p2⟩;have q2:=HL.out.keep.trans (p2.all _ _);have hb2:=(q2.keep b (by omega) (je (by omega))).trans HB.out;have e3:=jK 3 hb2 rfl;have hy2:=HC.out.2.1.law.lk HC.out.2.2.2.2.1 q2 (by omega) (je (aj _));have he2:=(HC.out.1.ok.law _).lk HL.out.here p2 (by omega) (je (bD _));have hnm:((e.does.look c).want (e.does.jW c.jy) e.at' 2).jy=c.jy:=by rw[wE,HC.out.1.jy]
 have HY:=jA (HC.out.2.1.look _ _ _ _ C _ hy2 (by omega) p1 (by rw[hnm];exact HC.out.2.2.2.1));have lT:=jA (jd q2 (jd he2 hnm));clear p1 p2 q2 hb2 hy2 he2 hnm HW;go_wp2_with fail;refine HY.out.mono ?_;rintro en w3 ⟨rfl,r1,r2,r3⟩;have q3:=(lT.out.1.wide (aj _) hm2).trans (r3.wide hm1 (aj _));have hb3:=(q3.keep b (by omega) (je (by omega))).trans HB.out;have e4:=jK 4 hb3 rfl;have hn3:=HC.out.2.2.1.law.lk HC.out.2.2.2.2.2 q3 (by omega) (je (aj _));have he3:=(HC.out.1.ok.law _).lk lT.out.2.1 r3 (by omega) (jf (aj _));have HZ:=jA (HC.out.2.2.1.look _ _ _ _ C _ hn3 (by omega) r2 (by rw[HC.out.2.1.jy,lT.out.2.2];exact HC.out.2.2.2.1));have qA:=jA (jd q3 (jd he3 r1));clear r1 r2 r3 q3 hb3 hn3 he3 HY;go_wp2_with fail;refine HZ.out.mono ?_;rintro en w4 ⟨rfl,r1,r2,r3⟩;have HE:Hid ((nY a e y n).here w4 lo hi (.iface 339 (Pt b 0))/\kY w4 C ((nY a e y n).does.look c)/\Lk w w4 lo hi C):=by
  have q4:=(qA.out.1.wide (aj _) Ul).trans (r3.wide (by omega) (aj _));have hb4:=(q4.keep b (by omega) (je (aj _))).trans HB.out;have he4:=(HC.out.1.ok.law _).lk qA.out.2.1 r3 (by omega) (jf hm2);have hy4:=HC.out.2.1.law.lk qA.out.2.2 r3 (by omega) (jf (aj _));exact⟨⟨b,_,rfl,h1,h2,⟨m,k',_,_,_,rfl,hm1,hm2,Ul,he4,hy4,r1⟩,hb4⟩,r2,q4.wide (aj _) (by omega)⟩
 clear r1 r2 r3;go_wp2_with fail;go_end0;exact⟨rfl,HE.out⟩
theorem am8(hx:rD 100000 (mD k) x)(hk:k+1<=10000 * (d+1))(hl:zF d l)(a:Int)(t:Wd):Ae (d+1) (sG a t x l):=by
 obtain⟨tt,ta⟩:=t;have hns:∀c,(oz x.of x.jE c).jy=c.jy:=λc=>Nc _ _ _ λb hb=>(hx.all b hb).jy;refine⟨am9 a _ hx.ok hl.ok,λc=>J3 ?_,?_⟩
 .show((qy l ((oz x.of x.jE (c.nG tt ta)).add tt x.of false)).cut (oz x.of x.jE (c.nG tt ta)).jy.length).jy=c.jy;unfold Ck.cut;rw[hl.jy];unfold Ck.add;simp only[hns,Kr];simp
 rintro w lo hi T b C c ⟨b',us,hv,h1,h2,⟨m,u,v,rfl,hm1,hm2,hu,hv2⟩,hb⟩ hC hc hn;cases hv;obtain⟨S,fv,rfl,s1,s2,s3⟩:=wR hu;obtain⟨ya,yn,yc,rfl⟩:=Jz hv2;have c2:=jK 2 hb rfl;have c3:=jK 3 hb rfl;have HB:=jA hb;have HN:=jA (Tj hc tt ta (by omega));have HC:=jA (jd hx (jd hl (jd hns (jd hn (jd hu hv2)))));have N8:=jA (Kr c tt ta);refine⟨346,λw=>by kernel_rfl,λargs w=>by kernel_rfl,?_⟩;have hbC:b<C:=by omega
 clear hu hb hc hn hv2 hx hl hns s3;go_enter func346,ntmps346;go_wp2_with fail;refine HN.out.mono ?_;rintro en w0 ⟨rfl,p1,p2⟩;have hb0:=(p2.keep b hbC (je (bD _))).trans HB.out;have d4:=jK 4 hb0 rfl;have hs0:=HC.out.1.law.lk HC.out.2.2.2.2.1 p2 (by omega) (je (bD _));have HS:=jA (Ti HC.out.1 hs0 (by omega) p1 (by rw[N8.out];have:=HC.out.2.2.2.1;omega));have NZ:=jA p2;clear p1 p2 hb0 hs0 HN;go_wp2_with fail;refine HS.out.mono ?_;rintro en w1 ⟨rfl,r1,r2,r3⟩;have q1:=(NZ.out.all _ _).trans r3;have hb1:=(q1.keep b hbC (je hm2)).trans HB.out;have e2:=jK 2 hb1 rfl;have e3:=jK 3 hb1 rfl;have e4:=jK 4 hb1 rfl;obtain⟨S',Dh,hS',_,_,s3⟩:=wR r1;cases hS';have eS:=jK 3 s3 rfl;obtain⟨nl,hnl⟩:∃nl,(oz x.of x.jE (c.nG tt ta)).jy.length=nl:=⟨_,rfl⟩;have ab1:c.jy.length=nl:=by rw[<-hnl,HC.out.2.2.1,N8.out]
 obtain⟨v1,k1⟩:=r2;obtain⟨a1,cap1,rfl⟩:=Bc k1.row;have x0:w1.cell? (Ad C 0)=some (.slice a1 nl cap1):=by rw[<-hnl];exact jI k1.jM
 have hck1:kY w1 C (oz x.of x.jE (c.nG tt ta)):=⟨_,k1⟩;have Gu:Hid (∀n,Calls prog 326 #[Pt C 0,.agg #[.string tt,Im ta],Im x.of,.bool false] (w1.drewN n) λen w'=>en=.returned (.tuple #[])/\kY w' C ((oz x.of x.jE (c.nG tt ta)).add tt x.of false)/\Lk w1 w' 0 0 C):=λn=>by
  refine(Td (hck1.grow (lK w1 n)) tt ta _ false (by rw[hnl];have:=HC.out.2.2.2.1;omega)).mono ?_;rintro en w' ⟨r1,r2,r3⟩;exact⟨r1,r2,(Lk.grown (lK w1 n) hck1.lt).trans r3⟩
 have mg:Hid (Lk w w1 lo m C/\oW x w1 lo m (Pt S 0)/\(oz x.of x.jE (c.nG tt ta)).jy.length=nl/\c.jy.length=nl):=⟨q1,r1,hnl,ab1⟩;clear r1 r3 q1 hb1 s3 hnl ab1 k1 hck1 HS;go_wp2_with fail;refine nP 12 (by kernel_rfl) (by kernel_rfl) ?_;simp only[aC,aO,aG,aQ];repeat (go_big_quiet_step (fail))
 refine bF ?_;intro _ hw';obtain⟨n3,hw''⟩:=hw';subst hw'';go_wp2_with fail;refine(Gu.out _).mono ?_;rintro en w2 ⟨rfl,p1,p2⟩;have q2:=mg.out.1.trans (p2.all _ _);have hb2:=(q2.keep b hbC (je hm2)).trans HB.out;have g5:=jK 5 hb2 rfl;have hl2:=HC.out.2.1.law.lk HC.out.2.2.2.2.2 q2 (by omega) (je (aj _));have hs2:=HC.out.1.law.lk mg.out.2.1 p2 (by omega) (je (bD _));have hna:((oz x.of x.jE (c.nG tt ta)).add tt x.of false).jy.length=nl+1:=by
  unfold Ck.add;simp only[aA,aF,bg,mg.out.2.2.1]
 have HY:=jA (HC.out.2.1.look _ _ _ _ C _ hl2 (by omega) p1 (by rw[hna];have:=HC.out.2.2.2.1;have:=mg.out.2.2.2;omega));have lT:=jA (jd q2 (jd hs2 hna));clear p1 p2 q2 hb2 hl2 hs2 hna Gu;go_wp2_with fail;refine HY.out.mono ?_;rintro en w3 ⟨rfl,r1,r2,r3⟩;have hn3:(qy l ((oz x.of x.jE (c.nG tt ta)).add tt x.of false)).jy.length=nl+1:=by rw[HC.out.2.1.jy];exact lT.out.2.2
 obtain⟨a5,cap5,z1,z2,z3,z4,z5⟩:=r2.back (n:=nl) (by omega);rw[hn3]at z1;have HE:Hid ((sG a ⟨tt,ta⟩ x l).here (w3.setCell (Ad C 0) (.slice a5 nl cap5)) lo hi (.iface 349 (Pt b 0))/\kY (w3.setCell (Ad C 0) (.slice a5 nl cap5)) C ((sG a ⟨tt,ta⟩ x l).does.look c)/\Lk w (w3.setCell (Ad C 0) (.slice a5 nl cap5)) lo hi C):=by
  have q4:=((lT.out.1.wide (aj _) hm2).trans (r3.wide hm1 (aj _))).trans (z5.all _ _);have hb4:=(q4.keep b hbC (je (aj _))).trans HB.out;have hs4:=HC.out.1.law.lk (HC.out.1.law.lk lT.out.2.1 r3 (by omega) (jf (aj _))) z5 (by omega) (je (bD _));have hl4:=HC.out.2.1.law.lk r1 z5 (by omega) (je (bD _));refine⟨⟨b,_,rfl,h1,h2,⟨m,_,_,rfl,hm1,hm2,hs4,hl4⟩,hb4⟩,?_,q4.wide (aj _) (by omega)⟩;show kY _ C ((qy l ((oz x.of x.jE (c.nG tt ta)).add tt x.of false)).cut (oz x.of x.jE (c.nG tt ta)).jy.length);rw[mg.out.2.2.1];exact z4
 clear r1 r2 r3 z4 z5 hn3 HY;have j0:(0:Int)<=(nl:Int):=by omega
 have j1:(nl:Int)<=(cap5:Int):=by omega
 go_wp2_with fail;go_end0;exact⟨rfl,HE.out⟩
theorem am4(N:Nat)(hN:N<=100000)(d:Nat):KX N (mD d) (mD (d+1)) (zF d) (Ae (d+1)) where
 jw:=λ_ h=>h.ok.jw
 Qe:=λa t _ h=>anT h (by omega) a t
 QY:=λt _ h=>asr h (by omega) t
 Rh:=λa i _ h=>as9 h (by omega) a i
 QD:=λa _ _ h k=>apW h k (by omega) a
 returning:=λa=>aq7 _ a
 choice:=λa _ _ _ h hy hn=>ajF h (by omega) hy hn a
 loop:=λa t _ _ hx hl=>am8 ⟨hx.of,hx.all,dH hx.len hN,hx.jw,hx.sum⟩ (by omega) hl a t
end
section
variable {w w' w1 w2:jk}{C lo hi b:Nat}{c:Co}{u v:jm}{e f:Ex}{a:Int}{T:jo}{x:Sx}{l y n:List jG}
def PU(E F G:Hx.sV):Hx.Kids:=λw lo hi us=>∃u v z,us=[u,v,z]/\E w lo hi u/\F w lo hi v/\G w lo hi z
theorem amC{E F G:Hx.sV}(h:Lawful E)(k:Lawful F)(g:Lawful G):yK (PU E F G):=
 ⟨λ_ _ _ _ _ ⟨u,v,z,e,hu,hv,hz⟩ hk=>⟨u,v,z,e,h.loc _ _ _ _ _ hu hk,k.loc _ _ _ _ _ hv hk,g.loc _ _ _ _ _ hz hk⟩,λ_ _ _ _ _ _ ⟨u,v,z,e,hu,hv,hz⟩ l1 l2=>⟨u,v,z,e,h.wide _ _ _ _ _ _ hu l1 l2,k.wide _ _ _ _ _ _ hv l1 l2,g.wide _ _ _ _ _ _ hz l1 l2⟩⟩
theorem FU(h:wL l w lo hi v):∃ad cap,v=.slice ad l.length cap:=by
 rcases h with⟨hf,rfl⟩|⟨g,cap,arr,rfl,_⟩
 .exact⟨none,0,by rw[hf];rfl⟩
 .exact⟨_,_,rfl⟩
theorem VN{k m o:Int}(h0:0<=k)(hk:k<=1000001)(g0:0<=m)(hm:m<=1000001)(f0:0<=o)(ho:o<=1000001)(h:jR [k,m,o]<=1000000):jR [k,m,o]=1+(k+m+o):=by
 have h1:=(yu [k,m,o] (by simp;omega)).1;unfold jR at h⊢;have h2:=Gl (a:=1) h1 h;rw[h2]at h⊢;unfold lu at h⊢;simp only[bP,eF]at h⊢;omega
structure ahn(e:Ex)(y n:List jG)(c rc:Co)(rs:Int):Prop where
 h1:e.does.give c (-1)=(rc,rs)
theorem Tc{rc:Co}{rs:Int}(h:ahn e y n c rc rs)(a:Int):(nY a e y n).does.lay c=(if 0<n.length then kZ n ((kZ y ((rc.jX c.free).lay 2 [rs])).lay 3 [])else kZ y ((rc.jX c.free).lay 2 [rs])).lay 0 []:=by
 show(if 0<n.length then kZ n ((kZ y (((e.does.give c (-1)).1.jX c.free).lay 2 [(e.does.give c (-1)).2])).lay 3 [])else kZ y (((e.does.give c (-1)).1.jX c.free).lay 2 [(e.does.give c (-1)).2])).lay 0 []=_;rw[h.h1]
theorem aas(he:kC e)(hy:tK y)(hn:tK n)(a:Int){k:Int}(hk1:1<=k/\k<=1000001)(hke:k<=1000000->1+(e.jw+sumOf y+sumOf n)<=k):qg (wM 339 341 a k (PU (e.here e.at') (wL y) (wL n)) (λus=>us++[.bool false]) {lay:=(zI e y n).lay}):=by
 have ec:=he.ok.jw;have yc:=rH hy.ok;have nc:=rH hn.ok;refine⟨H8 (by simp[o7]) (amC (he.ok.law _) hy.zQ hn.zQ) hk1,hk1.1,λc=>Ik ?_,λc hk=>?_,?_⟩
 .obtain⟨r,hr⟩:∃r,e.does.give c (-1)=r:=⟨_,rfl⟩;obtain⟨rc,rs⟩:=r;have hnm:=he.jy c (-1);rw[hr]at hnm;refine Eq.trans (congrArg Co.jy (Tc ⟨hr⟩ a)) ?_;rw[Hr];split
  .rw[hn.jy,Hr,hy.jy];exact hnm
  .rw[hy.jy];exact hnm
 .obtain⟨r,hr⟩:∃r,e.does.give c (-1)=r:=⟨_,rfl⟩;obtain⟨rc,rs⟩:=r;have hk:=hk;have hp:=hke hk;have h1:=he.len c (-1) (by omega);rw[hr]at h1;have h2:=oO (rc.jX c.free) 2 [rs];have h3:=hy.len ((rc.jX c.free).lay 2 [rs]) (by omega);have h4:=oO (kZ y ((rc.jX c.free).lay 2 [rs])) 3 [];have h5:=hn.len ((kZ y ((rc.jX c.free).lay 2 [rs])).lay 3 []) (by omega);have h6:=oO (if 0<n.length then kZ n ((kZ y ((rc.jX c.free).lay 2 [rs])).lay 3 [])else kZ y ((rc.jX c.free).lay 2 [rs])) 0 [];simp only[aF,bg,EH]at h1 h2 h4 h6;have hcl:(wM 339 341 a k (PU (e.here e.at') (wL y) (wL n)) (λus=>us++[.bool false]) {lay:=(zI e y n).lay}).does.lay c=_:=Tc ⟨hr⟩ a;rw[hcl];show _<=(c.code.length:Int)+200 * k;split at h6<;>rename_i hc0<;>simp only[hc0,dM,cZ]<;>omega
 rintro w lo hi T b C c ⟨b',us,hv,h1,h2,⟨u,v,z,rfl,hu,hv2,hz⟩,hb⟩ hC hc hr;cases hv;have hr:Room c (k):=hr;have hp:=hke hr.jw;have hrc:=hr.code;have hrn:=hr.jy;have hrk:=hr.jw;obtain⟨T1,b1,rfl,_⟩:=he.ok.head _ _ _ _ _ hu;obtain⟨ya,CP,hvf⟩:=FU hv2;obtain⟨yn,hyn⟩:∃yn,y.length=yn:=⟨_,rfl⟩;rw[hyn]at hvf;subst hvf;obtain⟨f1,m1,kM,H1⟩:=he.give _ _ _ _ _ _ C c (-1) hu (by omega) hc (hr.less (by omega));have kM:∀args w,(callFunc f1 args).run prog w=.ok (.enter f1 args) w:=kM;have hl1:=he.len c (-1) (by omega);have hn1:=he.jy c (-1);obtain⟨r,hgr⟩:∃r,e.does.give c (-1)=r:=⟨_,rfl⟩;obtain⟨rc,rs⟩:=r;rw[hgr]at H1 hl1 hn1;simp only at hl1 hn1;have H1:=jA (H1);have hcl:(wM 339 341 a k (PU (e.here e.at') (wL y) (wL n)) (λus=>us++[.bool false]) {lay:=(zI e y n).lay}).does.lay c=_:=Tc ⟨hgr⟩ a;rw[hcl];clear hcl;obtain⟨v0,JR,h0⟩:=hc;have c2:=jK 2 h0.jM rfl;clear h0;generalize c.free=fr at *;have hbC:b<C:=by omega
 have rJ:=jA (λq (hq:Gk w q C)=>(hq.keep b hbC).trans hb);have k2:=oO (rc.jX fr) 2 [rs];simp only[aF,bg,EH]at k2;have k3:=hy.len ((rc.jX fr).lay 2 [rs]) (by omega);have MN:=hy.jy ((rc.jX fr).lay 2 [rs]);have HY:=jA (λq (hq:Gk w q C)(hg:kD q C ((rc.jX fr).lay 2 [rs]))=>hy.lay _ _ _ _ _ _ (hy.zQ.gk hv2 hq (by omega)) hC hg ⟨by omega,by omega,by show(rc.jy.length:Int)+_<=_;rw[hn1];omega⟩);have k4:=oO (kZ y ((rc.jX fr).lay 2 [rs])) 3 [];simp only[bg]at k4;have EU:=jA (λq (hq:Gk w q C)(hg:kD q C ((kZ y ((rc.jX fr).lay 2 [rs])).lay 3 []))=>hn.lay _ _ _ _ _ _ (hn.zQ.gk hz hq (by omega)) hC hg ⟨by omega,by omega,by show((kZ y ((rc.jX fr).lay 2 [rs])).jy.length:Int)+_<=_;rw[MN];show(rc.jy.length:Int)+_<=_;rw[hn1];omega⟩);have k5:=hn.len ((kZ y ((rc.jX fr).lay 2 [rs])).lay 3 []) (by omega);have l1:(rc.jX fr).code.length<=850000000:=by rw[EH];omega
 have l2:(kZ y ((rc.jX fr).lay 2 [rs])).code.length<=850000000:=by omega
 have l3:(kZ n ((kZ y ((rc.jX fr).lay 2 [rs])).lay 3 [])).code.length<=850000000:=by omega
 obtain⟨za,zc,hzf⟩:∃za zc,z=.slice za n.length zc:=by
  exact FU hz
 subst hzf;have d1:=jK 2 (rJ.out w (Gk.refl _ _)) rfl;have d5:=jK 5 (rJ.out w (Gk.refl _ _)) rfl;refine⟨337,λw=>by kernel_rfl,λargs w=>by kernel_rfl,?_⟩;clear hu hv2 hz hb hr hrc hrn hrk hl1 hn1 k2 k3 MN k4 k5 hp hy hn he hgr hyn hke;generalize kZ n ((kZ y ((rc.jX fr).lay 2 [rs])).lay 3 [])=cN at *;generalize Ue:kZ y ((rc.jX fr).lay 2 [rs])=cY at *;clear Ue;obtain⟨cR,hcR⟩:∃cR,cR=(if 0<n.length then cN else cY):=⟨_,rfl⟩;rw[<-hcR];have HR:=jA hcR;clear hcR;have wV:=jA (λq (hq:kD q C cY)=>FM hq 3 (by omega));go_enter func337,ntmps337;go_wp2_with fail;refine H1.out.mono ?_;rintro e1 w1 ⟨rfl,⟨v1,zT,p1⟩,q1⟩;have g2:=jK 2 p1.jM rfl;have fz:=qV p1.jM;have mg:Hid (kD (w1.setCell (Ad C 2) (Im fr)) C (rc.jX fr)/\Gk w (w1.setCell (Ad C 2) (Im fr)) C):=⟨⟨v1,zT,p1.jX fr⟩,q1.trans (Gk.free _ _ _)⟩;have HL:Hid (Calls prog 92 #[Pt C 0,.int .u8 2,.slice (some (Ad w1.heap.size 0)) 1 1] ((w1.setCell (Ad C 2) (Im fr)).alloc (.cells #[Im rs] 3)) λe w'=>e=.returned (.tuple #[])/\kD w' C ((rc.jX fr).lay 2 [rs])/\Gk (w1.setCell (Ad C 2) (Im fr)) w' C):=by
  have h9:=abm mg.out.1 2 rs (by omega);have hsz:(w1.setCell (Ad C 2) (Im fr)).heap.size=w1.heap.size:=by simp[World.setCell]
  rw[hsz]at h9;exact h9
 clear p1 q1 H1;go_wp2_with fail;refine HL.out.mono ?_;rintro e2 w2 ⟨rfl,p2,q2⟩;have hb2:=rJ.out w2 (mg.out.2.trans q2);have d3:=jK 3 hb2 rfl;have lT:=jA (jd p2 (mg.out.2.trans q2));clear p2 q2 hb2 HL mg;go_wp2_with fail;refine(HY.out w2 lT.out.2 lT.out.1).mono ?_;rintro e3 w3 ⟨rfl,p3,q3⟩;have hb3:=rJ.out w3 (lT.out.2.trans q3);have d4:=jK 4 hb3 rfl;have qA:=jA (jd p3 (lT.out.2.trans q3));clear p3 q3 hb3 HY lT d3;by_cases hnl:0<n.length
 .have hcR:cR=cN:=by have h9:=HR.out;rw[jh hnl]at h9;exact h9
  subst hcR;clear HR;have dn:decide ((0:Int)<(n.length:Int))=true:=by simp;omega
  generalize n.length=nn at *;go_wp2_with fail;refine(wV.out w3 qA.out.1).mono ?_;rintro e4 w4 ⟨rfl,p4,q4⟩;have hb4:=rJ.out w4 (qA.out.2.trans q4);have d6:=jK 4 hb4 rfl;have tJ:=jA (jd p4 (qA.out.2.trans q4));clear p4 q4 hb4 wV qA d4;go_wp2_with fail;refine(EU.out w4 tJ.out.2 tJ.out.1).mono ?_;rintro e5 w5 ⟨rfl,p5,q5⟩;have qN:=jA (FM p5 0 (by omega));have xK:=jA (tJ.out.2.trans q5);clear p5 q5 EU tJ;go_wp2_with fail;refine qN.out.mono ?_;rintro e6 w6 ⟨rfl,p6,q6⟩;have HE:=jA (jd p6 (xK.out.trans q6));clear p6 q6 qN xK;go_wp2_with fail;go_end0;exact⟨rfl,HE.out⟩
 .have hcR:cR=cY:=by have h9:=HR.out;rw[jg hnl]at h9;exact h9
  subst hcR;clear HR;have dn:=dO (by omega);generalize n.length=nn at *;have l4:cR.code.length<=900000000:=dH l2 (by decide);have qN:=jA (FM qA.out.1 0 l4);have tJ:=jA qA.out.2;clear qA;go_wp2_with fail;refine qN.out.mono ?_;rintro e6 w6 ⟨rfl,p6,q6⟩;have HE:=jA (jd p6 (tJ.out.trans q6));clear p6 q6 qN tJ;go_wp2_with fail;go_end0;exact⟨rfl,HE.out⟩
theorem aat(he:kC e)(hy:tK y)(hn:tK n)(a:Int):qg (nY a e y n):=by
 have ec:=he.ok.jw;have yc:=rH hy.ok;have nc:=rH hn.ok;refine(aas he hy hn a ⟨yh (by simp;exact⟨ec,yc,nc⟩),(Ib ec yc nc).2⟩ (λhk=>by rw[VN ec.1 ec.2 yc.1 yc.2 nc.1 nc.2 hk];omega)).of (uK (by simp[o7]) (MP (he.ok.law _) hy.law hn.law) (Ib ec yc nc))
  (λ_ _ _ _ h=>JL (λ_ _ _ _ _ ⟨m,o,u,v,z,e',h1,h2,h3,hu,hv,hz⟩ hb=>⟨u,v,z,e',(he.ok.law _).wide _ _ _ _ _ _ hu (aj _) (by omega),hy.zQ.wide _ _ _ _ _ _ (hy.flat hv) h1 (by omega),hn.zQ.wide _ _ _ _ _ _ (hn.flat hz) (by omega) hb⟩) h) rfl rfl
theorem U5{t:Wd}{fc:Co}{fs:Int}(h:c.nk (jP x.base) x.jE=(fc,fs))(a:Int):(sG a t x l).does.lay c=(((kZ l ((fc.lay 4 [jP x.base,fs,fs]).know t.text fs)).lay 0 []).cut c.jy.length).jX c.free:=by
 show(((kZ l (((c.nk (jP x.base) x.jE).1.lay 4 [jP x.base,(c.nk (jP x.base) x.jE).2,(c.nk (jP x.base) x.jE).2]).know t.text (c.nk (jP x.base) x.jE).2)).lay 0 []).cut c.jy.length).jX c.free=_;rw[h]
theorem adf(hall:∀b∈x.jE,kC b.2)(xc:0<=x.jw/\x.jw<=1000001)(hl:tK l)(a:Int)(t:Wd){k:Int}(hk1:1<=k/\k<=1000001)(hsg:k<=1000000->wG x/\sumOf l<=1000000/\2+x.jw+sumOf l<=k):qg (wM 349 351 a k (AP (Bd x) (wL l)) (λus=>.string t.text::Im t.at'::us) (Nh t x l)):=by
 have lc:=rH hl.ok;have rW:=Gf λb hb a=>(hall b hb).ok.law a;have hfn:∀c:Co,(c.nk (jP x.base) x.jE).1.jy=c.jy:=λc=>by
  have:=(SH hall 0 0 1000001 ⟨#[]⟩ (by omega) (λh=>jl h (by omega)) {give:=Dc ⟨#[]⟩ x.base x.jE} rfl).jy c (-1);have e0:(Dc ⟨#[]⟩ x.base x.jE c (-1)).1.jy=(c.nk (jP x.base) x.jE).1.jy:=by
   show((((c.nk (jP x.base) x.jE).1.jX c.free).choose (-1)).1.lay _ _).jy=_;rw[Hr,Jd,QO]
  rw[<-e0];exact this
 obtain⟨tt,ta⟩:=t;refine⟨H8 (by simp[o7]) (PV rW hl.zQ) hk1,hk1.1,λc=>Ik ?_,λc hk=>?_,?_⟩
 .obtain⟨r,hr⟩:∃r,c.nk (jP x.base) x.jE=r:=⟨_,rfl⟩;obtain⟨fc,fs⟩:=r;have h1:=hfn c;rw[hr]at h1;refine Eq.trans (congrArg Co.jy (U5 (t:=⟨tt,ta⟩) hr a)) ?_;show((kZ l ((fc.lay 4 [jP x.base,fs,fs]).know tt fs)).jy.take c.jy.length)=c.jy;rw[hl.jy];show((fc.jy++[(tt,fs)]).take c.jy.length)=c.jy;simp only at h1;rw[h1];simp
 .obtain⟨r,hr⟩:∃r,c.nk (jP x.base) x.jE=r:=⟨_,rfl⟩;obtain⟨fc,fs⟩:=r;obtain⟨hs,hsl,hp⟩:=hsg hk;have h1:=OM (c:=c) hs (jP x.base);rw[hr]at h1;have h2:=oO fc 4 [jP x.base,fs,fs];have h3:=hl.len ((fc.lay 4 [jP x.base,fs,fs]).know tt fs) hsl;have h4:=oO (kZ l ((fc.lay 4 [jP x.base,fs,fs]).know tt fs)) 0 [];have h5:((fc.lay 4 [jP x.base,fs,fs]).know tt fs).code=(fc.lay 4 [jP x.base,fs,fs]).code:=rfl;rw[h5]at h3;simp only[aF,bg]at h1 h2 h4;have hll:(wM 349 351 a k (AP (Bd x) (wL l)) (λus=>.string (⟨tt,ta⟩:Wd).text::Im (⟨tt,ta⟩:Wd).at'::us) (Nh ⟨tt,ta⟩ x l)).does.lay c=_:=U5 (t:=⟨tt,ta⟩) hr a;rw[hll];show(((kZ l ((fc.lay 4 [jP x.base,fs,fs]).know tt fs)).lay 0 []).code.length:Int)<=(c.code.length:Int)+200 * k;omega
 rintro w lo hi T b C c ⟨b',us,hv,h1,h2,⟨u,v,rfl,hu,hv2⟩,hb⟩ hC hc hr;cases hv;have hr:Room c (k):=hr;obtain⟨hs,hsl,hp⟩:=hsg hr.jw;have hrc:=hr.code;have hrn:=hr.jy;have hrk:=hr.jw;obtain⟨S,fv,rfl,s1,s2,hS,_⟩:=id hu;obtain⟨ya,yc,hvf⟩:=FU hv2;obtain⟨yn,hyn⟩:∃yn,l.length=yn:=⟨_,rfl⟩;rw[hyn]at hvf;subst hvf;have hbC:b<C:=by omega
 have rJ:=jA (λq (hq:Gk w q C)=>(hq.keep b hbC).trans hb);have IG:=jA (λq (hq:Gk w q C)=>TR ((hq.keep S (by omega)).trans hS));have HF:=λn=>(abj hs rW (rW.gk hu (Gk.grown (lK w n) hc.lt) (by omega)) hC (hc.grow (lK w n)) (hr.less (by omega)) (by omega)).mono (R':=λen w'=>en=.returned (Im (c.nk (jP x.base) x.jE).2)/\kD w' C (c.nk (jP x.base) x.jE).1/\Gk w w' C) λen w' ⟨q1,q2,q3⟩=>⟨q1,q2,(Gk.grown (lK w n) hc.lt).trans q3⟩;have k1:=OM (c:=c) hs (jP x.base);have Ju:=hfn c;obtain⟨r,hfr⟩:∃r,c.nk (jP x.base) x.jE=r:=⟨_,rfl⟩;obtain⟨fc,fs⟩:=r;rw[hfr]at HF k1 Ju;simp only at k1 Ju;have HF:=jA (HF);have hll:(wM 349 351 a k (AP (Bd x) (wL l)) (λus=>.string (⟨tt,ta⟩:Wd).text::Im (⟨tt,ta⟩:Wd).at'::us) (Nh ⟨tt,ta⟩ x l)).does.lay c=_:=U5 (t:=⟨tt,ta⟩) hfr a;rw[hll];clear hll;have k2:=oO fc 4 [jP x.base,fs,fs];simp only[aF,bg]at k2;have k3:=hl.len ((fc.lay 4 [jP x.base,fs,fs]).know tt fs) hsl;have UK:((fc.lay 4 [jP x.base,fs,fs]).know tt fs).code=(fc.lay 4 [jP x.base,fs,fs]).code:=rfl;rw[UK]at k3;have MN:=hl.jy ((fc.lay 4 [jP x.base,fs,fs]).know tt fs);have HY:=jA (λq (hq:Gk w q C)(hg:kD q C ((fc.lay 4 [jP x.base,fs,fs]).know tt fs))=>hl.lay _ _ _ _ _ _ (hl.zQ.gk hv2 hq (by omega)) hC hg ⟨by omega,by rw[UK];omega,by show((fc.jy++[(tt,fs)]).length:Int)+_<=_;rw[Ju];simp only[aA,aF,bg];omega⟩);have Zd:=jA (λq (hq:kD q C (fc.lay 4 [jP x.base,fs,fs]))=>TQ hq tt ta fs (by show fc.jy.length<=_;rw[Ju];omega));have l1:fc.code.length<=850000000:=by omega
 have l2:(kZ l ((fc.lay 4 [jP x.base,fs,fs]).know tt fs)).code.length<=850000000:=by omega
 have ln:(kZ l ((fc.lay 4 [jP x.base,fs,fs]).know tt fs)).jy.length=c.jy.length+1:=by rw[MN];show(fc.jy++[(tt,fs)]).length=_;rw[Ju];simp
 obtain⟨a0,cap0,c1,_,c2,_⟩:=hc.leave (aj _) 0;have d4:=jK 4 (rJ.out w (Gk.refl _ _)) rfl;refine⟨345,λw=>by kernel_rfl,λargs w=>by kernel_rfl,?_⟩;clear hu hv2 hb hr hrc hrn hrk k1 Ju k2 k3 UK MN hp hl hfr hc hs hsl hsg hfn rW hS hyn;generalize Ue:kZ l ((fc.lay 4 [jP x.base,fs,fs]).know tt fs)=cY at *;clear Ue;generalize jP x.base=ls at *;generalize c.free=fr at *;generalize hnl:c.jy.length=nl at *;go_enter func345,ntmps345;go_wp2_with fail;go_quiet (fail);go_wp2_with fail;refine(HF.out _).mono ?_;rintro en w1 ⟨rfl,p1,q1⟩;have hb1:=rJ.out w1 q1;have e4:=jK 4 hb1 rfl;have xM:=jA (O5 p1 4 ls fs fs (by omega));have mg:=jA q1;clear p1 q1 hb1 HF;go_wp2_with fail;refine(IG.out _ mg.out).mono ?_;rintro en w1' ⟨rfl,rfl⟩;go_wp2_with fail;refine xM.out.mono ?_;rintro en w2 ⟨rfl,p2,q2⟩;have hb2:=rJ.out w2 (mg.out.trans q2);have f2:=jK 2 hb2 rfl;have f3:=jK 3 hb2 rfl;have lT:=jA (jd p2 (mg.out.trans q2));clear p2 q2 hb2 xM mg e4;go_wp2_with fail;refine(Zd.out w2 lT.out.1).mono ?_;rintro en w3 ⟨rfl,p3,q3⟩;have hb3:=rJ.out w3 (lT.out.2.trans q3);have g5:=jK 5 hb3 rfl;have qA:=jA (jd p3 (lT.out.2.trans q3));clear p3 q3 hb3 Zd lT f2 f3;go_wp2_with fail;refine(HY.out w3 qA.out.2 qA.out.1).mono ?_;rintro en w4 ⟨rfl,p4,q4⟩;have qN:=jA (FM p4 0 (by omega));have tJ:=jA (qA.out.2.trans q4);clear p4 q4 HY qA g5;go_wp2_with fail;refine qN.out.mono ?_;rintro en w5 ⟨rfl,p5,q5⟩;have hle:nl<=(cY.lay 0 []).jy.length:=by rw[Hr,ln];omega
 obtain⟨a5,cap5,z1,z2,z3,z4,z5,z6⟩:=p5.leave hle fr;have HE:=jA (jd z5 ((tJ.out.trans q5).trans z6));have j0:(0:Int)<=(nl:Int):=by omega
 have j1:(nl:Int)<=(cap5:Int):=by omega
 clear p5 q5 z5 z6 qN tJ;generalize (cY.lay 0 []).jy.length=nm at *;go_wp2_with fail;go_end0;exact⟨rfl,HE.out⟩
theorem adg{N:Nat}(hN:N<=100000)(hx:rD N kC x)(hl:tK l)(a:Int)(t:Wd):qg (sG a t x l):=by
 have lc:=rH hl.ok;have xc:=hx.jw;have rc:=uo (x:=x) lc;have hb0:∀b∈x.jE,∀a,Lawful (b.2.here a):=λb hb a=>(hx.all b hb).ok.law a;refine(adf hx.all xc hl a t ⟨yh (by simp;exact⟨xc,rc⟩),(rG xc rc).2⟩ (λhk=>?_)).of (uK (by simp[o7]) (wJ (NJ hb0) hl.law) (rG xc rc))
  (λ_ _ _ _ h=>JL (λ_ _ _ _ _ ⟨m,u,v,e',h1,h2,hu,hv⟩ hb=>⟨u,v,e',(Gf hb0).wide _ _ _ _ _ _ (WJ hb0 hu) (aj _) (by omega),hl.zQ.wide _ _ _ _ _ _ (hl.flat hv) h1 hb⟩) h) rfl rfl
 have hp:=zU xc.1 xc.2 rc.1 rc.2 hk;have hg:=NG (x:=x) lc.1 (by omega);exact⟨wG.of hN hx (by omega),by omega,by omega⟩
theorem amG(N:Nat)(hN:N<=100000):KX N kC kC tK qg where
 jw:=λ_ h=>h.ok.jw
 Qe:=λa t _ h=>ads h a t
 QY:=λt _ h=>afW h t
 Rh:=λa i _ h=>agr h a i
 QD:=λa _ _ h k=>aeU h k a
 returning:=λa=>V3 a
 choice:=λa _ _ _ h hy hn=>aat h hy hn a
 loop:=λa t _ _ hx hl=>adg hN hx hl a t
theorem as6(s:ji)(hs:s.size<=4000)(d:Nat)(p:Ps):tK (lZ s d p).1:=
 Q9 s (λ_=>kC) (λ_=>qg) (λ_=>tK) (aku s hs) (λ_=>amG (s.size+1) (by omega)) (λ_=>Ht (by simp)) (λ_ _ _ h=>Ht h) d p
end
section
variable {s:ji}{ex ex':Ps->Ex×Ps}{d:Nat}{p:Ps}
def uD(fn:FuncId)(s:ji)(p:Ps)(r:jG×Ps):Prop:=
 ∀(P:Nat)(w:jk),jQ w P s p->Calls prog fn #[Pt P 0] w λe w'=>∃v,e=.returned v/\r.1.here w' w.heap.size w'.heap.size v/\jQ w' P s r.2/\w.grownBy w' (some P)
def GK(fn:FuncId)(s:ji)(p:Ps)(r:List jG×Ps):Prop:=
 ∀(P:Nat)(w:jk),jQ w P s p->Calls prog fn #[Pt P 0] w λe w'=>∃v,e=.returned v/\mW r.1 w' w.heap.size w'.heap.size v/\jQ w' P s r.2/\w.grownBy w' (some P)
theorem arb(hs:s.size<=4000)(ok:p.Ok s)(ht:p.is [114,101,116,117,114,110]=true):uD 224 s p (JZ s p):=by
 intro P w h;have g1:=nZ ok (oU (by simp) ht);have HN:Hid (Calls prog 236 #[Pt P 0] w (qO P s w (.agg #[Im p.k.kind,.string p.k.text,Im p.k.at']) (p.next s))):=xw h ok hs;have HE:=jA (λx (hx:jQ x P s (p.next s))=>Ef hx g1.ok hs [59]);have hfa:=LP p.k.kind p.k.at' p.k.text;show Calls prog 224 #[Pt P 0] w λe w'=>∃v,e=.returned v/\(yH p.k.at').here w' w.heap.size w'.heap.size v/\jQ w' P s ((p.next s).expect s [59])/\w.grownBy w' (some P);generalize (p.next s).expect s [59]=q2 at *;generalize p.next s=q at *;generalize p.k.kind=kk at *;generalize p.k.text=kt at *;generalize p.k.at'=ka at *;clear h g1 ok ht;go_enter func224,ntmps224;go_wp2_with fail;refine HN.out.mono ?_;rintro e w1 ⟨rfl,p1,g1⟩;have kJ:=jA (jd p1 g1);clear p1 g1 HN;go_wp2_with fail;refine(HE.out _ kJ.out.1).mono ?_;rintro e w2 ⟨rfl,p2,g2⟩;have HP2:=jA (jd p2 (kJ.out.2.trans g2));clear p2 g2 HE kJ;go_wp2_with fail;refine(Qn ka _).mono ?_;rintro e w3 ⟨rfl,g3⟩;have lI:=jA (jd (HP2.out.1.grow g3) (HP2.out.2.trans (g3.but _)));clear g3 HP2;go_wp2_with fail;go_ret;exact⟨_,rfl,JM Cc rfl lI.out.2.size rfl,lI.out.1.grow (ah _ _ none),lI.out.2.trans ((ah _ _ none).but _)⟩
theorem atd(hs:s.size<=4000)(h:Reader s ex (d+1))(ok:p.Ok s)(hd:Deep (d+1) p)(hk:p.k.kind=4):uD 221 s p (Ir s ex p):=by
 intro P w hp;have g1:=nZ ok (H9 (by rw[hk];decide));obtain⟨g2,x2⟩:=Jj h.good g1.ok (hd.good g1);have c3:=kG.c3 hp;have HR:=jA (afc hp ok hs hk);have HG:=jA (λx (hx:jQ x P s (p.next s))=>TU hs h g1.ok (hd.good g1) P x hx);show Calls prog 221 #[Pt P 0] w λe w'=>∃v,e=.returned v/\(mY p.k.at' ((p.k.text.data.toList.getD 1 0).toNat-48) (qF s ex (p.next s)).1).here w' w.heap.size w'.heap.size v/\jQ w' P s (qF s ex (p.next s)).2/\w.grownBy w' (some P);have HX:Hid (kV (qF s ex (p.next s)).1):=x2;generalize ((p.k.text.data.toList.getD 1 0).toNat:Int)-48=i at *;generalize qF s ex (p.next s)=r at *;generalize p.next s=q at *;generalize p.k.at'=ka at *;clear hp g1 g2 x2 ok hd hk h;go_enter func221,ntmps221;go_wp2_with fail;refine HR.out.mono ?_;rintro e w1 ⟨rfl,p1,g1⟩;have kJ:=jA (jd p1 g1);clear p1 g1 HR;go_wp2_with fail;refine(HG.out _ kJ.out.1).mono ?_;rintro e w2 ⟨v,rfl,e2,p2,g2⟩;obtain⟨T,A,rfl,hmp,b1,b2,a1⟩:=HX.out.rZ e2;have HP2:=jA (jd e2 (jd p2 g2));have zA:=jA (uh A 0 _ a1);clear e2 p2 g2 HG;go_wp2_with fail;refine zA.out.mono ?_;rintro e w3 ⟨rfl,rfl⟩;go_wp2_with fail;refine(zS ka _ [r.1.jw] (VB w3 _ r.1.jw HX.out.jw.1 HX.out.jw.2)).mono ?_;rintro e w4 ⟨rfl,g4⟩;have wF:=jA ((ah w3 _ none).trans g4);clear g4;have HU:Hid (og (r.1.here r.1.at') w4 w.heap.size w4.heap.size [.iface T (Pt A 0)]/\w.heap.size<=w4.heap.size):=by
  have s1:=kJ.out.2.size;have s2:=HP2.out.2.2.size;have s3:=wF.out.size;exact⟨⟨_,rfl,(HX.out.law _).wide _ _ _ _ _ _ ((HX.out.law _).loc _ _ _ _ _ HP2.out.1 (λb _ hb=>wF.out.block b hb (by simp))) s1 s3⟩,by omega⟩
 have KH:Hid (∀o,jQ (w4.alloc o) P s r.2/\w.grownBy (w4.alloc o) (some P)):=λo=>
  ⟨HP2.out.2.1.grow (wF.out.trans (ah w4 o none)),(kJ.out.2.trans HP2.out.2.2).trans ((wF.out.trans (ah w4 o none)).but _)⟩
 go_wp2_with fail;go_ret;exact⟨_,rfl,JM (qW (HX.out.law _)) HU.out.1 HU.out.2 rfl,KH.out _⟩
theorem ajo(hs:s.size<=4000){tu:Ps->List jG×Ps}(hg:DR s tu d)(h:∀p,p.Ok s->Deep d p->GK 141 s p (tu p))(ok:p.Ok s)(hd:Deep (d+1) p):GK 241 s p (oJ s tu p):=by
 intro P w hp;have hlt:=hp.lt;have o1:=ok.jZ [123];have d1:=hd.jZ ok (t:=[123]) (by simp);obtain⟨g1,x1⟩:=hg _ o1 d1;have H0:=jA (Ny hp ok hs [123]);have H1:=jA (λx (hx:jQ x P s (p.jZ s [123]))=>h _ o1 d1 P x hx);have H2:=jA (λx (hx:jQ x P s (tu (p.jZ s [123])).2)=>LC hx g1.ok hs [125]);show Calls prog 241 #[Pt P 0] w λe w'=>∃v,e=.returned v/\mW (tu (p.jZ s [123])).1 w' w.heap.size w'.heap.size v/\jQ w' P s ((tu (p.jZ s [123])).2.close s [125])/\w.grownBy w' (some P);have HX:Hid (Lawful (mW (tu (p.jZ s [123])).1)):=uJ x1;generalize tu (p.jZ s [123])=r at *;generalize p.jZ s [123]=q at *;generalize r.2.close s [125]=q2 at *;clear hp o1 d1 g1 x1 ok hd h hg;go_enter func241,ntmps241;go_wp2_with fail;refine H0.out.mono ?_;rintro e w1 ⟨rfl,p1,k1⟩;have kJ:=jA (jd p1 k1);clear p1 k1 H0;go_wp2_with fail;refine(H1.out _ kJ.out.1).mono ?_;rintro e w2 ⟨v,rfl,e2,p2,k2⟩;have HP2:=jA (jd e2 (jd p2 k2));clear e2 p2 k2 H1;go_wp2_with fail;refine(H2.out _ HP2.out.2.1).mono ?_;rintro e w3 ⟨rfl,p3,k3⟩;have lI:=jA (jd p3 k3);clear p3 k3 H2;go_wp2_with fail;go_ret;obtain⟨a1,a2⟩:=kJ.out;obtain⟨b0,b1,b2⟩:=HP2.out;obtain⟨c1,c2⟩:=lI.out;have s1:=a2.size;have s3:=c2.size;refine⟨v,rfl,HX.out.wide _ _ _ _ _ _ (HX.out.loc _ _ _ _ _ b0 (λb b1 b2=>c2.block b b2 (by simp;omega))) s1 s3,c1,(a2.trans b2).trans c2⟩
theorem ap0(hs:s.size<=4000)(h:Reader s ex' d)(ok:p.Ok s)(hd:Deep (d+1) p)(ht:p.is [112,117,115,104]=true):uD 223 s p (JX s ex' p):=by
 intro P w hp;have hlt:=hp.lt;have g1:=nZ ok (oU (by simp) ht);have o1:=g1.ok.jZ [40];have d1:=(hd.good g1).jZ g1.ok (t:=[40]) (by simp);obtain⟨g2,x2⟩:=h.good _ o1 d1;have g3:=yC g2.ok (t:=[44]) (by simp);have d3:=d1.good (g2.trans g3);obtain⟨g4,x4⟩:=h.good _ g3.ok d3;have g5:=Jl g1.ok (t:=[40]) (u:=[41]) (by simp) (by simp) ((g2.trans g3).trans g4);have HN:Hid (Calls prog 236 #[Pt P 0] w (qO P s w (.agg #[Im p.k.kind,.string p.k.text,Im p.k.at']) (p.next s))):=xw hp ok hs;have H0:=jA (λx (hx:jQ x P s (p.next s))=>Ny hx g1.ok hs [40]);have H1:=jA (λx (hx:jQ x P s ((p.next s).jZ s [40]))=>h.reads _ o1 d1 P x hx);have H2:=jA (λx (hx:jQ x P s (ex' ((p.next s).jZ s [40])).2)=>Ef hx g2.ok hs [44]);have H3:=jA (λx (hx:jQ x P s ((ex' ((p.next s).jZ s [40])).2.expect s [44]))=>h.reads _ g3.ok d3 P x hx);have H4:=jA (λx (hx:jQ x P s (ex' ((ex' ((p.next s).jZ s [40])).2.expect s [44])).2)=>LC hx g4.ok hs [41]);have H5:=jA (λx (hx:jQ x P s ((ex' ((ex' ((p.next s).jZ s [40])).2.expect s [44])).2.close s [41]))=>Ef hx g5.ok hs [59]);have hfa:=LP p.k.kind p.k.at' p.k.text;show Calls prog 223 #[Pt P 0] w λe w'=>∃v,e=.returned v/\(vg p.k.at' (ex' ((p.next s).jZ s [40])).1 (ex' ((ex' ((p.next s).jZ s [40])).2.expect s [44])).1).here w' w.heap.size w'.heap.size v/\jQ w' P s (((ex' ((ex' ((p.next s).jZ s [40])).2.expect s [44])).2.close s [41]).expect s [59])/\w.grownBy w' (some P);have HX:=jA (jd x2 x4);generalize ex' ((ex' ((p.next s).jZ s [40])).2.expect s [44])=r2 at *
 generalize (r2.2.close s [41]).expect s [59]=q6 at *;generalize r2.2.close s [41]=q5 at *;generalize (ex' ((p.next s).jZ s [40])).2.expect s [44]=q3 at *;generalize ex' ((p.next s).jZ s [40])=r1 at *;generalize (p.next s).jZ s [40]=q1 at *;generalize p.next s=q at *;generalize p.k.kind=kk at *;generalize p.k.text=kt at *;generalize p.k.at'=ka at *;clear hp g1 o1 d1 g2 x2 g3 d3 g4 x4 g5 ok hd ht h;go_enter func223,ntmps223;go_wp2_with fail;refine HN.out.mono ?_;rintro e w1 ⟨rfl,p1,g1⟩;have kJ:=jA (jd p1 g1);clear p1 g1 HN;go_wp2_with fail;refine(H0.out _ kJ.out.1).mono ?_;rintro e w2 ⟨rfl,p2,g2⟩;have HP2:=jA (jd p2 (kJ.out.2.trans g2));clear p2 g2 H0 kJ;go_wp2_with fail;refine(H1.out _ HP2.out.1).mono ?_;rintro e w3 ⟨v1,rfl,e3,p3,g3⟩;have lI:=jA (jd e3 (jd p3 g3));clear e3 p3 g3 H1;go_wp2_with fail;refine(H2.out _ lI.out.2.1).mono ?_;rintro e w4 ⟨rfl,p4,g4⟩;have nJ:=jA (jd p4 g4);clear p4 g4 H2;go_wp2_with fail;refine(H3.out _ nJ.out.1).mono ?_;rintro e w5 ⟨v2,rfl,e5,p5,g5⟩;have vG:=jA (jd e5 (jd p5 g5));clear e5 p5 g5 H3;go_wp2_with fail;refine(H4.out _ vG.out.2.1).mono ?_;rintro e w6 ⟨rfl,p6,g6⟩;have EW:=jA (jd p6 g6);clear p6 g6 H4;go_wp2_with fail;refine(H5.out _ EW.out.1).mono ?_;rintro e w7 ⟨rfl,p7,g7⟩;have Bv:=jA (jd p7 (EW.out.2.trans g7));clear p7 g7 H5 EW
 have HV:Hid (r1.1.here r1.1.at' w7 w2.heap.size w3.heap.size v1/\r2.1.here r2.1.at' w7 w4.heap.size w5.heap.size v2/\w.heap.size<=w2.heap.size/\w3.heap.size<=w4.heap.size/\w4.heap.size<=w5.heap.size/\w5.heap.size<=w7.heap.size/\w.grownBy w7 (some P)):=by
  have s2:=HP2.out.2.size;have s3:=lI.out.2.2.size;have s4:=nJ.out.2.size;have s5:=vG.out.2.2.size;have s7:=Bv.out.2.size;exact⟨HX.out.1.keep lI.out.1 (by omega) (aj _) (nJ.out.2.trans (vG.out.2.2.trans Bv.out.2)),HX.out.2.keep vG.out.1 (by omega) (aj _) Bv.out.2,s2,s4,s5,s7,HP2.out.2.trans (lI.out.2.2.trans (nJ.out.2.trans (vG.out.2.2.trans Bv.out.2)))⟩
 obtain⟨T1,A1,hv1,hm1,a1,a2,a3⟩:=HX.out.1.rZ HV.out.1;obtain⟨T2,A2,hv2,hm2,b1,b2,b3⟩:=HX.out.2.rZ HV.out.2.1;subst hv1 hv2;have Bz:=jA (uh A1 0 _ a3);have KI:=jA (uh A2 0 _ b3);clear HP2 lI nJ vG;go_wp2_with fail;refine Bz.out.mono ?_;rintro e1 w8 ⟨rfl,hw8⟩;rw[hw8]at *;clear hw8;go_wp2_with fail;refine KI.out.mono ?_;rintro e1 w9 ⟨rfl,hw9⟩;rw[hw9]at *;clear hw9;go_wp2_with fail;refine(zS ka _ [r1.1.jw,r2.1.jw] (Iy w7 _ r1.1.jw r2.1.jw HX.out.1.jw.1 HX.out.1.jw.2 HX.out.2.jw.1 HX.out.2.jw.2)).mono ?_;rintro e1 w10 ⟨rfl,g10⟩;have HG:=jA ((ah w7 _ none).trans g10);clear g10;have HFin:Hid (∀o,o=(Obj.cells #[Im ka,Im (jR [r1.1.jw,r2.1.jw]),.iface T1 (Pt A1 0),.iface T2 (Pt A2 0)] 335)->(vg ka r1.1 r2.1).here (w10.alloc o) w.heap.size (w10.alloc o).heap.size (.iface 333 (Pt w10.heap.size 0))/\jQ (w10.alloc o) P s q6/\w.grownBy (w10.alloc o) (some P)):=λo ho=>by
  obtain⟨k1,k2,s2,s4,s5,s7,gw⟩:=HV.out;have sg:=HG.out.size;have gf:=HG.out.trans (ah w10 o none);have hK:xY (r1.1.here r1.1.at') (r2.1.here r2.1.at') w10 w.heap.size w10.heap.size [.iface T1 (Pt A1 0),.iface T2 (Pt A2 0)]:=by
   refine⟨w4.heap.size,_,_,rfl,by omega,by omega,?_,?_⟩
   .exact(HX.out.1.law _).wide _ _ _ _ _ _ ((HX.out.1.law _).loc _ _ _ _ _ k1 (λb _ hb=>HG.out.block b (by omega) (by simp))) s2 s4
   .exact(HX.out.2.law _).wide _ _ _ _ _ _ ((HX.out.2.law _).loc _ _ _ _ _ k2 (λb _ hb=>HG.out.block b (by omega) (by simp))) (aj _) (by omega)
  exact⟨JM (wJ (HX.out.1.law _) (HX.out.2.law _)) hK (by omega) ho,Bv.out.1.grow gf,gw.trans (gf.but _)⟩
 go_wp2_with fail;go_ret;exact⟨_,rfl,HFin.out _ rfl⟩
end
def Zz(w:jk)(v:jm)(l:List jG):Prop:=
 (l=[]/\v=Nl)\/
 ∃g cap,v=.slice (some (Ad g 0)) l.length cap/\∀(j:Nat)(e:jG),l[j]? =some e->∃T b,w.cell? (Ad g j)=some (.iface T (Pt b 0))/\o7 T/\w.cell? (Ad b 1)=some (Im e.jw)
theorem agt{g:Nat}:∀{bs:List jG}{w:jk}{lo hi:Nat}{us:List jm},(∀e∈bs,oI e)->tC g bs w lo hi us->∀(j:Nat)(e:jG),bs[j]? =some e->∃T b,us[j]? =some (.iface T (Pt b 0))/\o7 T/\w.cell? (Ad b 1)=some (Im e.jw)
 |[],_,_,_,_,_,_,j,e,h=>by simp at h
 |b::bs,w,lo,hi,us,hl,⟨l,m,u,us',h0,h1,h2,h3,h4,h5,h6⟩,j,e,h=>by
  subst h0;cases j with
  |zero=>
   simp only[dw,bJ]at h;subst h;obtain⟨T,b',k1,k2,_,_,k5⟩:=(hl b (aW ..)).head _ _ _ _ h5;exact⟨T,b',by rw[k1];rfl,k2,k5⟩
  |succ j=>exact agt (λe he=>hl e (aI _ he)) h6 j e (by simpa using h)
theorem Ic{l:List jG}(hl:∀e∈l,oI e){w:jk}{lo hi:Nat}{v:jm}(h:mW l w lo hi v):Zz w v l:=by
 rcases h with h|⟨g,cap,us,arr,h1,h2,h3,h4,h5,h6⟩
 .exact jf h
 .refine je ⟨g,cap,h1,λj e he=>?_⟩;obtain⟨T,b,k1,k2,k3⟩:=agt hl h4 j e he;exact⟨T,b,(jI h5).trans (h6 j _ k1),k2,k3⟩
theorem atg(l:List jG)(k:Nat)(h:k<l.length)(a:Int):(l.drop k).foldl (λa e=>lu [a,e.jw]) a=(l.drop (k+1)).foldl (λa e=>lu [a,e.jw]) (lu [a,l[k].jw]):=by
 rw[dA h,bP]
theorem Iw{l:List jG}(hl:∀e∈l,oI e)(hn:l.length<=1000000){w:jk}{v:jm}(h:Zz w v l):Calls prog 90 #[v] w λe w'=>e=.returned (Im (sumOf l))/\w.grownBy w' none:=by
 have HR:Hid (sumOf l=(l.drop 0).foldl (λa e=>lu [a,e.jw]) 0):=rfl;rcases h with⟨rfl,rfl⟩|⟨g,cap,rfl,hc⟩
 .go_enter func90,ntmps90;go_wp2_with fail;refine wp_loop_rounds 1 ?_;rw[rounds_succ];go_wp2_with fail;go_ret;exact⟨rfl,aN _ _⟩
 .generalize hr:sumOf l=r at *;clear hr;have HC:=jA hc;have HL:=jA hl;clear hc hl;go_enter func90,ntmps90;go_wp2_with fail;go_loopg [3,8] l.length (λgg a i wr=>∃(k:Nat)(z:Int),k+gg=l.length/\a=Im z/\i=Im k/\0<=z/\z<=1000001/\Hid (r=(l.drop k).foldl (λa e=>lu [a,e.jw]) z/\w.grownBy wr none))
  case atStart=>exact⟨0,0,by omega,rfl,rfl,by omega,by omega,⟨HR.out,aN _ _⟩⟩
  case round=>
   obtain⟨k,z,hk,rfl,rfl,z0,z1,HK⟩:=hrel;clear HR;by_cases hlt:k<l.length
   .have d1:decide ((k:Int)<(l.length:Int))=true:=by simp;omega
    have i0:(0:Int)<=(k:Int):=by omega
    have i1:(k:Int)<(l.length:Int):=by omega
    have hg:l[k]? =some l[k]:=bU hlt;obtain⟨T,b,k1,k2,k3⟩:=HC.out k _ hg;have hb:=(HL.out _ (fG hlt)).jw;have m1:=HK.out.2.cell k1 (by simp);have m2:=HK.out.2.cell k3 (by simp);have hmp:=k2.rZ b;have HE:=HK.out.1;rw[atg l k hlt]at HE;generalize l[k].jw=c at *;have zA:=jA (uh b 0 _ m2);have HT:Hid (Calls prog 143 #[.slice (some (Ad wr.heap.size 0)) 2 2] (wr.alloc (.cells #[Im z,Im c] 3)) λe w'=>e=.returned (Im (lu [z,c]))/\w'=wr.alloc (.cells #[Im z,Im c] 3)):=NS (Iy wr _ z c z0 z1 hb.1 hb.2);have hbd:=yu [z,c] (by simp;omega);have lT:=jA (jd HE HK.out.2);clear HE HK k1 k2 k3 hg;generalize lu [z,c]=t at *;obtain⟨g',hg'⟩:∃g',gk=g'+1:=⟨gk-1,by omega⟩;go_wp2_with fail;refine zA.out.mono ?_;rintro e w1 ⟨rfl,hw1⟩;rw[hw1];clear hw1;go_wp2_with fail;refine HT.out.mono ?_;rintro e w2 ⟨rfl,hw2⟩;rw[hw2];clear hw2;go_wp2_with fail;go_roundg g'
    case measure=>omega
    case rel=>exact⟨k+1,_,by omega,rfl,by go_num,hbd.1,hbd.2,⟨lT.out.1,lT.out.2.trans (ah _ _ none)⟩⟩
   .have d1:decide ((k:Int)<(l.length:Int))=false:=by simp;omega
    have e:r=z:=by rw[HK.out.1,fH (by omega)];rfl
    subst e;have HG:=jA HK.out.2;clear HK;go_wp2_with fail;go_ret;exact⟨rfl,HG.out⟩
end
end Go.Proofs.YthllhabjfchgiaaGreatDoor
