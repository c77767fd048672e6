import Derived.Test.YthllhabjfchgiaaGreatDoorHs03
set_option maxRecDepth 100000
set_option maxHeartbeats 8000000
set_option linter.unusedSimpArgs false
namespace Go.Proofs.YthllhabjfchgiaaGreatDoor
open _root_.Go.Proofs.Tryz
section
open Go.RowKit
open Hx (St Bk Ls jK)
attribute [local go_sem ↓] Go.wp_at_zero Go.wp_at_succ
attribute [local go_sem] kN
section
variable {B:Nat}{w:jk}{L:Nat}{s:ji}{l:Ls}{vs vb vl:jm}
theorem jT.XI{g cap:Nat}{init:List Bk}{b:Bk}(h:jT B w L s l vs (.slice (some (Ad g 0)) (init.length+1) cap) vl)(f:l.jH=init++[b]):
 jT B (w.setCell (Ad L 3) (.slice (some (Ad g 0)) init.length cap)) L s {l with jH:=init} vs (.slice (some (Ad g 0)) init.length cap) vl/\
 jV L w vs (.slice (some (Ad g 0)) (init.length+1) cap) vl (w.setCell (Ad L 3) (.slice (some (Ad g 0)) init.length cap)) vs (.slice (some (Ad g 0)) init.length cap) vl:=by
 have a:l.jH.length=init.length+1:=by rw[f];simp
 have i:=h.jH;rw[a]at i;have c:=afT i;have e:(l.jH.flatMap rY).take (init.length * 4)=init.flatMap rY:=by
  rw[f,gu,List.take_left' (by rw[IB];omega)]
 rw[e]at c;obtain⟨j,k,_,_⟩:=h.UY (w1:=w) ⟨rfl,rfl,rfl,aj _,λ_ _ _=>rfl⟩ c (λm d=>jf d);exact⟨j,k⟩
theorem jT.arb{g cap:Nat}{init:List Int}{x:Int}(h:jT B w L s l vs vb (.slice (some (Ad g 0)) (init.length+1) cap))(f:l.jY=init++[x]):
 jT B (w.setCell (Ad L 4) (.slice (some (Ad g 0)) init.length cap)) L s {l with jY:=init} vs vb (.slice (some (Ad g 0)) init.length cap)/\
 jV L w vs vb (.slice (some (Ad g 0)) (init.length+1) cap) (w.setCell (Ad L 4) (.slice (some (Ad g 0)) init.length cap)) vs vb (.slice (some (Ad g 0)) init.length cap):=by
 have a:l.jY.length=init.length+1:=by rw[f];simp
 have d:=h.jY;rw[a]at d;have b:=afT d;have e:(l.jY.map (Value.int .i64)).take (init.length * 1)=init.map (Value.int .i64):=by
  rw[f,dF,List.take_left' (by simp)]
 rw[e]at b;obtain⟨i,j,_,_⟩:=h.aeD (w1:=w) ⟨rfl,rfl,rfl,aj _,λ_ _ _=>rfl⟩ b (λk c=>jf c);exact⟨i,j⟩
theorem lu(w:jk)(k:Nat):w.grownBy (w.drewN k) none:=⟨rfl,rfl,rfl,aj _,λ_ _ _=>rfl⟩
theorem Sl{e:jo}{b n cap:Nat}{a:Option Addr}{xs:List jm}(h:w.ownsRow B e b (.slice a n cap) n xs):n<=cap/\cap<=maxLen:=by
 rcases h.2 with⟨c,g⟩|⟨k,d,f,c,g,m,i,j,o⟩
 .cases c;exact⟨aj _,bD _⟩
 .cases c;exact⟨i,j⟩
theorem als(h:jT B w L s l vs vb vl)(init:List Bk)(b:Bk)(r:l.jH=init++[b])(A:init≠[])(ab:l.jH.length<=900000)
 (p:Nat)(st:St)(f:l.jB[p]? =some st)(hp:0<p)(F:b.other=p):
 Calls prog 171 #[Pt L 0,.agg #[Im b.opener,Im b.other,Im b.jC,Im b.before]] w λe t=>e=.returned (.tuple #[])/\
  ∃M,jT B t L s (uf l p st init b) vs M vl/\jV L w vs vb vl t vs M vl:=by
 obtain⟨q,D,rfl,Z,N,X,Y,ac,u,v⟩:=h.Dk f;obtain⟨j,c,H⟩:∃j c,vb=.slice (some (Ad j 0)) (init.length+1) c:=by
  obtain⟨g,C,I,b',Q,_⟩:=h.inner (by rw[r];simp);exact⟨g,C,by rw[Q,r];simp⟩
 subst H;have O:Hid (∀o k z,z=max b.jC b.before->Calls prog 172 #[Pt L 0,Im z] ((((w.setCell (Ad q (p * 7+6)) (Im l.jB.length)).setCell (Ad L 3) (.slice (some (Ad j 0)) init.length c)).alloc o).drewN k) λe t=>e=.returned (.tuple #[])/\
  jT B t L s (uf l p st init b) (.slice (some (Ad q 0)) l.jB.length D) (.slice (some (Ad j 0)) init.length c) vl/\
  jV L w (.slice (some (Ad q 0)) l.jB.length D) (.slice (some (Ad j 0)) (init.length+1) c) vl t (.slice (some (Ad q 0)) l.jB.length D) (.slice (some (Ad j 0)) init.length c) vl):=λo k z hz=>by
  subst hz;obtain⟨E,m2⟩:=h.SG f (l.jB.length:Int);obtain⟨S,m4⟩:=E.XI (init:=init) (b:=b) r;have T:=(S.alloc o).drewN k
  refine(Qm T A (by have:l.jH.length=init.length+1:=by rw[r];simp
                    show init.length<=_;omega) (max b.jC b.before)).mono ?_
  rintro e t ⟨U,V,W⟩;exact⟨U,V,m2.trans (m4.trans ((jV.grow L _ _ _ _ (ah _ o none)).trans (jV.trans (jV.grow L _ _ _ _ (lu _ k)) W)))⟩
 have c2:=h.c2;have c3:=h.c3;have f3:=h.fr 3;have f6:=v (p * 7+6);have a6:=u.2.2.2.2.2.2;have P:¬L=q:=λe=>N e.symm;have d:l.jH.length=init.length+1:=by rw[r];simp
 have aa:init.length<=900000:=by omega
 have K:init.length<=c:=by
  have J:=h.jH;rw[d]at J;have:=Sl J;omega
 have hL:=h.lt;have n1:¬L=w.heap.size:=by omega
 have n2:¬q=w.heap.size:=by omega
 have G:decide (0<b.other)=true:=by rw[F];simp;omega
 clear h r A u v d f;rw[F]at G⊢;clear F;generalize uf l p st init b=l' at *;generalize init.length=n at *;generalize l.jB.length=m at *;have i0:(0:Int)<=(p:Int):=by omega
 have i1:(p:Int)<(m:Int):=by omega
 have i2:(0:Int)<=(n:Int):=by omega
 have i3:(n:Int)<=(c:Int):=by omega
 generalize b.jC=x at *;generalize b.before=y at *;go_enter func171,ntmps171;go_wp2_with fail;refine nO 12 (by kernel_rfl) (by kernel_rfl) ?_;simp only[aC,aO,aG,aQ];repeat (go_big_quiet_step (fail))
 refine bF ?_;intro _ i;obtain⟨k1,a⟩:=i;subst a;go_wp2_with fail;refine nO 14 (by kernel_rfl) (by kernel_rfl) ?_;simp only[aC,aO,aG,aQ];repeat (go_big_quiet_step (fail))
 refine bF ?_;intro _ i;obtain⟨k2,a⟩:=i;subst a;go_wp2_with fail;all_goals
  refine(O.out _ _ _ (by omega)).mono ?_;rintro e w1 ⟨rfl,R,E⟩;go_wp2;go_end0;exact⟨rfl,_,R,E⟩
theorem alr(h:jT B w L s l vs vb vl)(init:List Bk)(b:Bk)(r:l.jH=init++[b])(A:init≠[])(ab:l.jH.length<=900000)
 (p:Nat)(st:St)(f:l.jB[p]? =some st)(K:¬0<b.other)(J:b.opener=p):
 Calls prog 171 #[Pt L 0,.agg #[Im b.opener,Im b.other,Im b.jC,Im b.before]] w λe t=>e=.returned (.tuple #[])/\
  ∃M,jT B t L s (uf l p st init b) vs M vl/\jV L w vs vb vl t vs M vl:=by
 obtain⟨q,D,rfl,Z,N,X,Y,ad,u,v⟩:=h.Dk f;obtain⟨j,c,F⟩:∃j c,vb=.slice (some (Ad j 0)) (init.length+1) c:=by
  obtain⟨g,C,G,b',Q,_⟩:=h.inner (by rw[r];simp);exact⟨g,C,by rw[Q,r];simp⟩
 subst F;have O:Hid (∀o k z,z=max b.jC b.before->Calls prog 172 #[Pt L 0,Im z] ((((w.setCell (Ad q (p * 7+6)) (Im l.jB.length)).setCell (Ad L 3) (.slice (some (Ad j 0)) init.length c)).alloc o).drewN k) λe t=>e=.returned (.tuple #[])/\
  jT B t L s (uf l p st init b) (.slice (some (Ad q 0)) l.jB.length D) (.slice (some (Ad j 0)) init.length c) vl/\
  jV L w (.slice (some (Ad q 0)) l.jB.length D) (.slice (some (Ad j 0)) (init.length+1) c) vl t (.slice (some (Ad q 0)) l.jB.length D) (.slice (some (Ad j 0)) init.length c) vl):=λo k z hz=>by
  subst hz;obtain⟨E,m2⟩:=h.SG f (l.jB.length:Int);obtain⟨S,m4⟩:=E.XI (init:=init) (b:=b) r;have T:=(S.alloc o).drewN k
  refine(Qm T A (by have:l.jH.length=init.length+1:=by rw[r];simp
                    show init.length<=_;omega) (max b.jC b.before)).mono ?_
  rintro e t ⟨U,V,W⟩;exact⟨U,V,m2.trans (m4.trans ((jV.grow L _ _ _ _ (ah _ o none)).trans (jV.trans (jV.grow L _ _ _ _ (lu _ k)) W)))⟩
 have c2:=h.c2;have c3:=h.c3;have f3:=h.fr 3;have f6:=v (p * 7+6);have a6:=u.2.2.2.2.2.2;have P:¬L=q:=λe=>N e.symm;have d:l.jH.length=init.length+1:=by rw[r];simp
 have aa:init.length<=900000:=by omega
 have I:init.length<=c:=by
  have H:=h.jH;rw[d]at H;have:=Sl H;omega
 have hL:=h.lt;have n1:¬L=w.heap.size:=by omega
 have n2:¬q=w.heap.size:=by omega
 have ac:decide (0<b.other)=false:=by simpa using K
 clear h r A u v d f;rw[J];clear J K;generalize uf l p st init b=l' at *;generalize init.length=n at *;generalize l.jB.length=m at *;have i0:(0:Int)<=(p:Int):=by omega
 have i1:(p:Int)<(m:Int):=by omega
 have i2:(0:Int)<=(n:Int):=by omega
 have i3:(n:Int)<=(c:Int):=by omega
 generalize b.jC=x at *;generalize b.before=y at *;go_enter func171,ntmps171;go_wp2_with fail;refine nO 12 (by kernel_rfl) (by kernel_rfl) ?_;simp only[aC,aO,aG,aQ];repeat (go_big_quiet_step (fail))
 refine bF ?_;intro _ i;obtain⟨k1,a⟩:=i;subst a;go_wp2_with fail;refine nO 14 (by kernel_rfl) (by kernel_rfl) ?_;simp only[aC,aO,aG,aQ];repeat (go_big_quiet_step (fail))
 refine bF ?_;intro _ i;obtain⟨k2,a⟩:=i;subst a;go_wp2_with fail;all_goals
  refine(O.out _ _ _ (by omega)).mono ?_;rintro e w1 ⟨rfl,R,E⟩;go_wp2;go_end0;exact⟨rfl,_,R,E⟩
theorem jT.arF(h:jT B w L s l vs vb vl)(x:Int):jT B (w.setCell (Ad L 6) (Im x)) L s {l with jC:=x} vs vb vl:=by
 have a:∀k,¬k=6->(w.setCell (Ad L 6) (Im x)).cell? (Ad L k)=w.cell? (Ad L k):=λk b=>bG _ _ _ _ (by intro e;cases e;exact b rfl);exact h.put 6 _ _ vs vb vl (by rw[a 1 (by omega)];exact h.c1) (by rw[a 2 (by omega)];exact h.c2) (by rw[a 3 (by omega)];exact h.c3) (by rw[a 4 (by omega)];exact h.c4) (by rw[a 5 (by omega)];exact h.c5) (dB _ _ _ h.c6) (by rw[a 7 (by omega)];exact h.c7) (by omega) h.jB h.jH h.jY h.ns h.nb h.nl h.sb h.sl h.bl
theorem jT.noBlocks(h:jT B w L s l vs vb vl):jT B (w.setCell (Ad L 3) (Nl)) L s {l with jH:=[]} vs (Nl) vl/\jV L w vs vb vl (w.setCell (Ad L 3) (Nl)) vs (Nl) vl:=by
 obtain⟨b,c,_,_⟩:=h.UY (w1:=w) ⟨rfl,rfl,rfl,aj _,λ_ _ _=>rfl⟩ (kL:=Nl) (blocks':=[]) ⟨rfl,jf ⟨rfl,rfl⟩⟩ (λd a=>by cases a);exact⟨b,c⟩
theorem alo(h:jT B w L s l vs vb vl)(d:l.jH≠[])(O:l.jH.length<=900000)(P:l.jB.length<=900000):
 Calls prog 169 #[Pt L 0] w λe j=>e=.returned (.tuple #[])/\
  ∃c x,jT B j L s (Ba l) c x vl/\jV L w vs vb vl j c x vl:=by
 have z:Hid (Calls prog 118 #[Pt L 0,.agg #[.int .u8 1,Im 0,Im 0,Im 0,Im 0,Im 0,Im 0]] w λe j=>e=.returned (.tuple #[])/\
  ∃c,jT B j L s (mP l ⟨1,0,0,0,0,0,0⟩) c vb vl/\jV L w vs vb vl j c vb vl):=JQ h d (by omega) (by omega) 1 0 0 0 0 0 0
 have t:Hid ((mP l ⟨1,0,0,0,0,0,0⟩).jH.length=l.jH.length):=P6 l _ d;have v:0<l.jH.length:=List.length_pos_iff.2 d;unfold Ba;generalize mP l ⟨1,0,0,0,0,0,0⟩=q at *;generalize l.jH.length=Y at *;clear h d;go_enter func169,ntmps169;go_wp2_with fail;refine(z.out).mono ?_;rintro e o ⟨rfl,n,f,y⟩;obtain⟨g,m,a,b,r,u,i,S,I,N,M,K,E,F,T,G,J⟩:=f.inner (λe=>by have:=t.out;rw[e]at this;simp at this;omega);subst r;have Q:q.jH.length=a.length+1:=by rw[u];simp
 have A:Hid (Calls prog 168 #[Pt L 0] o λe j=>e=.returned (Pt g (a.length * 4))/\∃k,j=o.drewN k):=
  CX L g a.length m o (by rw[f.c3,Q]) (by have:=t.out;omega)
 have C:Hid (∀k,jT B (((o.setCell (Ad L 6) (Im b.jC)).setCell (Ad L 3) (Nl)).drewN k) L s {q with jC:=q.top.jC,jH:=[]} n (Nl) vl/\
  jV L w vs (.slice (some (Ad g 0)) q.jH.length m) vl (((o.setCell (Ad L 6) (Im b.jC)).setCell (Ad L 3) (Nl)).drewN k) n (Nl) vl):=λk=>by
  obtain⟨H,R⟩:=(f.arF b.jC).noBlocks;rw[i];exact⟨H.drewN k,y.trans ((jV.own _ _ _ _ _ _ _).trans (R.trans (jV.grow L _ _ _ _ (lu _ k))))⟩
 have U:=f.c3;have V:=f.c6;have W:=f.fr 3;have X:=f.fr 6;have D:¬L=g:=λe=>S e.symm;clear f y u i E F G J;generalize a.length * 4=p at *;go_wp2_with fail;refine(A.out).mono ?_;rintro e Z ⟨rfl,k,rfl⟩;go_wp2;go_end0;exact⟨rfl,_,_,C.out _⟩
theorem alu(h:jT B w L s l vs vb vl)(Q:2<=l.jH.length)(ar:l.jH.length<=900000)(au:l.jB.length<=900000)(A:List Int)(x:Int)(hx:l.jY=A++[x])(I:l.jY.length<=900000)
 (p:Nat)(K:St)(E:l.jB[p]? =some K)(q a b c d v t:Int):
 Calls prog 170 #[Pt L 0,.agg #[.int .u8 q,Im a,Im b,Im c,Im d,Im v,Im t],Im p] w λe y=>e=.returned (.tuple #[])/\
  ∃u kL lq,jT B y L s (Bc l ⟨q,a,b,c,d,v,t⟩ p K) u kL lq/\jV L w vs vb vl y u kL lq:=by
 have J:l.jH≠[]:=λe=>by rw[e]at Q;simp at Q
 have ab:p<l.jB.length:=by
  rcases dG p l.jB.length with Z|Z
  .exact Z
  .rw[bV Z]at E;cases E
 have HA:Hid (∀o,Calls prog 118 #[Pt L 0,.agg #[.int .u8 q,Im a,Im b,Im c,Im d,Im v,Im p]] (w.alloc o) λe y=>e=.returned (.tuple #[])/\
  ∃u,jT B y L s (mP l ⟨q,a,b,c,d,v,p⟩) u vb vl/\jV L w vs vb vl y u vb vl):=λo=>by
  refine(JQ (h.alloc o) J (by omega) (by omega) q a b c d v p).mono ?_;rintro e y ⟨f,u,P,h3⟩;exact⟨f,u,P,(jV.grow L w _ _ _ (ah w o none)).trans h3⟩
 have T:Hid ((mP l ⟨q,a,b,c,d,v,p⟩).jH.length=l.jH.length):=P6 l _ J;have Y:Hid ((mP l ⟨q,a,b,c,d,v,p⟩).jB[p]? =some K):=by
  show _=_;rw[Nk,aT ab];exact E
 have O:Hid ((mP l ⟨q,a,b,c,d,v,p⟩).jY=A++[x]):=hx;have HN:Hid ((mP l ⟨q,a,b,c,d,v,p⟩).jB.length=l.jB.length+1):=by
  show _=_;rw[Nk];simp
 have HE:Hid (Bc l ⟨q,a,b,c,d,v,t⟩ p K=GK (mP l ⟨q,a,b,c,d,v,p⟩) p K):=rfl;rw[HE.out];have ak:A.length<=900000:=by rw[hx]at I;simp at I;omega
 clear HE;generalize mP l ⟨q,a,b,c,d,v,p⟩=D at *;have hL:=h.lt;have n1:¬L=w.heap.size:=by omega
 generalize l.jH.length=nb at *;generalize l.jB.length=ns at *;clear h J hx E I;go_enter func170,ntmps170;go_wp2_with fail;refine(HA.out _).mono ?_;rintro e X ⟨rfl,ax,f,m1⟩;obtain⟨V,cs,rfl,ao,Ag,aa,an,aw,H,R⟩:=f.Dk Y.out;obtain⟨g,r,init,bb,ac,W,G,uZ,am,ap,Bl,Fa,b0,b1,b2,b3,hf⟩:=f.inner (λe=>by have:=T.out;rw[e]at this;simp at this;omega);obtain⟨U,M,ad,aj,al⟩:=f.aef O.out;subst ac;subst ad;have S:D.jH.length=init.length+1:=by rw[W];simp
 have aq:init.length<=900000:=by have:=T.out;omega
 have F:init≠[]:=λe=>by have:=T.out;rw[S,e]at this;simp at this;omega
 have av:D.jB.length<=900001:=by have:=HN.out;omega
 rw[S]at f m1 aa;have HI:Hid (Calls prog 168 #[Pt L 0] X λe y=>e=.returned (Pt g (init.length * 4))/\∃k,y=X.drewN k):=
  CX L g init.length r X f.c3 (by omega)
 have HP:Hid (∀k z,z=wrap64 (Hx.kQ K.a * bb.jC)->Calls prog 172 #[Pt L 0,Im z] ((((X.setCell (Ad L 3) (.slice (some (Ad g 0)) init.length r)).setCell (Ad L 4) (.slice (some (Ad U 0)) A.length M)).setCell (Ad V (p * 7+6)) (Im D.jB.length)).drewN k) λe y=>e=.returned (.tuple #[])/\
  jT B y L s (GK D p K) (.slice (some (Ad V 0)) D.jB.length cs) (.slice (some (Ad g 0)) init.length r) (.slice (some (Ad U 0)) A.length M)/\
  jV L w vs (.slice (some (Ad g 0)) (init.length+1) r) (.slice (some (Ad U 0)) (A.length+1) M) y (.slice (some (Ad V 0)) D.jB.length cs) (.slice (some (Ad g 0)) init.length r) (.slice (some (Ad U 0)) A.length M)):=λk z hz=>by
  subst hz;obtain⟨P,m2⟩:=f.XI (init:=init) (b:=bb) W;obtain⟨h3,m3⟩:=P.arb (init:=A) (x:=x) O.out;obtain⟨h4,m4⟩:=h3.SG Y.out (D.jB.length:Int);have h5:=h4.drewN k;refine(Qm h5 F (by show init.length<=_;omega) _).mono ?_;rintro e y ⟨h6,h7,h8⟩;refine⟨h6,?_,m1.trans (m2.trans (m3.trans (m4.trans (jV.trans (jV.grow L _ _ _ _ (lu _ k)) h8))))⟩;have e1:D.jH.dropLast=init:=by rw[W];simp
  have e2:D.jY.dropLast=A:=by rw[O.out];simp
  unfold GK;rw[e1,e2,G];exact h7
 have ae:init.length<=r:=by
  have N:=f.jH;rw[S]at N;have:=Sl N;omega
 have ai:A.length<=M:=by
  have N:=f.jY;rw[O.out]at N;simp only[aA,eG]at N;have:=Sl N;omega
 have c2:=f.c2;have c3:=f.c3;have c4:=f.c4;have f3:=f.fr 3;have f4:=f.fr 4;have f6:=R (p * 7+6);have a1:=H.2.1;have a6:=H.2.2.2.2.2.2;have ag:¬L=V:=λe=>Ag e.symm;have af:¬L=g:=λe=>uZ e.symm;have HQ:Hid (D.jH.length=init.length+1):=S;clear f m1 W G b0 b1 b3 hf R H S F HA T Y O HN;generalize hm:D.jB.length=m at *;generalize hj:A.length=j at *;generalize init.length=n at *;have HJ:Hid (A.length=j):=hj;clear hm hj;have i0:(0:Int)<=(p:Int):=by omega
 have i1:(p:Int)<(m:Int):=by omega
 have i2:(0:Int)<=(n:Int):=by omega
 have i3:(n:Int)<=(r:Int):=by omega
 have i4:(0:Int)<=(j:Int):=by omega
 have i5:(j:Int)<=(M:Int):=by omega
 go_wp2_with fail;refine(HI.out).mono ?_;rintro e w2 ⟨rfl,k,rfl⟩;go_wp2_with fail;refine Dp 14 (by kernel_rfl) (by kernel_rfl) ?_;simp only[aC,aO,aG,aQ];repeat (go_big_quiet_step (fail))
 refine bF ?_;intro _ C;obtain⟨k2,i⟩:=C;subst i;go_wp2_with fail;refine Dp 14 (by kernel_rfl) (by kernel_rfl) ?_;simp only[aC,aO,aG,aQ];repeat (go_big_quiet_step (fail))
 refine bF ?_;intro _ C;obtain⟨k3,i⟩:=C;subst i;go_wp2_with fail;refine Dp 12 (by kernel_rfl) (by kernel_rfl) ?_;simp only[aC,aO,aG,aQ];repeat (go_big_quiet_step (fail))
 refine bF ?_;intro _ C;obtain⟨k4,i⟩:=C;subst i;go_wp2_with fail;refine(aoD _ _).mono ?_;rintro e w3 ⟨rfl,rfl⟩;go_wp2_with fail;refine(HP.out _ _ rfl).mono ?_;rintro e w4 ⟨rfl,f,P⟩;go_wp2;go_end0;rw[HQ.out,HJ.out];exact⟨rfl,_,_,_,f,P⟩
theorem alx(h:jT B w L s l vs vb vl)(p:l.jH.length=1)(A:l.jB.length<=900000)(q a b c d J t:Int):
 Calls prog 116 #[Pt L 0,.agg #[.int .u8 q,Im a,Im b,Im c,Im d,Im J,Im t]] w λe m=>e=.returned (.tuple #[])/\
  ∃i j G,jT B m L s (Ba l) i j G/\jV L w vs vb vl m i j G:=by
 have r:l.jH≠[]:=λe=>by rw[e]at p;simp at p
 obtain⟨g,u,f,V,C,D,v,uZ,M,O,P,Q,R,S,T,U,N⟩:=h.inner r;subst C;have E:l.jH.length=f.length+1:=by rw[D];simp
 rw[E]at h⊢;have I:Hid (∀o,Calls prog 168 #[Pt L 0] (w.alloc o) λe m=>e=.returned (Pt g (f.length * 4))/\∃k,m=(w.alloc o).drewN k):=λo=>
  CX L g f.length u (w.alloc o) (h.alloc o).c3 (by omega)
 have H:Hid (∀o x k,Calls prog 169 #[Pt L 0] (((w.alloc o).drewN k).alloc x) λe m=>e=.returned (.tuple #[])/\
  ∃i j,jT B m L s (Ba l) i j vl/\jV L w vs (.slice (some (Ad g 0)) (f.length+1) u) vl m i j vl):=λo x k=>by
  refine(alo (((h.alloc o).drewN k).alloc x) r (by omega) A).mono ?_;rintro e m ⟨y,i,j,z,K⟩;exact⟨y,i,j,z,(jV.grow L w _ _ _ (ah w o none)).trans ((jV.grow L _ _ _ _ (lu _ k)).trans (jV.trans (jV.grow L _ _ _ _ (ah _ x none)) K))⟩
 have W:=h.c3;have X:=h.lt;have Z:¬L=w.heap.size:=by omega
 have n2:¬g=w.heap.size:=by omega
 have n3:¬L=w.heap.size+1:=by omega
 have n4:¬g=w.heap.size+1:=by omega
 have F:(((f.length:Int)+1)==1)=true:=by simp;omega
 clear h N r D v E p;generalize Ba l=Y at *;generalize f.length=n at *;go_enter func116,ntmps116;go_wp2_with fail;refine(I.out _).mono ?_;rintro e w1 ⟨rfl,k,rfl⟩;go_wp2_with fail;refine(H.out _ _ _).mono ?_;rintro e w2 ⟨rfl,i,j,y,z⟩;go_wp2;go_end0;exact⟨rfl,_,_,_,y,z⟩
theorem alA(h:jT B w L s l vs vb vl)(j:2<=l.jH.length)(D:l.jH.length<=900000)(p:Nat)(z:St)(G:l.jB[p]? =some z)(F:l.top.opener=p)(R:z.op=4)(Z:List Int)(x:Int)(hx:l.jY=Z++[x])(P:l.jY.length<=900000)(Q:l.jB.length<=900000)(q a b c d y t:Int):
 Calls prog 116 #[Pt L 0,.agg #[.int .u8 q,Im a,Im b,Im c,Im d,Im y,Im t]] w λe v=>e=.returned (.tuple #[])/\
  ∃i r u,jT B v L s (Bc l ⟨q,a,b,c,d,y,t⟩ p z) i r u/\jV L w vs vb vl v i r u:=by
 have E:l.jH≠[]:=λe=>by rw[e]at j;simp at j
 obtain⟨g,A,f,bb,S,W,m,uZ,aa,ae,Bl,Fa,b0,b1,b2,b3,hf⟩:=h.inner E;subst S;have X:l.jH.length=f.length+1:=by rw[W];simp
 rw[X]at h⊢;have HI:Hid (∀o,Calls prog 168 #[Pt L 0] (w.alloc o) λe v=>e=.returned (Pt g (f.length * 4))/\∃k,v=(w.alloc o).drewN k):=λo=>
  CX L g f.length A (w.alloc o) (h.alloc o).c3 (by omega)
 have K:l.jH.length<=900000:=D;have HC:Hid (∀o J k I,Calls prog 170 #[Pt L 0,.agg #[.int .u8 q,Im a,Im b,Im c,Im d,Im y,Im t],Im p] ((((w.alloc o).drewN k).alloc J).drewN I) λe v=>e=.returned (.tuple #[])/\
  ∃i r u,jT B v L s (Bc l ⟨q,a,b,c,d,y,t⟩ p z) i r u/\jV L w vs (.slice (some (Ad g 0)) (f.length+1) A) vl v i r u):=λo J k I=>by
  refine(alu ((((h.alloc o).drewN k).alloc J).drewN I) j D Q Z x hx P p z G q a b c d y t).mono ?_;rintro e v ⟨M,i,r,u,N,h3⟩;exact⟨M,i,r,u,N,(jV.grow L w _ _ _ (ah w o none)).trans ((jV.grow L _ _ _ _ (lu _ k)).trans ((jV.grow L _ _ _ _ (ah _ J none)).trans (jV.trans (jV.grow L _ _ _ _ (lu _ I)) h3)))⟩
 have c3:=h.c3;have hL:=h.lt;have n1:¬L=w.heap.size:=by omega
 have n2:¬g=w.heap.size:=by omega
 have n3:¬L=w.heap.size+1:=by omega
 have n4:¬g=w.heap.size+1:=by omega
 rw[m]at F;rw[F]at b0;obtain⟨V,cs,T,ad,Ag,ab,ac,ag,C,O⟩:=h.Dk G;subst T;have c2:=h.c2;have a0:=C.1;have n5:¬V=w.heap.size:=by omega
 have n6:¬V=w.heap.size+1:=by omega
 have Y:(((f.length:Int)+1)==1)=false:=by simp;omega
 have i0:(0:Int)<=(p:Int):=by omega
 have i1:(p:Int)<(l.jB.length:Int):=by omega
 rw[R]at a0;have af:=K;clear h hf E W m X j C O;generalize Bc l ⟨q,a,b,c,d,y,t⟩ p z=l2 at *;generalize f.length=n at *;go_enter func116,ntmps116;go_wp2_with fail;refine(HI.out _).mono ?_;rintro e w1 ⟨rfl,k,rfl⟩;go_wp2_with fail;refine nO 10 (by kernel_rfl) (by kernel_rfl) ?_;simp only[aC,aO,aG,aQ];repeat (go_big_quiet_step (fail))
 refine bF ?_;intro _ U;obtain⟨I,H⟩:=U;subst H;go_wp2_with fail;refine(HC.out _ _ _ _).mono ?_;rintro e w2 ⟨rfl,i,r,u,M,N⟩;go_wp2;go_end0;exact⟨rfl,_,_,_,M,N⟩
theorem alz(h:jT B w L s l vs vb vl)(u:2<=l.jH.length)(O:l.jH.length<=900000)(p:Nat)(V:St)(R:l.jB[p]? =some V)(A:l.top.opener=p)(Q:¬V.op=4)(r:Nat)(E:St)(hr:l.jB[r]? =some E)(P:0<r)(ho:l.top.other=r)(q a b c d dp t:Int):
 Calls prog 116 #[Pt L 0,.agg #[.int .u8 q,Im a,Im b,Im c,Im d,Im dp,Im t]] w λe m=>e=.returned (.tuple #[])/\
  ∃F j lq,jT B m L s (uf l r E l.jH.dropLast l.top) F j lq/\jV L w vs vb vl m F j lq:=by
 have z:l.jH≠[]:=λe=>by rw[e]at u;simp at u
 obtain⟨g,x,f,v,S,G,i,uZ,aa,ae,Bl,Fa,b0,b1,b2,b3,hf⟩:=h.inner z;subst S;have H:l.jH.length=f.length+1:=by rw[G];simp
 rw[H]at h⊢;have HI:Hid (∀o,Calls prog 168 #[Pt L 0] (w.alloc o) λe m=>e=.returned (Pt g (f.length * 4))/\∃k,m=(w.alloc o).drewN k):=λo=>
  CX L g f.length x (w.alloc o) (h.alloc o).c3 (by omega)
 have W:Hid (∀o I k D,Calls prog 171 #[Pt L 0,.agg #[Im v.opener,Im v.other,Im v.jC,Im v.before]] ((((w.alloc o).drewN k).alloc I).drewN D) λe m=>e=.returned (.tuple #[])/\
  ∃j,jT B m L s (uf l r E l.jH.dropLast l.top) vs j vl/\jV L w vs (.slice (some (Ad g 0)) (f.length+1) x) vl m vs j vl):=λo I k D=>by
  have e1:l.jH.dropLast=f:=by rw[G];simp
  have N:f≠[]:=λe=>by rw[e]at H;simp at H;omega
  rw[e1,i];refine(als ((((h.alloc o).drewN k).alloc I).drewN D) f v G N O r E hr P (by rw[<-i];exact ho)).mono ?_;rintro e m ⟨J,j,K,h3⟩;exact⟨J,j,K,(jV.grow L w _ _ _ (ah w o none)).trans ((jV.grow L _ _ _ _ (lu _ k)).trans ((jV.grow L _ _ _ _ (ah _ I none)).trans (jV.trans (jV.grow L _ _ _ _ (lu _ D)) h3)))⟩
 have c3:=h.c3;have hL:=h.lt;have n1:¬L=w.heap.size:=by omega
 have n2:¬g=w.heap.size:=by omega
 have n3:¬L=w.heap.size+1:=by omega
 have n4:¬g=w.heap.size+1:=by omega
 rw[i]at A;rw[A]at b0 W;obtain⟨X,cs,T,ad,Ag,ab,ac,af,y,M⟩:=h.Dk R;subst T;have c2:=h.c2;have a0:=y.1;have n5:¬X=w.heap.size:=by omega
 have n6:¬X=w.heap.size+1:=by omega
 have Y:(((f.length:Int)+1)==1)=false:=by simp;omega
 have i0:(0:Int)<=(p:Int):=by omega
 have i1:(p:Int)<(l.jB.length:Int):=by omega
 have Z:(V.op==4)=false:=by simpa using Q
 clear h hf z G i H u y M;generalize uf l r E l.jH.dropLast l.top=l2 at *;generalize f.length=n at *;go_enter func116,ntmps116;go_wp2_with fail;refine(HI.out _).mono ?_;rintro e w1 ⟨rfl,k,rfl⟩;go_wp2_with fail;refine nO 10 (by kernel_rfl) (by kernel_rfl) ?_;simp only[aC,aO,aG,aQ];repeat (go_big_quiet_step (fail))
 refine bF ?_;intro _ U;obtain⟨D,C⟩:=U;subst C;go_wp2_with fail;refine(W.out _ _ _ _).mono ?_;rintro e w2 ⟨rfl,j,J,K⟩;go_wp2;go_end0;exact⟨rfl,_,_,_,J,K⟩
theorem aly(h:jT B w L s l vs vb vl)(r:2<=l.jH.length)(O:l.jH.length<=900000)(p:Nat)(v:St)(C:l.jB[p]? =some v)(u:l.top.opener=p)(P:¬v.op=4)(ho:¬0<l.top.other)(q a b c d dp t:Int):
 Calls prog 116 #[Pt L 0,.agg #[.int .u8 q,Im a,Im b,Im c,Im d,Im dp,Im t]] w λe m=>e=.returned (.tuple #[])/\
  ∃F j X,jT B m L s (uf l p v l.jH.dropLast l.top) F j X/\jV L w vs vb vl m F j X:=by
 have A:l.jH≠[]:=λe=>by rw[e]at r;simp at r
 obtain⟨g,y,f,x,Q,G,i,uZ,aa,ae,Bl,Fa,Z,b1,b2,b3,hf⟩:=h.inner A;subst Q;have H:l.jH.length=f.length+1:=by rw[G];simp
 rw[H]at h⊢;have Y:Hid (∀o,Calls prog 168 #[Pt L 0] (w.alloc o) λe m=>e=.returned (Pt g (f.length * 4))/\∃k,m=(w.alloc o).drewN k):=λo=>
  CX L g f.length y (w.alloc o) (h.alloc o).c3 (by omega)
 have T:Hid (∀o I k E,Calls prog 171 #[Pt L 0,.agg #[Im x.opener,Im x.other,Im x.jC,Im x.before]] ((((w.alloc o).drewN k).alloc I).drewN E) λe m=>e=.returned (.tuple #[])/\
  ∃j,jT B m L s (uf l p v l.jH.dropLast l.top) vs j vl/\jV L w vs (.slice (some (Ad g 0)) (f.length+1) y) vl m vs j vl):=λo I k E=>by
  have e1:l.jH.dropLast=f:=by rw[G];simp
  have N:f≠[]:=λe=>by rw[e]at H;simp at H;omega
  rw[e1,i];refine(alr ((((h.alloc o).drewN k).alloc I).drewN E) f x G N O p v C (by rw[<-i];exact ho) (by rw[<-i];exact u)).mono ?_;rintro e m ⟨J,j,K,h3⟩;exact⟨J,j,K,(jV.grow L w _ _ _ (ah w o none)).trans ((jV.grow L _ _ _ _ (lu _ k)).trans ((jV.grow L _ _ _ _ (ah _ I none)).trans (jV.trans (jV.grow L _ _ _ _ (lu _ E)) h3)))⟩
 have c3:=h.c3;have hL:=h.lt;have n1:¬L=w.heap.size:=by omega
 have n2:¬g=w.heap.size:=by omega
 have n3:¬L=w.heap.size+1:=by omega
 have n4:¬g=w.heap.size+1:=by omega
 rw[i]at u;rw[u]at Z T;obtain⟨U,cs,R,ad,Ag,ab,ac,af,z,M⟩:=h.Dk C;subst R;have c2:=h.c2;have a0:=z.1;have n5:¬U=w.heap.size:=by omega
 have n6:¬U=w.heap.size+1:=by omega
 have V:(((f.length:Int)+1)==1)=false:=by simp;omega
 have i0:(0:Int)<=(p:Int):=by omega
 have i1:(p:Int)<(l.jB.length:Int):=by omega
 have W:(v.op==4)=false:=by simpa using P
 clear h hf A G i H r z M;generalize uf l p v l.jH.dropLast l.top=l2 at *;generalize f.length=n at *;go_enter func116,ntmps116;go_wp2_with fail;refine(Y.out _).mono ?_;rintro e w1 ⟨rfl,k,rfl⟩;go_wp2_with fail;refine nO 10 (by kernel_rfl) (by kernel_rfl) ?_;simp only[aC,aO,aG,aQ];repeat (go_big_quiet_step (fail))
 refine bF ?_;intro _ S;obtain⟨E,D⟩:=S;subst D;go_wp2_with fail;refine(T.out _ _ _ _).mono ?_;rintro e w2 ⟨rfl,j,J,K⟩;go_wp2;go_end0;exact⟨rfl,_,_,_,J,K⟩
theorem akp(init:List Bk)(b:Bk)(j:Nat)(u:jm)(a:Bk)(c:j<4)(h:(rY b).set j u=rY a):((init++[b]).flatMap rY).set (init.length * 4+j) u=(init++[a]).flatMap rY:=by
 simp only[gu,c8,dJ,aX];rw[iw _ _ (by rw[IB];omega),IB,show init.length * 4+j-4 * init.length=j by omega,h]
theorem jT.XM{g n cap:Nat}(h:jT B w L s l vs (.slice (some (Ad g 0)) n cap) vl){init:List Bk}{b:Bk}(m:l.jH=init++[b])(r:n=l.jH.length)(j:Nat)(u:jm)(d:Bk)(q:j<4)(t:(rY b).set j u=rY d):
 jT B (w.setCell (Ad g (init.length * 4+j)) u) L s {l with jH:=init++[d]} vs (.slice (some (Ad g 0)) n cap) vl/\
 jV L w vs (.slice (some (Ad g 0)) n cap) vl (w.setCell (Ad g (init.length * 4+j)) u) vs (.slice (some (Ad g 0)) n cap) vl:=by
 have v:¬g=L:=λe=>h.nb (by rw[<-e];rfl);have c:∀k,(w.setCell (Ad g (init.length * 4+j)) u).cell? (Ad L k)=w.cell? (Ad L k):=λk=>bG _ _ _ _ (by intro e;cases e;exact v rfl);have i:=h.jH;subst r;have a:=i.stored (init.length * 4+j) u;rw[show(l.jH.flatMap rY).set (init.length * 4+j) u=(init++[d]).flatMap rY by rw[m];exact akp init b j u d q t]at a;have f:l.jH.length=(init++[d]).length:=by rw[m];simp
 refine⟨⟨h.bL,by rw[c];exact h.c0,by rw[c];exact h.c1,by rw[c];exact h.c2,by rw[c];exact h.c3,by rw[c];exact h.c4,by rw[c];exact h.c5,by rw[c];exact h.c6,by rw[c];exact h.c7,λj=>by rw[dX];exact h.fr j,
  h.jB.kept a.2 (by rcases h.sb with e|e
                    .exact jf e
                    .exact je e),?_,h.jY.kept a.2 ?_,h.ns,h.nb,h.nl,h.sb,h.sl,h.bl⟩,?_⟩
 .have:=a.1;rw[f]at this⊢;exact this
 .rcases h.bl with e|e
  .cases e
  .exact je (λo=>e o.symm)
 .exact⟨rfl,rfl,rfl,by simp,λk _ _ _ p _=>bC _ _ _ _ (λe=>p (by rw[e];rfl)),λ_ h=>jf h,λ_ h=>jf h,λ_ h=>jf h⟩
theorem alc(h:jT B w L s l vs vb vl)(j:l.jH.length=1)(q a b c d F t:Int):
 Calls prog 115 #[Pt L 0,.agg #[.int .u8 q,Im a,Im b,Im c,Im d,Im F,Im t]] w λe u=>e=.returned (.tuple #[])/\
  jT B u L s {l with bad:=true} vs vb vl/\jV L w vs vb vl u vs vb vl:=by
 have m:l.jH≠[]:=λe=>by rw[e]at j;simp at j
 obtain⟨g,i,f,Q,x,z,p,Z,G,I,J,K,M,N,O,P,H⟩:=h.inner m;subst x;have A:l.jH.length=f.length+1:=by rw[z];simp
 rw[A]at h⊢;have D:Hid (∀o,Calls prog 168 #[Pt L 0] (w.alloc o) λe u=>e=.returned (Pt g (f.length * 4))/\∃k,u=(w.alloc o).drewN k):=λo=>
  CX L g f.length i (w.alloc o) (h.alloc o).c3 (by omega)
 have E:Hid (∀o k,jT B (((w.setCell (Ad L 7) (.bool true)).alloc o).drewN k) L s {l with bad:=true} vs (.slice (some (Ad g 0)) (f.length+1) i) vl/\
  jV L w vs (.slice (some (Ad g 0)) (f.length+1) i) vl (((w.setCell (Ad L 7) (.bool true)).alloc o).drewN k) vs (.slice (some (Ad g 0)) (f.length+1) i) vl):=λo k=>
  ⟨(h.Jm.alloc o).drewN k,(jV.own L w _ _ _ 7 (.bool true)).trans ((jV.grow L _ _ _ _ (ah _ o none)).trans (jV.grow L _ _ _ _ (lu _ k)))⟩
 have R:=h.c3;have S:=h.c7;have T:=h.fr 7;have U:=h.lt;have X:¬L=w.heap.size:=by omega
 have Y:¬g=w.heap.size:=by omega
 have C:(((f.length:Int)+1)==1)=true:=by simp;omega
 clear h H m z p A j;generalize ({l with bad:=true}:Ls)=W at *;generalize f.length=n at *;go_enter func115,ntmps115;go_wp2_with fail;refine(D.out _).mono ?_;rintro e w1 ⟨rfl,k,rfl⟩;go_wp2_with fail;refine Dp 26 (by kernel_rfl) (by kernel_rfl) ?_;simp only[aC,aO,aG,aQ];repeat (go_big_quiet_step (fail))
 refine bF ?_;intro _ y;obtain⟨V,r⟩:=y;subst r;go_wp2;exact cu (v:=.tuple #[]) (by simp[results,Tryz.results115,go_sem]) rfl ⟨rfl,E.out _ _⟩
theorem ald(h:jT B w L s l vs vb vl)(m:2<=l.jH.length)(M:l.jH.length<=900000)(C:0<l.top.other)(q a b c d H t:Int):
 Calls prog 115 #[Pt L 0,.agg #[.int .u8 q,Im a,Im b,Im c,Im d,Im H,Im t]] w λe u=>e=.returned (.tuple #[])/\
  jT B u L s {l with bad:=true} vs vb vl/\jV L w vs vb vl u vs vb vl:=by
 have p:l.jH≠[]:=λe=>by rw[e]at m;simp at m
 obtain⟨g,i,f,G,x,z,j,uZ,I,K,O,P,Q,R,S,T,J⟩:=h.inner p;subst x;have A:l.jH.length=f.length+1:=by rw[z];simp
 rw[A]at h⊢;have E:Hid (∀o,Calls prog 168 #[Pt L 0] (w.alloc o) λe u=>e=.returned (Pt g (f.length * 4))/\∃k,u=(w.alloc o).drewN k):=λo=>
  CX L g f.length i (w.alloc o) (h.alloc o).c3 (by omega)
 have F:Hid (∀o k,jT B (((w.setCell (Ad L 7) (.bool true)).alloc o).drewN k) L s {l with bad:=true} vs (.slice (some (Ad g 0)) (f.length+1) i) vl/\
  jV L w vs (.slice (some (Ad g 0)) (f.length+1) i) vl (((w.setCell (Ad L 7) (.bool true)).alloc o).drewN k) vs (.slice (some (Ad g 0)) (f.length+1) i) vl):=λo k=>
  ⟨(h.Jm.alloc o).drewN k,(jV.own L w _ _ _ 7 (.bool true)).trans ((jV.grow L _ _ _ _ (ah _ o none)).trans (jV.grow L _ _ _ _ (lu _ k)))⟩
 have U:=h.c3;have V:=h.c7;have W:=h.fr 7;have X:=h.lt;have n1:¬L=w.heap.size:=by omega
 have n2:¬g=w.heap.size:=by omega
 have D:(((f.length:Int)+1)==1)=false:=by simp;omega
 rw[j]at C;have N:decide (0<G.other)=true:=by simpa using C
 clear h J p z j A m;generalize ({l with bad:=true}:Ls)=Z at *;generalize f.length=n at *;go_enter func115,ntmps115;go_wp2_with fail;refine(E.out _).mono ?_;rintro e w1 ⟨rfl,k,rfl⟩;go_wp2_with fail;refine Dp 26 (by kernel_rfl) (by kernel_rfl) ?_;simp only[aC,aO,aG,aQ];repeat (go_big_quiet_step (fail))
 refine bF ?_;intro _ y;obtain⟨Y,r⟩:=y;subst r;go_wp2;exact cu (v:=.tuple #[]) (by simp[results,Tryz.results115,go_sem]) rfl ⟨rfl,F.out _ _⟩
theorem ale(h:jT B w L s l vs vb vl)(m:2<=l.jH.length)(aa:l.jH.length<=900000)(K:¬0<l.top.other)(p:Nat)(H:St)(D:l.jB[p]? =some H)(x:l.top.opener=p)(C:¬H.op=2)(q a b c d S t:Int):
 Calls prog 115 #[Pt L 0,.agg #[.int .u8 q,Im a,Im b,Im c,Im d,Im S,Im t]] w λe z=>e=.returned (.tuple #[])/\
  jT B z L s {l with bad:=true} vs vb vl/\jV L w vs vb vl z vs vb vl:=by
 have u:l.jH≠[]:=λe=>by rw[e]at m;simp at m
 obtain⟨g,i,f,R,E,I,j,uZ,U,Z,Bl,Fa,Q,b1,b2,b3,V⟩:=h.inner u;subst E;have J:l.jH.length=f.length+1:=by rw[I];simp
 rw[J]at h⊢;have O:Hid (∀o,Calls prog 168 #[Pt L 0] (w.alloc o) λe z=>e=.returned (Pt g (f.length * 4))/\∃k,z=(w.alloc o).drewN k):=λo=>
  CX L g f.length i (w.alloc o) (h.alloc o).c3 (by omega)
 have P:Hid (∀o k,jT B (((w.setCell (Ad L 7) (.bool true)).alloc o).drewN k) L s {l with bad:=true} vs (.slice (some (Ad g 0)) (f.length+1) i) vl/\
  jV L w vs (.slice (some (Ad g 0)) (f.length+1) i) vl (((w.setCell (Ad L 7) (.bool true)).alloc o).drewN k) vs (.slice (some (Ad g 0)) (f.length+1) i) vl):=λo k=>
  ⟨(h.Jm.alloc o).drewN k,(jV.own L w _ _ _ 7 (.bool true)).trans ((jV.grow L _ _ _ _ (ah _ o none)).trans (jV.grow L _ _ _ _ (lu _ k)))⟩
 have c3:=h.c3;have c7:=h.c7;have f7:=h.fr 7;have hL:=h.lt;have n1:¬L=w.heap.size:=by omega
 have n2:¬g=w.heap.size:=by omega
 obtain⟨T,cs,F,Y,Ag,W,X,ac,r,A⟩:=h.Dk D;subst F;have c2:=h.c2;have a0:=r.1;have n5:¬T=w.heap.size:=by omega
 rw[j]at x K;rw[x]at Q;have i0:(0:Int)<=(p:Int):=by omega
 have i1:(p:Int)<(l.jB.length:Int):=by omega
 have M:(((f.length:Int)+1)==1)=false:=by simp;omega
 have ab:decide (0<R.other)=false:=by simpa using K
 have N:(H.op==2)=false:=by simpa using C
 clear h V u I j J m r A;generalize ({l with bad:=true}:Ls)=l2 at *;generalize f.length=n at *;go_enter func115,ntmps115;go_wp2_with fail;refine(O.out _).mono ?_;rintro e w1 ⟨rfl,k,rfl⟩;go_wp2_with fail;refine Dp 26 (by kernel_rfl) (by kernel_rfl) ?_;simp only[aC,aO,aG,aQ];repeat (go_big_quiet_step (fail))
 refine bF ?_;intro _ G;obtain⟨k2,y⟩:=G;subst y;go_wp2;exact cu (v:=.tuple #[]) (by simp[results,Tryz.results115,go_sem]) rfl ⟨rfl,P.out _ _⟩
theorem ala(h:jT B w L s l vs vb vl)(K:2<=l.jH.length)(ap:l.jH.length<=900000)(aq:l.jB.length<=900000)(ho:¬0<l.top.other)(p:Nat)(R:St)(O:l.jB[p]? =some R)(N:l.top.opener=p)(af:R.op=2)(q a b c d y t:Int):
 Calls prog 115 #[Pt L 0,.agg #[.int .u8 q,Im a,Im b,Im c,Im d,Im y,Im t]] w λe H=>e=.returned (.tuple #[])/\
  ∃r kL lq,jT B H L s (ES l ⟨q,a,b,c,d,y,t⟩ p R) r kL lq/\jV L w vs vb vl H r kL lq:=by
 have E:l.jH≠[]:=λe=>by rw[e]at K;simp at K
 obtain⟨g,z,init,bb,F,J,i,uZ,an,ao,Bl,Fa,T,b1,b2,b3,S⟩:=h.inner E;subst F;have Z:l.jH.length=init.length+1:=by rw[J];simp
 rw[Z]at h⊢;have HI:Hid (∀o,Calls prog 168 #[Pt L 0] (w.alloc o) λe H=>e=.returned (Pt g (init.length * 4))/\∃k,H=(w.alloc o).drewN k):=λo=>
  CX L g init.length z (w.alloc o) (h.alloc o).c3 (by omega)
 have HA:Hid (∀o k,Calls prog 118 #[Pt L 0,.agg #[.int .u8 q,Im a,Im b,Im c,Im d,Im y,Im t]] ((w.alloc o).drewN k) λe H=>e=.returned (.tuple #[])/\
  ∃r,jT B H L s (mP l ⟨q,a,b,c,d,y,t⟩) r (.slice (some (Ad g 0)) (init.length+1) z) vl/\jV L w vs (.slice (some (Ad g 0)) (init.length+1) z) vl H r (.slice (some (Ad g 0)) (init.length+1) z) vl):=λo k=>by
  refine(JQ ((h.alloc o).drewN k) E (by omega) (by omega) q a b c d y t).mono ?_;rintro e H ⟨I,r,h2,h3⟩;exact⟨I,r,h2,(jV.grow L w _ _ _ (ah w o none)).trans (jV.trans (jV.grow L _ _ _ _ (lu _ k)) h3)⟩
 obtain⟨gs,cs,P,Y,Ag,V,W,ae,A,D⟩:=h.Dk O;subst P;have HB:Hid ((mP l ⟨q,a,b,c,d,y,t⟩).jH.length=init.length+1):=(P6 l _ E).trans Z;have HT:Hid ((mP l ⟨q,a,b,c,d,y,t⟩).top.opener=p):=by
  rw[ajC];exact N
 have HS:Hid ((mP l ⟨q,a,b,c,d,y,t⟩).jB[p]? =some R):=by
  rw[Nk,aT ae];exact O
 have HN:Hid ((mP l ⟨q,a,b,c,d,y,t⟩).jB.length=l.jB.length+1):=by
  show _=_;rw[Nk];simp
 have HE:Hid (ES l ⟨q,a,b,c,d,y,t⟩ p R=GI (mP l ⟨q,a,b,c,d,y,t⟩) l.jB.length p R):=rfl;rw[HE.out];clear HE;generalize mP l ⟨q,a,b,c,d,y,t⟩=G at *;have c2:=h.c2;have c3:=h.c3;have hL:=h.lt;have a0:=A.1;rw[i]at N ho;rw[N]at T;rw[af]at a0;have n1:¬L=w.heap.size:=by omega
 have n2:¬g=w.heap.size:=by omega
 have n5:¬gs=w.heap.size:=by omega
 have i0:(0:Int)<=(p:Int):=by omega
 have i1:(p:Int)<(l.jB.length:Int):=by omega
 have aj:(((init.length:Int)+1)==1)=false:=by simp;omega
 have ar:decide (0<bb.other)=false:=by simpa using ho
 have uF:Hid (init.length<=900000):=by show _<=_;omega
 clear h S E J i Z K A D O;generalize l.jB.length=x at *;go_enter func115,ntmps115;go_wp2_with fail;refine(HI.out _).mono ?_;rintro e w1 ⟨rfl,k,rfl⟩;go_wp2_with fail;refine Dp 26 (by kernel_rfl) (by kernel_rfl) ?_;simp only[aC,aO,aG,aQ];repeat (go_big_quiet_step (fail))
 refine bF ?_;intro _ Q;obtain⟨k2,C⟩:=Q;subst C;go_wp2_with fail;refine(HA.out _ _).mono ?_;rintro e w1 ⟨rfl,av,I,m1⟩;clear T b1 b2 b3 a0 c2 c3 Y Ag V W n5 Bl;obtain⟨m,U,P,Y,Ag,V,W,ak,A,D⟩:=I.Dk HS.out;subst P;obtain⟨v,u,f,j,F,J,i,_,_,ai,Bl,Fa,T,b1,b2,b3,S⟩:=I.inner (λe=>by have:=HB.out;rw[e]at this;simp at this);have Z:G.jH.length=f.length+1:=by rw[J];simp
 have ad:f.length=init.length:=by have:=HB.out;omega
 obtain⟨ab,M⟩:v=g/\u=z:=by
  have:=F;simp only[Value.slice.injEq,bJ,Addr.mk.injEq]at this;exact⟨this.1.1.symm,this.2.2.symm⟩
 subst ab;subst M;clear F;have aa:j.opener=p:=by rw[<-i];exact HT.out
 have HP:Hid (∀k,jT B (((((w1.setCell (Ad v (f.length * 4+1)) (Im x)).setCell (Ad v (f.length * 4+3)) (Im j.jC)).setCell (Ad v (f.length * 4+2)) (Im 0)).setCell (Ad m (p * 7+6)) (Im G.jB.length)).drewN k) L s (GI G x p R) (.slice (some (Ad m 0)) G.jB.length U) (.slice (some (Ad v 0)) (init.length+1) u) vl/\
  jV L w (.slice (some (Ad gs 0)) x cs) (.slice (some (Ad v 0)) (init.length+1) u) vl (((((w1.setCell (Ad v (f.length * 4+1)) (Im x)).setCell (Ad v (f.length * 4+3)) (Im j.jC)).setCell (Ad v (f.length * 4+2)) (Im 0)).setCell (Ad m (p * 7+6)) (Im G.jB.length)).drewN k) (.slice (some (Ad m 0)) G.jB.length U) (.slice (some (Ad v 0)) (init.length+1) u) vl):=λk=>by
  obtain⟨h2,m2⟩:=I.XM J (by omega) 1 (Im x) ⟨j.opener,x,j.jC,j.before⟩ (by omega) rfl;obtain⟨h3,m3⟩:=h2.XM (init:=f) (b:=⟨j.opener,x,j.jC,j.before⟩) rfl (by simp;omega) 3 (Im j.jC) ⟨j.opener,x,j.jC,j.jC⟩ (by omega) rfl;obtain⟨h4,m4⟩:=h3.XM (init:=f) (b:=⟨j.opener,x,j.jC,j.jC⟩) rfl (by simp;omega) 2 (Im 0) ⟨j.opener,x,0,j.jC⟩ (by omega) rfl;obtain⟨h5,m5⟩:=h4.SG HS.out (G.jB.length:Int);have e1:G.jH.dropLast=f:=by rw[J];simp
  unfold GI;rw[e1,i];exact⟨h5.drewN k,m1.trans (m2.trans (m3.trans (m4.trans (m5.trans (jV.grow L _ _ _ _ (lu _ k))))))⟩
 have c2:=I.c2;have f1:=S (f.length * 4+1);have f2:=S (f.length * 4+2);have f3:=S (f.length * 4+3);have f6:=D (p * 7+6);have a6:=A.2.2.2.2.2.2;have ac:¬m=v:=λe=>Bl (by rw[<-e];rfl);have ag:¬v=m:=λe=>ac e.symm;have al:¬L=v:=λe=>uZ e.symm;have am:¬L=m:=λe=>Ag e.symm;rw[aa]at T;rw[ad]at T b1 b2 b3 f1 f2 f3 HP;rw[HN.out]at HP c2;clear I m1 J i S D A Z HA HB HS HT HI Bl;generalize X:init.length=n at *;have HJ:=jA X;clear X;have j1:(p:Int)<((x:Int)+1):=by omega
 have au:IntKind.i64.wrap (x:Int)=(x:Int):=by rw[IntKind.wrap_i64];omega
 go_wp2_with fail;refine nO 15 (by kernel_rfl) (by kernel_rfl) ?_;simp only[aC,aO,aG,aQ];repeat (go_big_quiet_step (fail))
 refine bF ?_;intro _ Q;obtain⟨k4,C⟩:=Q;subst C;go_wp2;go_end0;have hm:=(HP.out k4).1;have hv:=(HP.out k4).2;rw[HJ.out];exact⟨rfl,_,_,_,hm,hv⟩
end
theorem Ob(w:jk)(a b:Obj):((w.alloc a).alloc b).heap[w.heap.size+1]? =some b/\((w.alloc a).alloc b).heap[w.heap.size]? =some a:=by
 have e:(w.alloc a).heap.size=w.heap.size+1:=by simp
 constructor
 .rw[<-e];exact aY _ _
 .have h:=(ah (w.alloc a) b none).block w.heap.size (by rw[e];omega) (by simp);rw[h];exact aY _ _
theorem apK(w:jk)(s:ji):
 Calls prog 71 #[.string s] w λe h=>∃L,e=.returned (Pt L 0)/\w.heap.size<=L/\w.grownBy h none/\
  ∃g d,jT w.heap.size h L s ug (Nl) (.slice (some (Ad g 0)) 1 d) (Nl):=by
 have i:Hid (∀b c,b=Obj.cells #[Im 0,Im 0,Im 0,Im 0] 226->
  c=Obj.cells #[.string s,Im 0,Nl,.slice (some (Ad w.heap.size 0)) 1 1,Nl,Im 8,Im 0,.bool false] 151->
  jT w.heap.size ((w.alloc b).alloc c) (w.heap.size+1) s ug (Nl) (.slice (some (Ad w.heap.size 0)) 1 1) (Nl)):=by
  intro b c m n;obtain⟨f,k⟩:=Ob w b c;generalize (w.alloc b).alloc c=o at *;subst m;subst n;have a:∀j,j<8->o.cell? (Ad (w.heap.size+1) j)=(#[Value.string s,Im 0,Nl,.slice (some (Ad w.heap.size 0)) 1 1,Nl,Im 8,Im 0,.bool false]:Array jm)[j]? :=λj _=>by
   simp[World.cell?,f]
  refine⟨by omega,a 0 (by omega),a 1 (by omega),a 2 (by omega),a 3 (by omega),a 4 (by omega),a 5 (by omega),a 6 (by omega),a 7 (by omega),λj=>?_,⟨rfl,jf ⟨rfl,rfl⟩⟩,⟨rfl,je ⟨_,1,_,rfl,aj _,k,aj _,by unfold maxLen;omega,rfl,rfl⟩⟩,⟨rfl,jf ⟨rfl,rfl⟩⟩,by simp[Value.ownBlock],by simp[Value.ownBlock],by simp[Value.ownBlock],jf rfl,jf rfl,je (by simp[Value.ownBlock])⟩;simp[World.frozen?,f]
 go_enter func71,ntmps71;go_wp2;go_ret;exact⟨_,rfl,by omega,(ah w _ none).trans (ah _ _ none),_,_,i.out _ _ rfl rfl⟩
section
variable {B:Nat}{w:jk}{L:Nat}{s:ji}{l:Ls}{vs vb vl:jm}
theorem ar6(h:jT B w L s l vs vb vl)(d:l.pos=s.size):
 Calls prog 112 #[Pt L 0] w λe g=>e=.returned (.tuple #[.agg #[.int .u8 0,Im 0,Im 0,Im 0,Im 0,Im 0,Im 0],.bool false])/\w.grownBy g none:=by
 have i:=h.c0;have c:=h.c1;have j:=h.lt;rw[d]at c;have k:¬L=w.heap.size:=by omega
 clear h;go_enter func112,ntmps112;go_wp2_with fail;refine nO 9 (by kernel_rfl) (by kernel_rfl) ?_;simp only[aC,aO,aG,aQ];repeat (go_big_quiet_step (fail))
 refine bF ?_;intro _ b;obtain⟨f,a⟩:=b;subst a;go_wp2;refine cu (v:=.tuple #[.agg #[.int .u8 0,Im 0,Im 0,Im 0,Im 0,Im 0,Im 0],.bool false]) (by simp[results,Tryz.results112,go_sem]) rfl ?_;exact⟨rfl,(ah w _ none).trans (lu _ f)⟩
end
end
end Go.Proofs.YthllhabjfchgiaaGreatDoor
