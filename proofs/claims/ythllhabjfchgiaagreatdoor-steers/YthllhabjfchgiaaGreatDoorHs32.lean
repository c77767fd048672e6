import Derived.Test.YthllhabjfchgiaaGreatDoorHs31
set_option maxRecDepth 100000
set_option maxHeartbeats 8000000
set_option linter.unusedSimpArgs false
namespace Go.Proofs.YthllhabjfchgiaaGreatDoor
open _root_.Go.Proofs.Tryz
section
open Go.RowKit Hx
attribute [local go_sem ↓] Go.wp_at_zero Go.wp_at_succ
attribute [local go_sem] kN
section
variable {s:ji}{ex:Ps->Ex×Ps}{jM:Ps->List jI×Ps}{d:Nat}{p:Ps}
theorem Ry{l:List jI}{w:jk}{lo hi:Nat}{v:jm}(h:mY l w lo hi v):∃a n c,v=.slice a n c:=by
 rcases h with⟨_,h⟩|⟨g,cap,us,b,h,_⟩
 .exact⟨_,_,_,h⟩
 .exact⟨_,_,_,h⟩
theorem ah0(w:jk)(T:jo)(a b c:Int)(h:0<=a/\a<=1000001)(j:0<=b/\b<=1000001)(k:0<=c/\c<=1000001):Dv (w.alloc (.cells #[Im a,Im b,Im c] T)) (.slice (some (Ad w.heap.size 0)) 3 3) [a,b,c]:=by
 refine⟨by simp;exact⟨h,j,k⟩,by simp,je ⟨_,_,rfl,λi y f=>?_⟩⟩
 match i,f with
 |0,f=>cases f;exact jG (aY w _)
 |1,f=>cases f;exact jG (aY w _)
 |2,f=>cases f;exact jG (aY w _)
theorem aoH{l:List jI}(h:∀e∈l,oI e){w w':jk}{lo hi P:Nat}{v:jm}(c:mY l w lo hi v)(k:P<lo)(f:hi<=w.heap.size)(a:w.grownBy w' (some P)):mY l w' lo hi v:=
 (uN h).loc _ _ _ _ _ c λb i j=>a.block b (by omega) (by simp;omega)
theorem aoI(w:jk)(lo hi:Nat):mY [] w lo hi (Nl):=jf ⟨rfl,rfl⟩
def Pz(e:Ex)(y n:List jI)(P:Nat)(s:ji)(q:Ps)(w w7:jk)(T1:jo)(A1:Nat)(vy vn:jm):Prop:=
 ∃m k,w.heap.size<=m/\m<=k/\k<=w7.heap.size/\e.here e.at' w7 w.heap.size m (.iface T1 (Pt A1 0))/\mY y w7 m k vy/\mY n w7 k w7.heap.size vn/\jR w7 P s q/\w.grownBy w7 (some P)
theorem Pz.done{u:Int}{e:Ex}{y n:List jI}{P:Nat}{s:ji}{q:Ps}{w D:jk}{j:jo}{i:Nat}{z v:jm}(h:Pz e y n P s q w D j i z v)(B:kT e)(J:∀x∈y,oI x)(f:∀x∈n,oI x){a:jk}(H:D.grownBy a none)(o c:Obj)
 (I:c=Obj.cells #[Im u,Im (jS [e.jw,sumOf y,sumOf n]),.iface j (Pt i 0),z,v,.bool false] 341):
 (qo u e y n).here ((a.alloc o).alloc c) w.heap.size ((a.alloc o).alloc c).heap.size (.iface 339 (Pt (a.heap.size+1) 0))/\jR ((a.alloc o).alloc c) P s q/\w.grownBy ((a.alloc o).alloc c) (some P):=by
 obtain⟨m,k,E,F,S,K,L,M,N,O⟩:=h;have gg:=H.trans (ah a o none);have A:=gg.trans (ah (a.alloc o) c none);have Q:=gg.size;have C:=uN J;have ln:=uN f;have G:WL (e.here e.at') (mY y) (mY n) (a.alloc o) w.heap.size (a.alloc o).heap.size [.iface j (Pt i 0),z,v]:=
  ⟨m,k,_,_,_,rfl,E,F,by omega,(B.law _).loc _ _ _ _ _ K (λb _ t=>gg.block b (by omega) (by simp)),C.loc _ _ _ _ _ L (λb _ t=>gg.block b (by omega) (by simp)),ln.wide _ _ _ _ _ _ (ln.loc _ _ _ _ _ M (λb _ t=>gg.block b t (by simp))) (aj _) Q⟩
 have f:=KY (ds:={}) (T':=339) (T:=341) (at':=u) (jw:=jS [e.jw,sumOf y,sumOf n]) (mk:=λus=>us++[.bool false]) (Ov (B.law _) C ln) G (by omega) I;rw[oz a o]at f;exact⟨f,N.grow A,O.trans (A.but _)⟩
theorem akW(hs:s.size<=4000)(h:Reader s ex (d+1))(J:Ez s jM (d+1))(A:∀p,p.Ok s->Deep (d+1) p->Iu 241 s p (jM p))(B:∀p,(jM p).1.length<=1000000)(ok:p.Ok s)(hd:Deep (d+1) p)(ht:p.is [105,102]=true):uH 225 s p (CG s ex jM p):=by
 intro P w hp;have ak:=hp.lt;have G:=oC ok (oW (by simp) ht);have d1:=hd.good G;obtain⟨H,x2⟩:=h.good _ G.ok d1;have d2:=d1.good H;obtain⟨I,x3⟩:=J _ H.ok d2;have d3:=d2.good I;have HN:Hid (Calls prog 236 #[Pt P 0] w (qN P s w (.agg #[Im p.k.kind,.string p.k.text,Im p.k.at']) (p.next s))):=xQ hp ok hs;have H1:=jA (λx (f:jR x P s (p.next s))=>h.reads _ G.ok d1 P x f);have H2:=jA (λx (f:jR x P s (ex (p.next s)).2)=>A _ H.ok d2 P x f);have ai:=NR p.k.kind p.k.at' p.k.text;have u:=jA x2;have i:Hid ((∀e∈(jM (ex (p.next s)).2).1,oI e)/\(jM (ex (p.next s)).2).1.length<=1000000):=⟨x3,B _⟩;have HE:Hid ((jM (ex (p.next s)).2).2.is [101,108,115,101]=true->(∀x,jR x P s (jM (ex (p.next s)).2).2->Calls prog 236 #[Pt P 0] x (qN P s x (xY (jM (ex (p.next s)).2).2.k) ((jM (ex (p.next s)).2).2.next s)))/\(∀x,jR x P s ((jM (ex (p.next s)).2).2.next s)->Calls prog 241 #[Pt P 0] x λe w'=>∃v,e=.returned v/\mY (jM ((jM (ex (p.next s)).2).2.next s)).1 w' x.heap.size w'.heap.size v/\jR w' P s (jM ((jM (ex (p.next s)).2).2.next s)).2/\x.grownBy w' (some P))/\(∀e∈(jM ((jM (ex (p.next s)).2).2.next s)).1,oI e)/\(jM ((jM (ex (p.next s)).2).2.next s)).1.length<=1000000):=λc=>by
  have g4:=oC I.ok (oW (by simp) c);exact⟨λx f=>xQ f I.ok hs,λx f=>A _ g4.ok (d3.good g4) P x f,(J _ g4.ok (d3.good g4)).2,B _⟩
 have HM:Hid (CG s ex jM p=if (jM (ex (p.next s)).2).2.is [101,108,115,101]then (qo p.k.at' (ex (p.next s)).1 (jM (ex (p.next s)).2).1 (jM ((jM (ex (p.next s)).2).2.next s)).1,(jM ((jM (ex (p.next s)).2).2.next s)).2)else (qo p.k.at' (ex (p.next s)).1 (jM (ex (p.next s)).2).1 [],(jM (ex (p.next s)).2).2)):=rfl;generalize CG s ex jM p=R at *;generalize jM ((jM (ex (p.next s)).2).2.next s)=O at *;generalize jM (ex (p.next s)).2=t at *;generalize ex (p.next s)=N at *;generalize t.2.next s=q4 at *;generalize p.next s=q at *;generalize p.k.kind=kk at *;generalize p.k.text=kt at *;generalize p.k.at'=ka at *;clear hp G d1 H x2 d2 I x3 d3 ok hd ht h J A B;go_enter func225,ntmps225;go_wp2_with fail;refine HN.out.mono ?_;rintro e w1 ⟨rfl,p1,G⟩;have K:=jA (jd p1 G);clear p1 G HN;go_wp2_with fail;refine(H1.out _ K.out.1).mono ?_;rintro e w2 ⟨v1,rfl,e2,p2,H⟩;obtain⟨T1,A1,ad,al,a1,a2,a3⟩:=u.out.sH e2;subst ad;have a:=jA (jd e2 (jd p2 H));clear e2 p2 H H1;go_wp2_with fail;refine(H2.out _ a.out.2.1).mono ?_;rintro e w3 ⟨vy,rfl,e3,p3,I⟩;obtain⟨ya,yn,yc,af⟩:=Ry e3;subst af;have j:=jA (jd e3 (jd p3 I));clear e3 p3 I H2;have M:=jA (I5 j.out.2.1 [101,108,115,101]);cases c:t.2.is [101,108,115,101]with
 |false=>
  have xE:Hid (R=(qo ka N.1 t.1 [],t.2)):=by have:=HM.out;rw[c]at this;exact this
  rw[c]at M;clear c HM HE;go_wp2_with fail;refine M.out.mono ?_;rintro e w4 ⟨rfl,C⟩;rw[C];clear C M;have T:Hid (Pz N.1 t.1 [] P s t.2 w w3 T1 A1 (.slice ya yn yc) (Nl)):=by
   have s1:=K.out.2.size;have s2:=a.out.2.2.size;have s3:=j.out.2.2.size;exact⟨w2.heap.size,w3.heap.size,by omega,s3,aj _,(u.out.law _).wide _ _ _ _ _ _ (u.out.keep a.out.1 (by omega) (aj _) j.out.2.2) s1 (aj _),j.out.1,aoI _ _ _,j.out.2.1,K.out.2.trans (a.out.2.2.trans j.out.2.2)⟩
  have n:Hid ((∀e∈([]:List jI),oI e)/\([]:List jI).length<=1000000):=⟨by simp,by simp⟩;generalize F:([]:List jI)=nl at *;clear F;generalize t.2=qf at *;clear K a j;obtain⟨m,k,_,_,_,t1,t2,t3,_,_⟩:=T.out;obtain⟨ac,ab,z1,_,_,_,W⟩:=u.out.sH t1;cases z1;have S:=jA (uq A1 0 _ W);have V:=jA (λx (f:w3.grownBy x none)=>Jv i.out.1 i.out.2 (Jk i.out.1 ((uN i.out.1).loc _ _ _ _ _ t2 (λb _ J=>f.block b (by omega) (by simp)))));have U:=jA (λx (f:w3.grownBy x none)=>Jv n.out.1 n.out.2 (Jk n.out.1 ((uN n.out.1).loc _ _ _ _ _ t3 (λb _ J=>f.block b (by omega) (by simp)))));clear t1 t2 t3 W;go_wp2_with fail;refine S.out.mono ?_;rintro e w8 ⟨rfl,D⟩;rw[D];clear D S;go_wp2_with fail;refine(V.out _ (aN _ _)).mono ?_;rintro e w9 ⟨rfl,X⟩;have L:=jA X;clear X;go_wp2_with fail;refine(U.out _ L.out).mono ?_;rintro e E ⟨rfl,y⟩;have Q:=jA (L.out.trans y);clear y L V U;go_wp2_with fail;refine(Aj ka _ [N.1.jw,sumOf t.1,sumOf nl] (ah0 E _ _ _ _ u.out.jw (rP i.out.1) (rP n.out.1))).mono ?_;rintro e ag ⟨rfl,z⟩;have Ua:=jA (Q.out.trans ((ah E _ none).trans z));clear z Q;go_wp2_with fail;go_ret;rw[xE.out];exact⟨_,rfl,T.out.done u.out i.out.1 n.out.1 Ua.out _ _ rfl⟩
 |true=>
  obtain⟨aa,Y,Z,F⟩:=HE.out c;have xE:Hid (R=(qo ka N.1 t.1 O.1,O.2)):=by have:=HM.out;rw[c]at this;exact this
  have MG:=jA aa;have L9:=jA Y;have n:=jA (jd Z F);rw[c]at M;clear c HM HE aa Y Z F;generalize xY t.2.k=tv at *;go_wp2_with fail;refine M.out.mono ?_;rintro e w4 ⟨rfl,C⟩;rw[C];clear C M;go_wp2_with fail;refine(MG.out _ j.out.2.1).mono ?_;rintro e w5 ⟨rfl,p5,g5⟩;have vK:=jA (jd p5 g5);clear p5 g5 MG;go_wp2_with fail;refine(L9.out _ vK.out.1).mono ?_;rintro e w6 ⟨vn,rfl,e6,p6,g6⟩;obtain⟨na,nn,nc,ae⟩:=Ry e6;subst ae;have T:Hid (Pz N.1 t.1 O.1 P s O.2 w w6 T1 A1 (.slice ya yn yc) (.slice na nn nc)):=by
   have s1:=K.out.2.size;have s2:=a.out.2.2.size;have s3:=j.out.2.2.size;have s5:=vK.out.2.size;have s6:=g6.size;have IJ:=vK.out.2.trans g6;exact⟨w2.heap.size,w5.heap.size,by omega,by omega,s6,(u.out.law _).wide _ _ _ _ _ _ (u.out.keep a.out.1 (by omega) (aj _) (j.out.2.2.trans IJ)) s1 (aj _),(uN i.out.1).wide _ _ _ _ _ _ (aoH i.out.1 j.out.1 (by omega) (aj _) IJ) (aj _) s5,e6,p6,K.out.2.trans (a.out.2.2.trans (j.out.2.2.trans IJ))⟩
  generalize O.1=nl at *;generalize O.2=qf at *;clear e6 p6 g6 L9 K a j vK;obtain⟨m,k,_,_,_,t1,t2,t3,_,_⟩:=T.out;obtain⟨ac,ab,z1,_,_,_,W⟩:=u.out.sH t1;cases z1;have S:=jA (uq A1 0 _ W);have V:=jA (λx (f:w6.grownBy x none)=>Jv i.out.1 i.out.2 (Jk i.out.1 ((uN i.out.1).loc _ _ _ _ _ t2 (λb _ J=>f.block b (by omega) (by simp)))));have U:=jA (λx (f:w6.grownBy x none)=>Jv n.out.1 n.out.2 (Jk n.out.1 ((uN n.out.1).loc _ _ _ _ _ t3 (λb _ J=>f.block b (by omega) (by simp)))));clear t1 t2 t3 W;go_wp2_with fail;refine S.out.mono ?_;rintro e w8 ⟨rfl,D⟩;rw[D];clear D S;go_wp2_with fail;refine(V.out _ (aN _ _)).mono ?_;rintro e w9 ⟨rfl,X⟩;have L:=jA X;clear X;go_wp2_with fail;refine(U.out _ L.out).mono ?_;rintro e E ⟨rfl,y⟩;have Q:=jA (L.out.trans y);clear y L V U;go_wp2_with fail;refine(Aj ka _ [N.1.jw,sumOf t.1,sumOf nl] (ah0 E _ _ _ _ u.out.jw (rP i.out.1) (rP n.out.1))).mono ?_;rintro e ag ⟨rfl,z⟩;have Ua:=jA (Q.out.trans ((ah E _ none).trans z));clear z Q;go_wp2_with fail;go_ret;rw[xE.out];exact⟨_,rfl,T.out.done u.out i.out.1 n.out.1 Ua.out _ _ rfl⟩
end
section
variable {s:ji}{ex ex':Ps->Ex×Ps}{jM:Ps->List jI×Ps}{d:Nat}{p:Ps}{r:jI×Ps}
def DF(s:ji)(p:Ps)(r:Option jI×Ps):Prop:=
 ∀(P:Nat)(w:jk),jR w P s p->Calls prog 191 #[Pt P 0] w λe w'=>(∃v,e=.returned v/\(match r.1 with|some st=>st.here w' w.heap.size w'.heap.size v|none=>v=.nilIface))/\jR w' P s r.2/\w.grownBy w' (some P)
theorem aqv(t:p.k.kind=2)(j:uH 220 s p r):DF s p (some r.1,r.2):=by
 intro P w h;have b:=jA (j P w h);have n:=kH.c1 h;have u:=kH.c2 h;rw[t]at n;generalize p.k.kind=x at *;generalize p.k.text=y at *;clear h j;go_enter func191,ntmps191;go_wp2_with fail;refine b.out.mono ?_;rintro e w2 ⟨v,rfl,c,f,i⟩;have a:=jA (jd c (jd f i));clear c f i b;go_wp2_with fail;go_ret;exact⟨⟨_,rfl,a.out.1⟩,a.out.2⟩
theorem aqw(t:p.k.kind=4)(j:uH 221 s p r):DF s p (some r.1,r.2):=by
 intro P w h;have b:=jA (j P w h);have n:=kH.c1 h;have u:=kH.c2 h;rw[t]at n;generalize p.k.kind=x at *;generalize p.k.text=y at *;clear h j;go_enter func191,ntmps191;go_wp2_with fail;refine b.out.mono ?_;rintro e w2 ⟨v,rfl,c,f,i⟩;have a:=jA (jd c (jd f i));clear c f i b;go_wp2_with fail;go_ret;exact⟨⟨_,rfl,a.out.1⟩,a.out.2⟩
theorem aqp(a:¬p.k.kind=2)(b:¬p.k.kind=4)(u:p.is [118,97,114]=true)(t:uH 222 s p r):DF s p (some r.1,r.2):=by
 intro P w h;have f:=jA (t P w h);have x:=kH.c1 h;have y:=kH.c2 h;have B:(p.k.kind==2)=false:=by simp[a]
 have C:(p.k.kind==4)=false:=by simp[b]
 have u:=lK u;generalize p.k.kind=z at *;generalize p.k.text=A at *;clear h t;go_enter func191,ntmps191;go_wp2_with fail;refine f.out.mono ?_;rintro e w2 ⟨v,rfl,i,j,n⟩;have c:=jA (jd i (jd j n));clear i j n f;go_wp2_with fail;go_ret;exact⟨⟨_,rfl,c.out.1⟩,c.out.2⟩
theorem aqt(a:¬p.k.kind=2)(b:¬p.k.kind=4)(u:p.is [118,97,114]=false)(x:p.is [112,117,115,104]=true)(t:uH 223 s p r):DF s p (some r.1,r.2):=by
 intro P w h;have f:=jA (t P w h);have y:=kH.c1 h;have z:=kH.c2 h;have C:(p.k.kind==2)=false:=by simp[a]
 have D:(p.k.kind==4)=false:=by simp[b]
 have u:=lK u;have x:=lK x;generalize p.k.kind=A at *;generalize p.k.text=B at *;clear h t;go_enter func191,ntmps191;go_wp2_with fail;refine f.out.mono ?_;rintro e w2 ⟨v,rfl,i,j,n⟩;have c:=jA (jd i (jd j n));clear i j n f;go_wp2_with fail;go_ret;exact⟨⟨_,rfl,c.out.1⟩,c.out.2⟩
theorem aqu(a:¬p.k.kind=2)(b:¬p.k.kind=4)(u:p.is [118,97,114]=false)(x:p.is [112,117,115,104]=false)(y:p.is [114,101,116,117,114,110]=true)(t:uH 224 s p r):DF s p (some r.1,r.2):=by
 intro P w h;have f:=jA (t P w h);have z:=kH.c1 h;have A:=kH.c2 h;have D:(p.k.kind==2)=false:=by simp[a]
 have E:(p.k.kind==4)=false:=by simp[b]
 have u:=lK u;have x:=lK x;have y:=lK y;generalize p.k.kind=B at *;generalize p.k.text=C at *;clear h t;go_enter func191,ntmps191;go_wp2_with fail;refine f.out.mono ?_;rintro e w2 ⟨v,rfl,i,j,n⟩;have c:=jA (jd i (jd j n));clear i j n f;go_wp2_with fail;go_ret;exact⟨⟨_,rfl,c.out.1⟩,c.out.2⟩
theorem aqm(a:¬p.k.kind=2)(b:¬p.k.kind=4)(u:p.is [118,97,114]=false)(x:p.is [112,117,115,104]=false)(y:p.is [114,101,116,117,114,110]=false)(z:p.is [105,102]=true)(t:uH 225 s p r):DF s p (some r.1,r.2):=by
 intro P w h;have f:=jA (t P w h);have A:=kH.c1 h;have B:=kH.c2 h;have E:(p.k.kind==2)=false:=by simp[a]
 have F:(p.k.kind==4)=false:=by simp[b]
 have u:=lK u;have x:=lK x;have y:=lK y;have z:=lK z;generalize p.k.kind=C at *;generalize p.k.text=D at *;clear h t;go_enter func191,ntmps191;go_wp2_with fail;refine f.out.mono ?_;rintro e w2 ⟨v,rfl,i,j,n⟩;have c:=jA (jd i (jd j n));clear i j n f;go_wp2_with fail;go_ret;exact⟨⟨_,rfl,c.out.1⟩,c.out.2⟩
theorem aqo(a:¬p.k.kind=2)(b:¬p.k.kind=4)(u:p.is [118,97,114]=false)(x:p.is [112,117,115,104]=false)(y:p.is [114,101,116,117,114,110]=false)(z:p.is [105,102]=false)(A:p.is [101,97,99,104]=true)(t:uH 226 s p r):DF s p (some r.1,r.2):=by
 intro P w h;have f:=jA (t P w h);have B:=kH.c1 h;have C:=kH.c2 h;have F:(p.k.kind==2)=false:=by simp[a]
 have G:(p.k.kind==4)=false:=by simp[b]
 have u:=lK u;have x:=lK x;have y:=lK y;have z:=lK z;have A:=lK A;generalize p.k.kind=D at *;generalize p.k.text=E at *;clear h t;go_enter func191,ntmps191;go_wp2_with fail;refine f.out.mono ?_;rintro e w2 ⟨v,rfl,i,j,n⟩;have c:=jA (jd i (jd j n));clear i j n f;go_wp2_with fail;go_ret;exact⟨⟨_,rfl,c.out.1⟩,c.out.2⟩
theorem afy(a:¬p.k.kind=2)(b:¬p.k.kind=4)(c:p.is [118,97,114]=false)(f:p.is [112,117,115,104]=false)(i:p.is [114,101,116,117,114,110]=false)(j:p.is [105,102]=false)(n:p.is [101,97,99,104]=false):DF s p (none,p):=by
 intro P w h;have t:Hid (jR w P s p/\w.grownBy w (some P)):=⟨h,aN _ _⟩;have u:=kH.c1 h;have v:=kH.c2 h;have x:(p.k.kind==2)=false:=by simp[a]
 have y:(p.k.kind==4)=false:=by simp[b]
 have c:=lK c;have f:=lK f;have i:=lK i;have j:=lK j;have n:=lK n;clear h;go_enter func191,ntmps191;go_wp2_with fail;go_ret;exact⟨⟨_,rfl,rfl⟩,t.out⟩
theorem at6(n:Nat)(t:p.k.kind=2->uH 220 s p (Lu s ex p))(u:p.k.kind=4->uH 221 s p (LH s ex p))(z:p.is [118,97,114]=true->uH 222 s p (Eb s ex p))
 (x:p.is [112,117,115,104]=true->uH 223 s p (Ll s ex' p))(y:p.is [114,101,116,117,114,110]=true->uH 224 s p (Lm s p))(hi:p.is [105,102]=true->uH 225 s p (CG s ex jM p))
 (v:p.is [101,97,99,104]=true->uH 226 s p (CY s jM ex' n p)):DF s p (o8 s ex jM ex' n p):=by
 unfold o8;split
 .rename_i k;exact aqv k (t k)
 rename_i b;split
 .rename_i k;exact aqw k (u k)
 rename_i c;cases a:p.is [118,97,114]with
 |true=>exact aqp b c a (z a)
 |false=>
 cases f:p.is [112,117,115,104]with
 |true=>exact aqt b c a f (x f)
 |false=>
 cases h:p.is [114,101,116,117,114,110]with
 |true=>exact aqu b c a f h (y h)
 |false=>
 cases i:p.is [105,102]with
 |true=>exact aqm b c a f h i (hi i)
 |false=>
 cases j:p.is [101,97,99,104]with
 |true=>exact aqo b c a f h i j (v j)
 |false=>exact afy b c a f h i j
end
section
variable {s:ji}{ex:Ps->Ex×Ps}{d:Nat}{p:Ps}
theorem ac2{W y:jk}{o:Obj}(h:W.grownBy y none):W.grownBy (y.alloc o) none:=h.trans (ah y o none)
theorem ac3{W y:jk}(h:W.grownBy y none):W.grownBy y.drew none:=h.trans ⟨rfl,rfl,rfl,aj _,λ_ _ _=>rfl⟩
theorem ac4{W y:jk}{k:Nat}(h:W.grownBy y none):W.grownBy (y.drewN k) none:=h.trans (lu y k)
theorem apl(S:s.size<=4000)(h:Reader s ex (d+1))(X:p.Ok s)(hd:Deep (d+1) p)(ht:p.is [118,97,114]=true):uH 222 s p (Eb s ex p):=by
 intro P w Q;have ab:=Q.lt;have z:=oC X (oW (by simp) ht);have I:=EZ z.ok;have L:=hd.good (z.trans I);have Y:Hid (Calls prog 236 #[Pt P 0] w (qN P s w (.agg #[Im p.k.kind,.string p.k.text,Im p.k.at']) (p.next s))):=xQ Q X S;have G:=jA (λx (U:jR x P s (p.next s))=>KR U z.ok S);have aa:=NR p.k.kind p.k.at' p.k.text;obtain⟨H,x2⟩:=J7 h.good I.ok L;have K:=jA (λx (U:jR x P s ((p.next s).name s).2)=>VA S h I.ok L P x U);have D:=jA x2;show Calls prog 222 #[Pt P 0] w λe B=>∃v,e=.returned v/\(sF p.k.at' ((p.next s).name s).1 (qO s ex ((p.next s).name s).2).1).here B w.heap.size B.heap.size v/\jR B P s (qO s ex ((p.next s).name s).2).2/\w.grownBy B (some P);generalize qO s ex ((p.next s).name s).2=r at *;generalize (p.next s).name s=dq at *;obtain⟨⟨t,n⟩,q2⟩:=dq;generalize p.next s=q1 at *;generalize p.k.kind=kk at *;generalize p.k.text=kt at *;generalize p.k.at'=f at *;have G:Hid (∀x,jR x P s q1->Calls prog 232 #[Pt P 0] x (qN P s x (.agg #[.string t,Im n]) q2)):=G.out;simp only at K⊢;clear Q I L H x2 X hd h z ht;go_enter func222,ntmps222;go_wp2_with fail;refine Y.out.mono ?_;rintro e w1 ⟨rfl,p1,z⟩;have V:=jA (jd p1 z);clear p1 z Y;go_wp2_with fail;refine(G.out _ V.out.1).mono ?_;rintro e w2 ⟨rfl,p2,H⟩;have j:Hid (jR (w2.alloc (.cells #[.string t,Im n] 316)) P s q2/\w.grownBy w2 (some P)):=⟨p2.grow (ah _ _ none),V.out.2.trans H⟩;clear p2 H G V;go_wp2_with fail;refine(K.out _ j.out.1).mono ?_
 rintro e W ⟨v,rfl,M,p3,N⟩;obtain⟨T,A,rfl,ac,b1,b2,Z⟩:=D.out.sH M;have u:=(N.block _ (by rw[oz];omega) (by have:=j.out.2.size;simp;omega)).trans (aY _ _);have l3:=lT u;have g0:=jJ 0 u rfl;have z:=jJ 1 u rfl;have Sm:w2.heap.size<W.heap.size+1:=by omega
 have ad:w2.heap.size<W.heap.size+1+1:=by omega
 have ae:w2.heap.size<W.heap.size+1+1+1:=by omega
 have af:w2.heap.size<W.heap.size+2:=by omega
 have ag:w2.heap.size<W.heap.size+3:=by omega
 have OA:=jA (λy (F:W.grownBy y none)=>F.cell Z (by simp));have J:Hid (r.1.here r.1.at' W w.heap.size W.heap.size (.iface T (Pt A 0))/\jR W P s r.2/\w.grownBy W (some P)):=by
  have s2:=j.out.2.size;have hw:=j.out.2.trans (((ah w2 (.cells #[.string t,Im n] 316) none).but (some P)).trans N);exact⟨(D.out.law _).wide _ _ _ _ _ _ M (by rw[oz];omega) (aj _),p3,hw⟩
 have E:=D.out.jw;have EF:Hid (Calls prog 234 #[Im f,.slice (some (Ad W.heap.size 0)) 1 1] (W.alloc (.cells #[Im r.1.jw] 3)).drew λe B=>e=.returned (.agg #[Im f,Im (jS [r.1.jw])])/\B=((W.alloc (.cells #[Im r.1.jw] 3)).drew.alloc (.cells #[Im f,Im (jS [r.1.jw])] 323)).alloc (.cells #[Im 1,Im (kZ [r.1.jw])] 3)):=by
  refine KT f _ [r.1.jw] ⟨by simpa using E,by simp,je ⟨_,_,rfl,λi y F=>?_⟩⟩
  match i,F with
  |0,F=>
   cases F;have hh:(W.alloc (.cells #[Im r.1.jw] 3)).drew.heap[W.heap.size]? =some (.cells #[Im r.1.jw] 3):=aY W _;exact jG hh
 have C:Hid (∀a b c,(sF f ⟨t,n⟩ r.1).here ((((W.alloc a).alloc b).alloc c).alloc (.cells #[Im f,Im (jS [r.1.jw]),.string t,Im n,.iface T (Pt A 0)] 332)).drew w.heap.size ((((W.alloc a).alloc b).alloc c).alloc (.cells #[Im f,Im (jS [r.1.jw]),.string t,Im n,.iface T (Pt A 0)] 332)).drew.heap.size (.iface 331 (Pt (W.heap.size+1+1+1) 0))/\jR ((((W.alloc a).alloc b).alloc c).alloc (.cells #[Im f,Im (jS [r.1.jw]),.string t,Im n,.iface T (Pt A 0)] 332)).drew P s r.2/\w.grownBy ((((W.alloc a).alloc b).alloc c).alloc (.cells #[Im f,Im (jS [r.1.jw]),.string t,Im n,.iface T (Pt A 0)] 332)).drew (some P)):=λa b c=>by
  obtain⟨h1,O⟩:=QA W a b c (.cells #[Im f,Im (jS [r.1.jw]),.string t,Im n,.iface T (Pt A 0)] 332);have s3:=J.out.2.2.size;exact⟨⟨_,_,rfl,by omega,lT h1,⟨_,rfl,(D.out.law _).wide _ _ _ _ _ _ ((D.out.law _).loc _ _ _ _ _ J.out.1 (λb _ hb=>O.block b hb (by simp))) (aj _) (by omega)⟩,h1⟩,J.out.2.1.grow O,J.out.2.2.trans (O.but _)⟩
 clear u M p3 N K b1 b2 Z E;go_upto_region 4 with fail;go_region_with (first|(go_at_call 244;refine(uq A 0 r.1.jw (OA.out _ (by repeat (first|exact aN _ _|refine ac2 ?_|refine ac3 ?_|refine ac4 ?_)))).mono ?_;rintro e B ⟨rfl,rfl⟩)|(go_at_call 234;refine EF.out.mono ?_;rintro e B ⟨rfl,rfl⟩));all_goals
  go_wp2_with fail;go_ret;exact⟨_,rfl,C.out _ _ _⟩
theorem atr(X:s.size<=4000)(h:Reader s ex (d+1))(Q:p.Ok s)(V:Deep (d+1) p):uH 220 s p (Lu s ex p):=by
 intro P w N;have aa:=N.lt;have G:=EZ Q;have J:=V.good G;have E:=jA (λx (O:jR x P s p)=>KR O Q X);have z:=jA N;obtain⟨F,x2⟩:=J7 h.good G.ok J;have I:Hid (∀x,jR x P s (p.name s).2->Calls prog 233 #[Pt P 0] x λe j=>∃v,e=.returned v/\(qO s ex (p.name s).2).1.here (qO s ex (p.name s).2).1.at' j x.heap.size j.heap.size v/\jR j P s (qO s ex (p.name s).2).2/\x.grownBy j (some P)):=λx O=>VA X h G.ok J P x O;have B:=jA x2;show Calls prog 220 #[Pt P 0] w λe j=>∃v,e=.returned v/\(sV (p.name s).1 (qO s ex (p.name s).2).1).here j w.heap.size j.heap.size v/\jR j P s (qO s ex (p.name s).2).2/\w.grownBy j (some P);generalize qO s ex (p.name s).2=r at *;generalize p.name s=dq at *;obtain⟨⟨n,f⟩,q2⟩:=dq;have E:Hid (∀x,jR x P s p->Calls prog 232 #[Pt P 0] x (qN P s x (.agg #[.string n,Im f]) q2)):=E.out;simp only at I⊢;clear N G J F x2 Q V h;go_enter func220,ntmps220;go_wp2_with fail;refine(E.out _ z.out).mono ?_;rintro e w2 ⟨rfl,Y,F⟩;have k:Hid (jR (w2.alloc (.cells #[.string n,Im f] 316)) P s q2/\w.grownBy w2 (some P)):=⟨Y.grow (ah _ _ none),F⟩;clear Y F E z;go_wp2_with fail;refine(I.out _ k.out.1).mono ?_;rintro e W ⟨v,rfl,K,Z,L⟩;obtain⟨T,A,rfl,ab,b1,b2,S⟩:=B.out.sH K;have t:=(L.block _ (by rw[oz];omega) (by have:=k.out.2.size;simp;omega)).trans (aY _ _);have l3:=lT t;have g0:=jJ 0 t rfl;have g1:=jJ 1 t rfl;have Sm:w2.heap.size<W.heap.size+1:=by omega
 have ac:w2.heap.size<W.heap.size+1+1:=by omega
 have ad:w2.heap.size<W.heap.size+1+1+1:=by omega
 have ae:w2.heap.size<W.heap.size+2:=by omega
 have af:w2.heap.size<W.heap.size+3:=by omega
 have OA:=jA (λy (D:W.grownBy y none)=>D.cell S (by simp));have H:Hid (r.1.here r.1.at' W w.heap.size W.heap.size (.iface T (Pt A 0))/\jR W P s r.2/\w.grownBy W (some P)):=by
  have s2:=k.out.2.size;have hw:=k.out.2.trans (((ah w2 (.cells #[.string n,Im f] 316) none).but (some P)).trans L);exact⟨(B.out.law _).wide _ _ _ _ _ _ K (by rw[oz];omega) (aj _),Z,hw⟩
 have C:=B.out.jw;have EF:Hid (Calls prog 234 #[Im f,.slice (some (Ad W.heap.size 0)) 1 1] (W.alloc (.cells #[Im r.1.jw] 3)).drew λe j=>e=.returned (.agg #[Im f,Im (jS [r.1.jw])])/\j=((W.alloc (.cells #[Im r.1.jw] 3)).drew.alloc (.cells #[Im f,Im (jS [r.1.jw])] 323)).alloc (.cells #[Im 1,Im (kZ [r.1.jw])] 3)):=by
  refine KT f _ [r.1.jw] ⟨by simpa using C,by simp,je ⟨_,_,rfl,λi y D=>?_⟩⟩
  match i,D with
  |0,D=>
   cases D;have hh:(W.alloc (.cells #[Im r.1.jw] 3)).drew.heap[W.heap.size]? =some (.cells #[Im r.1.jw] 3):=aY W _;exact jG hh
 have u:Hid (∀a b c,(sV ⟨n,f⟩ r.1).here ((((W.alloc a).alloc b).alloc c).alloc (.cells #[Im f,Im (jS [r.1.jw]),.string n,Im f,.iface T (Pt A 0)] 326)).drew w.heap.size ((((W.alloc a).alloc b).alloc c).alloc (.cells #[Im f,Im (jS [r.1.jw]),.string n,Im f,.iface T (Pt A 0)] 326)).drew.heap.size (.iface 321 (Pt (W.heap.size+1+1+1) 0))/\jR ((((W.alloc a).alloc b).alloc c).alloc (.cells #[Im f,Im (jS [r.1.jw]),.string n,Im f,.iface T (Pt A 0)] 326)).drew P s r.2/\w.grownBy ((((W.alloc a).alloc b).alloc c).alloc (.cells #[Im f,Im (jS [r.1.jw]),.string n,Im f,.iface T (Pt A 0)] 326)).drew (some P)):=λa b c=>by
  obtain⟨U,M⟩:=QA W a b c (.cells #[Im f,Im (jS [r.1.jw]),.string n,Im f,.iface T (Pt A 0)] 326);have s3:=H.out.2.2.size;exact⟨⟨_,_,rfl,by omega,lT U,⟨_,rfl,(B.out.law _).wide _ _ _ _ _ _ ((B.out.law _).loc _ _ _ _ _ H.out.1 (λb _ hb=>M.block b hb (by simp))) (aj _) (by omega)⟩,U⟩,H.out.2.1.grow M,H.out.2.2.trans (M.but _)⟩
 clear t K Z L I b1 b2 S C;go_upto_region 3 with fail;go_region_with (first|(go_at_call 244;refine(uq A 0 r.1.jw (OA.out _ (by repeat (first|exact aN _ _|refine ac2 ?_|refine ac3 ?_|refine ac4 ?_)))).mono ?_;rintro e j ⟨rfl,rfl⟩)|(go_at_call 234;refine EF.out.mono ?_;rintro e j ⟨rfl,rfl⟩));all_goals
  go_wp2_with fail;go_ret;exact⟨_,rfl,u.out _ _ _⟩
end
end
section
open Go.RowKit Hx
theorem aho(st:Ps->Option jI×Ps):∀(n:Nat)(l:List jI)(p:Ps),(qg st n l p).1.length<=l.length+n
 |0,l,_=>aj _
 |n+1,l,p=>by
  unfold qg;split
  .rename_i e q _;have:=aho st n (l++[e]) q;simp only[aA,aF,bg]at this;omega
  .simp only;omega
theorem ahy(s:ji):∀(d:Nat)(p:Ps),(mV s d p).1.length<=s.size+1
 |0,_=>by simp[mV]
 |d+1,p=>by
  have:=aho (o8 s (lG s (d+1)) (qj s (mV s d)) (lG s d) (s.size+1)) (s.size+1) [] p;simpa [mV]using this
theorem akv(s:ji)(d:Nat)(p:Ps):(qj s (mV s d) p).1.length<=s.size+1:=ahy s d _
theorem ahK{g:Nat}:∀{a:List jI}{w n:jk}{i f:Nat}{us:List jm},(∀b∈a,Lawful b.here)->tJ g a w i f us->(∀b,i<=b->b<f->b≠g->n.heap[b]? =w.heap[b]?)->tJ g a n i f us
 |[],_,_,_,_,_,_,h,_=>h
 |b::a,_,_,_,_,_,hl,⟨l,m,u,us',h0,h1,h2,h3,h4,h5,h6⟩,hk=>
  ⟨l,m,u,us',h0,h1,h2,h3,h4,(hl b (aW ..)).loc _ _ _ _ _ h5 (λk v j=>hk k (by omega) (by omega) (by omega)),ahK (λc t=>hl c (aI _ t)) h6 (λk v j x=>hk k (by omega) j x)⟩
theorem aoJ{l:List jI}{w:jk}{B g lo hi:Nat}{v:jm}{us:List jm}(z:w.ownsRow B 192 1 v l.length us)(b:v.ownBlock=some g\/l=[])(i:tJ g l w lo hi us)(y:lo<=B)(x:w.heap.size<=hi):mY l w lo hi v:=by
 rcases z with⟨A,⟨f,n⟩|⟨k,cap,c,f,n,h,C,D,E,t⟩⟩
 .exact jf ⟨List.length_eq_zero_iff.1 n,f⟩
 .rcases b with b|b
  .subst f;simp only[Value.ownBlock,bJ]at b;subst b;refine je ⟨k,cap,us,c,rfl,by omega,by have:=lT h;omega,i,h,λj u a=>?_⟩;rw[<-t]at a;rw[iW]at a;split at a
   .simpa using a
   .cases a
  .subst b;have i:us=[]:=i;subst i;subst f;refine je ⟨k,cap,[],c,rfl,by omega,by have:=lT h;omega,rfl,h,λj u a=>by simp at a⟩
end
section
open Go.RowKit Hx
attribute [local go_sem ↓] Go.wp_at_zero Go.wp_at_succ
attribute [local go_sem] kN
section
variable {s:ji}{st:Ps->Option jI×Ps}{d:Nat}{p:Ps}
def atJ(st:Ps->Option jI×Ps)(gg:Nat)(l:List jI)(q:Ps):Option jI->List jI×Ps
 |some e=>qg st gg (l++[e]) q
 |none=>(l,q)
structure Gt(s:ji)(st:Ps->Option jI×Ps)(d:Nat)(R:List jI×Ps)(P:Nat)(w wr:jk)(vl vc:jm)(gg:Nat)(g:Nat)(l:List jI)(us:List jm)(cur:Option jI)(q:Ps)(m:Nat):Prop where
 tH:tJ g l wr w.heap.size m us
 own:wr.ownsRow w.heap.size 192 1 vl l.length us
 jM:(vl.ownBlock=some g/\g<m)\/(l=[]/\vl=Nl)
 Hg:w.heap.size<=m
 FB:m<=wr.heap.size
 here:∀e,cur=some e->e.here wr m wr.heap.size vc/\oI e/\(s.size:Int)+1-q.k.at'<=gg
 nil:cur=none->vc=.nilIface
 pr:jR wr P s q
 grown:w.grownBy wr (some P)
 ok:q.Ok s
 deep:Deep d q
 Bd:∀e∈l,oI e
 len:l.length+gg<=100000
 eq:atJ st gg l q cur=R
theorem XD{w:jk}{B n:Nat}{v:jm}{us:List jm}(h:w.ownsRow B 192 1 v n us):∃a c,v=.slice a n c:=by
 rcases h with⟨_,⟨b,i⟩|⟨g,cap,f,b,_⟩⟩
 .subst i;exact⟨_,_,b⟩
 .exact⟨_,_,b⟩
variable {R:List jI×Ps}{P:Nat}{w wr w2 w3:jk}{la:Option Addr}{lc ln gk g m gg cap:Nat}{l:List jI}{us:List jm}{vc:jm}{e:jI}{q:Ps}{o:Obj}
theorem Gt.ac1(h:Gt s st d R P w wr (.slice la ln lc) vc gk g l us (some e) q m)(f:(wr.alloc o).grownBy w2 (Value.slice la ln lc).ownBlock)(D:P<w.heap.size):
 (∀b,b<wr.heap.size->(b≠g\/m<=b)->w2.heap[b]? =wr.heap[b]?)/\jR w2 P s q/\w.grownBy w2 (some P)/\wr.heap.size<w2.heap.size:=by
 have a:=(ah wr o _).trans f;have n:=f.size;rw[oz]at n;have A:=h.grown.size;rcases h.jM with⟨c,x⟩|⟨c,x⟩
 .rw[c]at a;have k:w.heap.size<=g:=by
   rcases h.own with⟨_,⟨t,B⟩|⟨C,u,v,t,B,_⟩⟩
   .rw[t]at c;cases c
   .rw[t]at c;simp only[Value.ownBlock,bJ]at c;omega
  exact⟨λb i z=>a.block b i (by simp;omega),kH.pI h.pr a (by omega),h.grown.andThen a (λj y=>by cases y;exact jf k),by omega⟩
 .rw[x]at a;have a:wr.grownBy w2 none:=a;exact⟨λb i _=>a.block b i (by simp),h.pr.grow a,h.grown.trans (a.but _),by omega⟩
theorem Gt.next(h:Gt s st d R P w wr (.slice la ln lc) vc gk g l us (some e) q m)(f:PX s st d)(hP:P<w.heap.size)(N:l.length=ln)(M:(wr.alloc o).grownBy w2 (Value.slice la ln lc).ownBlock)
 (j:w2.ownsRow w.heap.size 192 1 (.slice (some (Ad gg 0)) (ln+1) cap) (ln+1) (us++[vc]))(J:(Value.slice la ln lc).ownBlock=some gg\/gg=wr.heap.size+1)(z:gg<w2.heap.size)
 {Q:jm}(C:match (st q).1 with|some st=>st.here w3 w2.heap.size w3.heap.size Q|none=>Q=.nilIface)(p3:jR w3 P s (st q).2)(B:w2.grownBy w3 (some P)):
 ∃n,gk=n+1/\Gt s st d R P w w3 (.slice (some (Ad gg 0)) (ln+1) cap) Q n gg (l++[e]) (us++[vc]) (st q).1 (st q).2 w2.heap.size:=by
 obtain⟨eh,U,ef⟩:=h.here e rfl;obtain⟨W,n2,n3,n4⟩:=h.ac1 M hP;have ab:=h.ok.tok.bd;have X:=h.ok.tok.zA;obtain⟨n,y⟩:∃n,gk=n+1:=⟨gk-1,by omega⟩;have ac:=h.grown.size;have O:=B.size;have F:=h.Hg;have E:=h.FB;have L:gg=g/\g<m\/wr.heap.size<=gg:=by
  rcases J with i|i
  .rcases h.jM with⟨I,h3⟩|⟨_,I⟩
   .rw[I]at i;exact jf ⟨(fZ i).symm,h3⟩
   .rw[I]at i;cases i
  .exact je (by omega)
 have hl:∀b∈l,Lawful b.here:=λb K=>(h.Bd b K).law;have V:=ahK hl h.tH (λb G A Z=>W b (by omega) (jf Z));have k2:tJ gg l w2 w.heap.size m us:=by
  rcases L with⟨i,_⟩|i
  .rw[i];exact V
  .exact ahL V (by omega)
 have k3:=U.law.loc _ _ _ _ _ eh (λb G A=>W b A (je G));have k4:tJ gg (l++[e]) w2 w.heap.size w2.heap.size (us++[vc]):=ahM k2 k3 F E (by omega) (by omega);have v:∀x∈l++[e],oI x:=λx c=>by
  rcases List.mem_append.1 c with c|c
  .exact h.Bd x c
  .rw[cO.1 c];exact U
 have aa:w.heap.size<=gg:=by
  rcases j with⟨_,⟨S,_⟩|⟨g2,T,Y,S,z3,_⟩⟩
  .cases S
  .cases S;exact z3
 refine⟨n,y,⟨LK (λb K=>(v b K).law) k4 (λb G A=>B.block b A (by simp;omega)),?_,jf ⟨rfl,z⟩,by omega,O,?_,?_,p3,n3.trans B,?_,?_,v,?_,?_⟩⟩
 .have:=j.kept B (je (by simp[Value.ownBlock];omega));simpa [N]using this
 .intro x c;rcases f q h.ok h.deep with⟨H,D,a,t⟩|a
  .rw[a]at c C⊢;simp only[bJ]at c;subst c;have hm:=t.more;simp only at hm;exact⟨C,t.Bd,by show(s.size:Int)+1-D.k.at'<=(n:Int);omega⟩
  .rw[a]at c;cases c
 .intro c;rw[c]at C;exact C
 .rcases f q h.ok h.deep with⟨H,D,a,t⟩|a
  .rw[a];exact t.goes.ok
  .rw[a];exact h.ok
 .rcases f q h.ok h.deep with⟨H,D,a,t⟩|a
  .rw[a];exact h.deep.good t.goes
  .rw[a];exact h.deep
 .have:=h.len;simp only[aA,aF,bg];omega
 .have u:qg st gk (l++[e]) q=R:=h.eq;rw[y]at u;unfold qg at u;rcases f q h.ok h.deep with⟨H,D,a,t⟩|a
  .rw[a]at u⊢;exact u
  .rw[a]at u⊢;exact u
theorem ahq(f:PX s st d)(W:∀p,p.Ok s->Deep d p->DF s p (st p))(n:Nat)(hn:s.size<=n)(ac:n<=50000)(y:p.Ok s)(i:Deep d p):Iu 141 s p (qg st (n+1) [] p):=by
 intro P w V;have M:=V.lt;obtain⟨i0,hi,Y,Z,aa⟩:=info_parts anE;have H1:=jA (W p y i P w V);have O:=jA (λq (I:q.Ok s)(E:Deep d q) x (hx:jR x P s q)=>W q I E P x hx);have HI:Hid (∀F v,(match (st p).1 with|some st=>st.here F w.heap.size F.heap.size v|none=>v=.nilIface)->jR F P s (st p).2->w.grownBy F (some P)->Gt s st d (qg st (n+1) [] p) P w F (Nl) v n 0 [] [] (st p).1 (st p).2 w.heap.size):=λF v h E J=>by
  have B:=y.tok.zA;refine⟨rfl,fK _ _ _ _,je ⟨rfl,rfl⟩,aj _,J.size,?_,?_,E,J,?_,?_,by simp,by simp;omega,?_⟩
  .intro e he;rcases f p y i with⟨U,N,c,A⟩|c
   .rw[c]at he h⊢;simp only[bJ]at he;subst he;have hm:=A.more;simp only at hm;exact⟨h,A.Bd,by show(s.size:Int)+1-N.k.at'<=(n:Int);omega⟩
   .rw[c]at he;cases he
  .intro he;rw[he]at h;exact h
  .rcases f p y i with⟨U,N,c,A⟩|c
   .rw[c];exact A.goes.ok
   .rw[c];exact y
  .rcases f p y i with⟨U,N,c,A⟩|c
   .rw[c];exact i.good A.goes
   .rw[c];exact i
  .conv=>rhs;unfold qg
   rcases f p y i with⟨U,N,c,A⟩|c
   .rw[c];rfl
   .rw[c];rfl
 have H:=jA f;generalize qg st (n+1) [] p=R at *;clear V W f y i;go_enter func141,ntmps141;go_wp2_with fail;refine H1.out.mono ?_;rintro e w1 ⟨⟨v,rfl,h⟩,E,J⟩;have HO:=jA (HI.out w1 v h E J);clear h E J H1 HI;go_wp2_with fail;go_loopg [3,4] n (λgg vl vc wr=>Hid (∃g l us z q m,Gt s st d R P w wr vl vc gg g l us z q m))
 case atStart=>exact⟨_,_,_,_,_,_,HO.out⟩
 case round=>
  obtain⟨g,l,us,z,q,m,a⟩:=hrel.out;clear hrel HO;obtain⟨la,lc,X⟩:=XD a.own;subst X;cases z with
  |none=>
   have S:=a.nil rfl;subst S;have HF:Hid (mY R.1 wr w.heap.size wr.heap.size (.slice la l.length lc)/\jR wr P s R.2/\w.grownBy wr (some P)):=by
    have hR:=a.eq;rw[<-hR];refine⟨aoJ a.own ?_ (Yn a.tH a.FB) (aj _) (aj _),a.pr,a.grown⟩;rcases a.jM with⟨I,_⟩|⟨I,_⟩
    .exact jf I
    .exact je I
   clear a O H;go_wp2_with fail;go_ret;exact⟨_,rfl,HF.out⟩
  |some e=>
   obtain⟨eh,eo,ef⟩:=a.here e rfl;obtain⟨T,b,S,hT,b1,b2,b3⟩:=eo.head _ _ _ _ eh;subst S;have HN:=jA a;have L:l.length<=100000:=by have:=a.len;omega
   have Q:=jA (λo=>a.own.alloc o);have ad:=a.grown.size;obtain⟨ln,C⟩:∃ln,l.length=ln:=⟨_,rfl⟩;rw[C]at Q L⊢;have uF:=jA C;clear a eh eo ef b1 b2 b3 C;go_wp2_with (at_builtin;refine wpList_append_lies _ rfl _ _ 105 rfl w.heap.size 192 i0 .nilIface 1 16 Tryz.underlying105 hi Y Z aa rfl (by decide) (.slice la ln lc) ln us rfl (Q.out _) (Ad wr.heap.size 0) 1 1 [.iface T (Pt b 0)] rfl rfl (cell_one_new _ _ _) (by simp[Value.oneCell']) (by decide) (by unfold maxLen;omega) (by omega) (by simp;omega) (wr.heap.size+1) (by simp) ?_;intro gg cap w2 u K B j);have D:=jA (jd K (jd u (jd B j)));have G:Hid (Gt s st d R P w wr (.slice la ln lc) (.iface T (Pt b 0)) gk g l us (some e) q m):=by
    have:=HN.out;rw[uF.out]at this;exact this
   clear K u B j HN Q;refine(O.out q G.out.ok G.out.deep _ (G.out.ac1 D.out.1 M).2.1).mono ?_;rintro e1 w3 ⟨⟨v3,rfl,h⟩,p3,g3⟩;obtain⟨g',ab,t⟩:=G.out.next H.out M uF.out D.out.1 D.out.2.1 D.out.2.2.1 D.out.2.2.2 h p3 g3;have xC:=jA t;clear h p3 g3 t O G D;go_wp2_with fail;go_roundg g'
   case measure=>omega
   case rel=>exact⟨_,_,_,_,_,_,xC.out⟩
end
end
end Go.Proofs.YthllhabjfchgiaaGreatDoor
