import Derived.Test.YthllhabjfchgiaaGreatDoorHs32
set_option maxRecDepth 100000
set_option maxHeartbeats 8000000
set_option linter.unusedSimpArgs false
namespace Go.Proofs.YthllhabjfchgiaaGreatDoor
open _root_.Go.Proofs.Tryz
section
open Go.RowKit Hx
attribute [local go_sem ↓] Go.wp_at_zero Go.wp_at_succ
attribute [local go_sem] kN
section
variable {s:ji}{ex':Ps->Ex×Ps}{jM:Ps->List jI×Ps}{d:Nat}{p:Ps}
theorem ao7(hs:s.size<=4000)(n:Nat)(h:Reader s ex' d)(Y:∀p,p.Ok s->Deep (d+1) p->zk s p (nB s ex' n p))(V:Ez s jM (d+1))(W:∀p,p.Ok s->Deep (d+1) p->Iu 241 s p (jM p))(X:∀p,(jM p).1.length<=1000000)(ok:p.Ok s)(hd:Deep (d+1) p)(ht:p.is [101,97,99,104]=true):uH 226 s p (CY s jM ex' n p):=by
 intro P w hp;have an:=hp.lt;have g1:=oC ok (oW (by simp) ht);have gn:=EZ g1.ok;have ge:=yN gn.ok (t:=[105,110]) (by simp);have de:=hd.good ((g1.trans gn).trans ge);obtain⟨gs,xs⟩:=SY h.good n ge.ok de;have HN:Hid (Calls prog 236 #[Pt P 0] w (qN P s w (.agg #[Im p.k.kind,.string p.k.text,Im p.k.at']) (p.next s))):=xQ hp ok hs;have HM:Hid (∀x,jR x P s (p.next s)->Calls prog 232 #[Pt P 0] x (qN P s x (TN ((p.next s).name s).1) ((p.next s).name s).2)):=λx hx=>KR hx g1.ok hs;have HE:=jA (λx (hx:jR x P s ((p.next s).name s).2)=>EW hx gn.ok hs [105,110]);have HS:=jA (λy (O:jR y P s (((p.next s).name s).2.expect s [105,110]))=>Y _ ge.ok de P y O);have HB:Hid (∀q,q.Ok s->Deep (d+1) q->(∀y,jR y P s q->Calls prog 241 #[Pt P 0] y λe i=>∃v,e=.returned v/\mY (jM q).1 i y.heap.size i.heap.size v/\jR i P s (jM q).2/\y.grownBy i (some P))/\(∀e∈(jM q).1,oI e)/\(jM q).1.length<=1000000):=λq h1 h2=>⟨λy O=>W q h1 h2 P y O,(V q h1 h2).2,X q⟩;have am:=NR p.k.kind p.k.at' p.k.text;have C:=jA (jd xs (jd gs.ok (de.good gs)))
 show Calls prog 226 #[Pt P 0] w λe i=>∃v,e=.returned v/\(qQ p.k.at' ((p.next s).name s).1 (nB s ex' n (((p.next s).name s).2.expect s [105,110])).1.1 (jM (if (nB s ex' n (((p.next s).name s).2.expect s [105,110])).1.2 then (nB s ex' n (((p.next s).name s).2.expect s [105,110])).2.fail else (nB s ex' n (((p.next s).name s).2.expect s [105,110])).2)).1).here i w.heap.size i.heap.size v/\jR i P s (jM (if (nB s ex' n (((p.next s).name s).2.expect s [105,110])).1.2 then (nB s ex' n (((p.next s).name s).2.expect s [105,110])).2.fail else (nB s ex' n (((p.next s).name s).2.expect s [105,110])).2)).2/\w.grownBy i (some P);generalize nB s ex' n (((p.next s).name s).2.expect s [105,110])=sm at *;generalize ((p.next s).name s).2.expect s [105,110]=q3 at *;generalize (p.next s).name s=dq at *;generalize p.next s=q1 at *;generalize p.k.kind=kk at *;generalize p.k.text=kt at *;generalize p.k.at'=Z at *;obtain⟨⟨z,m⟩,q2⟩:=dq;obtain⟨⟨x,c⟩,j⟩:=sm;have HM:Hid (∀x,jR x P s q1->Calls prog 232 #[Pt P 0] x (qN P s x (.agg #[.string z,Im m]) q2)):=HM.out;simp only at HE HS C⊢;clear hp g1 gn ge de gs xs ok hd ht h V W X Y;have ab:Hid ((if c then j.fail else j).Ok s/\Deep (d+1) (if c then j.fail else j)):=by
  cases c with
  |true=>exact⟨C.out.2.1.fail,C.out.2.2.good (EY C.out.2.1)⟩
  |false=>exact C.out.2
 obtain⟨ae,zF,af⟩:=HB.out _ ab.out.1 ab.out.2;have L9:=jA ae;have M:Hid ((∀e∈(jM (if c then j.fail else j)).1,oI e)/\(jM (if c then j.fail else j)).1.length<=1000000):=⟨zF,af⟩;have ad:Hid (∀y,jR y P s j->Calls prog 142 #[Pt P 0] y (qN P s y (.tuple #[]) j.fail)):=λy O=>EX O;have ai:Hid ((c=true->(if c then j.fail else j)=j.fail)/\(c=false->(if c then j.fail else j)=j)):=⟨λh=>by rw[h];rfl,λh=>by rw[h];rfl⟩;generalize jM (if c then j.fail else j)=g at *;generalize (if c then j.fail else j)=q5 at *;generalize j.fail=ao at *;clear ae zF af HB ab;go_enter func226,ntmps226;go_wp2_with fail;refine HN.out.mono ?_;rintro e w1 ⟨rfl,p1,k1⟩;have kJ:Hid (jR w1 P s q1/\w.grownBy w1 (some P)):=⟨p1,k1⟩;clear p1 k1 HN;go_wp2_with fail;refine(HM.out _ kJ.out.1).mono ?_;rintro e A ⟨rfl,p2,k2⟩;have I:Hid (jR (A.alloc (.cells #[.string z,Im m] 316)) P s q2/\w.grownBy A (some P)):=⟨p2.grow (ah _ _ none),kJ.out.2.trans k2⟩;clear p2 k2 HM kJ;go_wp2_with fail;refine(HE.out _ I.out.1).mono ?_;rintro e w3 ⟨rfl,p3,k3⟩;have ag:w3.heap[A.heap.size]? =some (.cells #[.string z,Im m] 316):=(k3.block _ (by rw[oz];omega) (by have:=I.out.2.size;simp;omega)).trans (aY _ _);have lI:Hid (jR w3 P s q3/\w.grownBy w3 (some P)/\w3.heap[A.heap.size]? =some (.cells #[.string z,Im m] 316)/\w.heap.size<=A.heap.size):=⟨p3,I.out.2.trans (((ah A _ none).but _).trans k3),ag,I.out.2.size⟩;clear p3 k3 ag HE I;go_wp2_with fail
 refine(HS.out _ lI.out.1).mono ?_;rintro e G ⟨u,rfl,e4,p4,k4⟩;obtain⟨S,fv,hu,s1,s2,s3⟩:=xu e4;subst hu;have nI:Hid (oZ x G w3.heap.size G.heap.size (Pt S 0)/\jR G P s j/\w3.grownBy G (some P)):=⟨e4,p4,k4⟩;clear e4 p4 k4 s1 s2 s3 HS;have HT:Hid (∀B,jR B P s q5->G.grownBy B (some P)->∀f v6,mY g.1 f B.heap.size f.heap.size v6->jR f P s g.2->B.grownBy f (some P)->w.grownBy f (some P)/\f.heap[A.heap.size]? =some (.cells #[.string z,Im m] 316)/\oZ x f w.heap.size B.heap.size (Pt S 0)/\w.heap.size<=B.heap.size/\B.heap.size<=f.heap.size):=λB h5 g5 f v6 l6 h6 g6=>by
  have z3:=lI.out.2.1.size;have z4:=nI.out.2.2.size;have z5:=g5.size;have zz:=lI.out.2.2.2;have gA:=nI.out.2.2.trans (g5.trans g6);refine⟨lI.out.2.1.trans gA,(gA.block _ (lT lI.out.2.2.1) (by simp;omega)).trans lI.out.2.2.1,?_,by omega,g6.size⟩;exact C.out.1.law.wide _ _ _ _ _ _ (C.out.1.keep nI.out.1 (by omega) (aj _) (g5.trans g6)) z3 z5
 cases c with
 |true=>
  have hq:=ai.out.1 rfl;subst hq;go_wp2_with fail;refine(ad.out _ nI.out.2.1).mono ?_;rintro e B ⟨rfl,p5,k5⟩;have vK:Hid (jR B P s q5/\G.grownBy B (some P)):=⟨p5,k5⟩;clear p5 k5 ad;go_wp2_with fail;refine(L9.out _ vK.out.1).mono ?_;rintro e f ⟨v6,rfl,J,p6,k6⟩;obtain⟨Q,U,R,ac⟩:=Ry J;subst ac;obtain⟨t1,t2,t3,t4,t5⟩:=HT.out B vK.out.1 vK.out.2 f _ J p6 k6;have Iq:Hid (w.grownBy f (some P)/\f.heap[A.heap.size]? =some (.cells #[.string z,Im m] 316)/\oZ x f w.heap.size B.heap.size (Pt S 0)/\mY g.1 f B.heap.size f.heap.size (.slice Q U R)/\jR f P s g.2/\w.heap.size<=B.heap.size/\B.heap.size<=f.heap.size):=⟨t1,t2,t3,J,p6,t4,t5⟩;obtain⟨S',DT,aa,_,_,D⟩:=xu t3;cases aa;have c1:f.cell? (Ad S 1)=some (Im x.jw):=jG D;have c3:f.cell? (Ad S 3)=some (Im x.of):=jG D;have zU:Hid (Calls prog 244 #[Pt S 0] f λe i=>e=.returned (Im x.jw)/\i=f):=uq S 0 _ c1;have Gj:Hid (Calls prog 90 #[.slice Q U R] f λe i=>e=.returned (Im (sumOf g.1))/\f.grownBy i none):=Jv M.out.1 M.out.2 (Jk M.out.1 J);have E:=rP M.out.1;have EJ:Hid (∀y,f.grownBy y none->Calls prog 245 #[Pt S 0,Im (sumOf g.1)] y λe i=>e=.returned (Im (x.round (sumOf g.1)))/\y.grownBy i none):=λy O=>(SL (x:=x) (O.cell c3 (by simp)) (sumOf g.1) E).mono λe i ⟨h1,h2⟩=>⟨h1,by rw[h2];exact(ah y _ none).trans (ah _ _ none)⟩;clear t1 t2 t3 t4 t5 J p6 k6 D c1 c3;go_wp2_with fail;refine zU.out.mono ?_;rintro e w7 ⟨rfl,K⟩;rw[K];clear K zU;go_wp2_with fail
  refine Gj.out.mono ?_;rintro e w8 ⟨rfl,k8⟩;have BQ:Hid (f.grownBy w8 none):=k8;clear k8 Gj;go_wp2_with fail;refine(EJ.out _ BQ.out).mono ?_;rintro e w9 ⟨rfl,k9⟩;have zS:Hid (f.grownBy w9 none):=BQ.out.trans k9;clear k9 EJ BQ;go_wp2_with fail;refine(Aj Z _ [x.jw,x.round (sumOf g.1)] (Jw w9 _ _ _ C.out.1.jw.1 C.out.1.jw.2 (tC E).1 (tC E).2)).mono ?_;rintro e a ⟨rfl,L⟩;have BP:Hid (f.grownBy a none):=zS.out.trans ((ah w9 _ none).trans L);clear L zS;have l:a.heap[A.heap.size]? =some (.cells #[.string z,Im m] 316):=(BP.out.block _ (lT Iq.out.2.1) (by simp)).trans Iq.out.2.1;have l3:=lT l;have ak:a.cell? (Ad A.heap.size 0)=some (.string z):=jG l;have al:a.cell? (Ad A.heap.size 1)=some (Im m):=jG l;have Sm:A.heap.size<a.heap.size+1:=by omega
  have H:Hid (∀o F,F=Obj.cells #[Im Z,Im (jS [x.jw,x.round (sumOf g.1)]),.string z,Im m,Pt S 0,.slice Q U R] 351->(qQ Z ⟨z,m⟩ x g.1).here ((a.alloc o).alloc F) w.heap.size ((a.alloc o).alloc F).heap.size (.iface 349 (Pt (a.heap.size+1) 0))/\jR ((a.alloc o).alloc F) P s g.2/\w.grownBy ((a.alloc o).alloc F) (some P)):=λo F ho=>by
   obtain⟨f1,f2,f3,f4,f5,f6,f7⟩:=Iq.out;have N:=BP.out.trans (ah a o none);have gf:=N.trans (ah (a.alloc o) F none);have sg:=N.size;have ll:=uN M.out.1;have hK:yC (oZ x) (mY g.1) (a.alloc o) w.heap.size (a.alloc o).heap.size [Pt S 0,.slice Q U R]:=
    ⟨B.heap.size,_,_,rfl,f6,by omega,C.out.1.law.loc _ _ _ _ _ f3 (λb _ V=>N.block b (by omega) (by simp)),ll.wide _ _ _ _ _ _ (ll.loc _ _ _ _ _ f4 (λb _ V=>N.block b V (by simp))) (aj _) sg⟩
   have hn:=KY (ds:={}) (T':=349) (T:=351) (at':=Z) (jw:=jS [x.jw,x.round (sumOf g.1)]) (mk:=λus=>.string z::Im m::us) (wU C.out.1.law ll) hK (by omega) ho;rw[oz a o]at hn;exact⟨hn,f5.grow gf,f1.trans (gf.but _)⟩
  clear l;go_wp2_with fail;go_ret;exact⟨_,rfl,H.out _ _ rfl⟩
 |false=>
  have hq:=ai.out.2 rfl;subst hq;have vK:Hid (jR G P s q5/\G.grownBy G (some P)):=⟨nI.out.2.1,aN _ _⟩;go_wp2_with fail;refine(L9.out _ vK.out.1).mono ?_;rintro e f ⟨v6,rfl,J,p6,k6⟩;obtain⟨Q,U,R,ac⟩:=Ry J;subst ac;obtain⟨t1,t2,t3,t4,t5⟩:=HT.out G vK.out.1 vK.out.2 f _ J p6 k6;have Iq:Hid (w.grownBy f (some P)/\f.heap[A.heap.size]? =some (.cells #[.string z,Im m] 316)/\oZ x f w.heap.size G.heap.size (Pt S 0)/\mY g.1 f G.heap.size f.heap.size (.slice Q U R)/\jR f P s g.2/\w.heap.size<=G.heap.size/\G.heap.size<=f.heap.size):=⟨t1,t2,t3,J,p6,t4,t5⟩;obtain⟨S',DT,aa,_,_,D⟩:=xu t3;cases aa;have c1:f.cell? (Ad S 1)=some (Im x.jw):=jG D;have c3:f.cell? (Ad S 3)=some (Im x.of):=jG D;have zU:Hid (Calls prog 244 #[Pt S 0] f λe i=>e=.returned (Im x.jw)/\i=f):=uq S 0 _ c1;have Gj:Hid (Calls prog 90 #[.slice Q U R] f λe i=>e=.returned (Im (sumOf g.1))/\f.grownBy i none):=Jv M.out.1 M.out.2 (Jk M.out.1 J);have E:=rP M.out.1;have EJ:Hid (∀y,f.grownBy y none->Calls prog 245 #[Pt S 0,Im (sumOf g.1)] y λe i=>e=.returned (Im (x.round (sumOf g.1)))/\y.grownBy i none):=λy O=>(SL (x:=x) (O.cell c3 (by simp)) (sumOf g.1) E).mono λe i ⟨h1,h2⟩=>⟨h1,by rw[h2];exact(ah y _ none).trans (ah _ _ none)⟩;clear t1 t2 t3 t4 t5 J p6 k6 D c1 c3;go_wp2_with fail;refine zU.out.mono ?_;rintro e w7 ⟨rfl,K⟩;rw[K];clear K zU;go_wp2_with fail;refine Gj.out.mono ?_;rintro e w8 ⟨rfl,k8⟩;have BQ:Hid (f.grownBy w8 none):=k8;clear k8 Gj
  go_wp2_with fail;refine(EJ.out _ BQ.out).mono ?_;rintro e w9 ⟨rfl,k9⟩;have zS:Hid (f.grownBy w9 none):=BQ.out.trans k9;clear k9 EJ BQ;go_wp2_with fail;refine(Aj Z _ [x.jw,x.round (sumOf g.1)] (Jw w9 _ _ _ C.out.1.jw.1 C.out.1.jw.2 (tC E).1 (tC E).2)).mono ?_;rintro e a ⟨rfl,L⟩;have BP:Hid (f.grownBy a none):=zS.out.trans ((ah w9 _ none).trans L);clear L zS;have l:a.heap[A.heap.size]? =some (.cells #[.string z,Im m] 316):=(BP.out.block _ (lT Iq.out.2.1) (by simp)).trans Iq.out.2.1;have l3:=lT l;have ak:a.cell? (Ad A.heap.size 0)=some (.string z):=jG l;have al:a.cell? (Ad A.heap.size 1)=some (Im m):=jG l;have Sm:A.heap.size<a.heap.size+1:=by omega
  have H:Hid (∀o F,F=Obj.cells #[Im Z,Im (jS [x.jw,x.round (sumOf g.1)]),.string z,Im m,Pt S 0,.slice Q U R] 351->(qQ Z ⟨z,m⟩ x g.1).here ((a.alloc o).alloc F) w.heap.size ((a.alloc o).alloc F).heap.size (.iface 349 (Pt (a.heap.size+1) 0))/\jR ((a.alloc o).alloc F) P s g.2/\w.grownBy ((a.alloc o).alloc F) (some P)):=λo F ho=>by
   obtain⟨f1,f2,f3,f4,f5,f6,f7⟩:=Iq.out;have N:=BP.out.trans (ah a o none);have gf:=N.trans (ah (a.alloc o) F none);have sg:=N.size;have ll:=uN M.out.1;have hK:yC (oZ x) (mY g.1) (a.alloc o) w.heap.size (a.alloc o).heap.size [Pt S 0,.slice Q U R]:=
    ⟨G.heap.size,_,_,rfl,f6,by omega,C.out.1.law.loc _ _ _ _ _ f3 (λb _ V=>N.block b (by omega) (by simp)),ll.wide _ _ _ _ _ _ (ll.loc _ _ _ _ _ f4 (λb _ V=>N.block b V (by simp))) (aj _) sg⟩
   have hn:=KY (ds:={}) (T':=349) (T:=351) (at':=Z) (jw:=jS [x.jw,x.round (sumOf g.1)]) (mk:=λus=>.string z::Im m::us) (wU C.out.1.law ll) hK (by omega) ho;rw[oz a o]at hn;exact⟨hn,f5.grow gf,f1.trans (gf.but _)⟩
  clear l;go_wp2_with fail;go_ret;exact⟨_,rfl,H.out _ _ rfl⟩
end
section
variable {s:ji}{ex:Ps->Ex×Ps}{d:Nat}{p:Ps}{r:Ex×Ps}
theorem aki(g:mX 270 [] s p r)(f:r.2.is [46]=false):mX 269 [] s p r:=by
 intro P w h;have b:=jA (g P w h);have o:=kH.c3 h;have k:=jA f;clear h g f;go_enter func269,ntmps269;go_wp2_with fail;refine b.out.mono ?_;rintro e j ⟨v,rfl,c,a,i⟩;have m:Hid (Calls prog 242 #[Pt P 0,.string ⟨#[46]⟩] j λe n=>e=.returned (.bool false)/\n=j):=by
  have:=I5 a [46];rw[k.out]at this;exact this
 have l:=jA (jd c (jd a i));clear c a i b;go_wp2_with fail;refine wp_loop_rounds 1 ?_;rw[rounds_succ];go_wp2_with fail;refine m.out.mono ?_;rintro e q ⟨rfl,rfl⟩;go_wp2_with fail;go_ret;exact⟨_,rfl,l.out⟩
theorem Lf(a:Int)(u:0<=a)(x:a<=5)(i:mX 256 [Im (a+1)] s p r)(g:pX r.2.k.text.data.toList=6):mX 256 [Im a] s p r:=by
 intro P w h;have c:=jA (i P w h);have l:Hid (∀w,Calls prog 266 #[.string r.2.k.text] w λe m=>e=.returned (Im 6)/\m=w):=λw=>by
  have:=aeh r.2.k.text w;rw[g]at this;exact this
 have o:=kH.c3 h;have q:(a==6)=false:=by simp;omega
 have t:((6:Int)==a)=false:=by simp;omega
 clear h i g;go_enter func256,ntmps256;go_wp2_with fail;refine c.out.mono ?_;rintro e y ⟨v,rfl,f,b,j⟩;have n:=kH.c2 b;have k:=jA (jd f (jd b j));clear f b j c;go_wp2_with fail;refine wp_loop_rounds 1 ?_;rw[rounds_succ];go_wp2_with fail;refine(l.out _).mono ?_;rintro e z ⟨rfl,rfl⟩;go_wp2_with fail;go_ret;exact⟨_,rfl,k.out⟩
theorem alF(a:o9 p):mX 238 [] s p (rJ,p.fail):=by
 have f:Plain p:=⟨by rw[a.1];decide,by rw[a.1];decide,by rw[a.1];decide⟩;have c:mX 270 [] s p (rJ,p.fail):=abm f (a.is (by simp)) (a.is (by simp)) (a.is (by simp)) (a.is (by simp)) (a.is (by simp)) (a.is (by simp)) (a.is (by simp));have e:=Xd (aki c ((o9.fail p).is (by simp))) (a.is (by simp)) (a.is (by simp));have m:=afJ e;have b:pX (rJ,p.fail).2.k.text.data.toList=6:=rfl;have l:=Lf 5 (by omega) (by omega) m b;have k:=Lf 4 (by omega) (by omega) l b;have j:=Lf 3 (by omega) (by omega) k b;have i:=Lf 2 (by omega) (by omega) j b;have h:=Lf 1 (by omega) (by omega) i b;have g:=Lf 0 (by omega) (by omega) h b;exact acB g
structure Uy(s:ji):Prop where
 set:∀(d:Nat)(ex:Ps->Ex×Ps),Reader s ex d->∀p,p.Ok s->Deep (d+1) p->zk s p (nB s ex (s.size+1) p)
 He:∀(d:Nat)(ex:Ps->Ex×Ps),Reader s ex d->∀(x:Sx)(q:Ps)(kind:Int),q.Ok s->Deep (d+1) q->¬o9 q->pF x->DI 278 kind s x q (Ec s ex x kind q)
theorem Vf(f:s.size<=4000)(g:Uy s):∀(d:Nat),Reader s (lG s d) d
 |0=>⟨IG s 0,λp _ a=>by
   rcases a with b|⟨_,n,o⟩
   .exact alF b
   .omega⟩
 |d+1=>by
  have e:=Vf f g d;refine⟨IG s (d+1),λp c a=>?_⟩;have m:=λp (c:p.Ok s)(a:Deep (d+1) p)(_:(setOf p.k.text.data.toList).isSome=true)=>arV f e (s.size+1) (g.set d _ e) (g.He d _ e) c a;have l:=λp (c:p.Ok s)(a:Deep (d+1) p)=>aj1 f e (s.size+1) m c a;have h:=λp (c:p.Ok s)(a:Deep (d+1) p)=>akj f e (s.size+1) (by omega) l c a;have i:=λp (c:p.Ok s)(a:Deep (d+1) p)=>Xe f e.good (s.size+1) h (s.size+1) p c a (by have:=c.tok.zA;omega);have j:=afE f e.good (s.size+1) (by omega) i 6 (by omega) p c a;exact acB j
end
end
section
open Go.RowKit Hx
section
variable {s:ji}{p:Ps}
theorem ahz(a:s.size<=4000)(l:Uy s):∀(d:Nat)(p:Ps),p.Ok s->Deep d p->Iu 141 s p (mV s d p)
 |0,p,j,i=>by
  have h:=ahq (s:=s) (st:=λp=>(none,p)) (d:=0) (p:=p) (λq _ _=>je rfl) (λq _ v=>by
   rcases v with b|⟨_,x,y⟩
   .exact afy (by rw[b.1];decide) (by rw[b.1];decide) (b.is (by simp)) (b.is (by simp)) (b.is (by simp)) (b.is (by simp)) (b.is (by simp))
   .omega) s.size (aj _) (by omega) j i
  exact h
 |d+1,p,j,i=>by
  have w:=ahz a l d;have m:=Vf a l (d+1);have u:=Vf a l d;have n:=aby (Tz s d);have c:∀p,p.Ok s->Deep (d+1) p->Iu 241 s p (qj s (mV s d) p):=λp j i=>akw a (Tz s d) w j i;have e:∀p,(qj s (mV s d) p).1.length<=1000000:=λp=>by have:=akv s d p;omega
  have o:=ahw (s.size+1) (IG s (d+1)) (IG s d) n;exact ahq o (λq f g=>at6 (s.size+1) (λ_=>atr a m f g) (λk=>auJ a m f g k) (λt=>apl a m f g t) (λt=>arD a u f g t) (λt=>asv a f t)
   (λt=>akW a m n c e f g t) (λt=>ao7 a (s.size+1) u (l.set d _ u) n c e f g t)) s.size (aj _) (by omega) j i
end
end
namespace Hx
def yF(s:ji):Ps:=⟨scan s 0,0,0,0⟩
def GL(q:Ps):Ps:=if q.k.kind=1 then q else q.fail
def xU(r:List jI×Ps):List jI×Int×Int:=if (GL r.2).en=0 then (r.1,0,0)else ([],(GL r.2).en,(GL r.2).ea)
theorem SA(s:ji):(yF s).Ok s:=⟨(XY s 0 (bD _)).1,by unfold jK yF;simp,agO s 0 (bD _)⟩
theorem agd(s:ji):Deep 21 (yF s):=je (by unfold yF;simp)
end Hx
section
open Go.RowKit Hx
attribute [local go_sem ↓] Go.wp_at_zero Go.wp_at_succ
attribute [local go_sem] kN
theorem Sr(c:Array jm)(w:jk)(g:Nat)(v:jm)(a b:Int)(e:c[2]? =some v)(f:c[3]? =some (Pt g 0))(h:w.heap[g]? =some (.cells #[Im a,Im b] 107)):
 (results Tryz.f88 c).run prog w=.ok (.tuple #[v,.agg #[Im a,Im b]]) w:=by
 have i:w.cell? (Ad g 0)=some (Im a):=jG h;have j:w.cell? (Ad g 1)=some (Im b):=jG h;simp[results,Tryz.results88,go_sem,e,f,i,j]
end
end Go.Proofs.YthllhabjfchgiaaGreatDoor
