import Derived.Test.YthllhabjfchgiaaGreatDoorHs21
set_option maxRecDepth 100000
set_option maxHeartbeats 8000000
set_option linter.unusedSimpArgs false
namespace Go.Proofs.YthllhabjfchgiaaGreatDoor
open _root_.Go.Proofs.Tryz
section
open Go.RowKit Hx
attribute [local go_sem ↓] Go.wp_at_zero Go.wp_at_succ
attribute [local go_sem] kN
section
theorem oz(w:jk)(o:Obj):(w.alloc o).heap.size=w.heap.size+1:=eY ..
theorem La{T' T:jo}{at' jw kind:Int}{K:Hx.Kids}{mk:List jm->List jm}{dn:Dn}(g:zh K){w:jk}{lo:Nat}{e:List jm}(h:K w lo w.heap.size e)(c:lo<=w.heap.size)(a:Int){o:Obj}
 (i:o=.cells (Im a::Im jw::Im kind::mk e).toArray T):(rH T' T at' jw kind K mk dn).here a (w.alloc o) lo (w.alloc o).heap.size (.iface T' (Pt w.heap.size 0)):=by
 subst i;refine⟨w.heap.size,e,rfl,c,by rw[oz];omega,g.loc _ _ _ _ _ h (λb _ f=>fP _ _ _ f),aY _ _⟩
theorem kT.sH{e:Ex}(h:kT e){a:Int}{w:jk}{lo hi:Nat}{v:jm}(k:e.here a w lo hi v):
 ∃T b,v=.iface T (Pt b 0)/\(∀w,(method 576 T (Pt b 0) "helm/lang.price").run prog w=.ok (244,Pt b 0) w)/\lo<=b/\b<hi/\w.cell? (Ad b 1)=some (Im e.jw):=by
 obtain⟨T,b,c,f,g,i,l,j,m⟩:=h.head _ _ _ _ _ k;exact⟨T,b,c,f.sH b,g,i,j⟩
variable {s:ji}{ex:Ps->Ex×Ps}{d:Nat}{p:Ps}{r:Ex×Ps}
theorem Xd(i:mX 269 [] s p r)(c:p.is [45]=false)(f:p.is [33]=false):mX 265 [] s p r:=by
 intro P w h;have b:Hid (∀n,Calls prog 269 #[Pt P 0] (w.drewN n) λe a=>∃v,e=.returned v/\r.1.here r.1.at' a w.heap.size a.heap.size v/\jR a P s r.2/\w.grownBy a (some P)):=λn=>by
  refine(i P (w.drewN n) (h.grow (lu _ n))).mono ?_;rintro e a ⟨v,l,m,o,q⟩;exact⟨v,l,m,o,((lu w n).but _).trans q⟩
 have t:=kH.c2 h;have u:=kH.c3 h;have x:(p.k.text.toList==[45])=false:=by rw[aZ];exact c
 have y:(p.k.text.toList==[33])=false:=by rw[aZ];exact f
 clear h i c f;go_enter func265,ntmps265;go_wp2_with fail;go_quiet (fail);go_wp2_with fail;refine(b.out _).mono ?_;rintro e z ⟨v,rfl,g⟩;have j:=jA g;clear g b;go_wp2_with fail;go_ret;exact⟨_,rfl,j.out⟩
theorem aeW(X:s.size<=4000)(I:p.Ok s)(G:mX 265 [] s (p.next s) r)(i:kT r.1)(kind:Int)(F:(p.is [45]=true/\kind=1)\/(p.is [45]=false/\p.is [33]=true/\kind=2)):
 mX 265 [] s p (sG p.k.at' kind p.k.text r.1,r.2):=by
 intro P w h;have V:=h.lt;have y:Hid (∀n,Calls prog 236 #[Pt P 0] (w.drewN n) (qN P s w (xY p.k) (p.next s))):=λn=>by
  refine(xQ (h.grow (lu w n)) I X).mono ?_;rintro e w' ⟨R,g,S⟩;exact⟨R,g,((lu w n).but _).trans S⟩
 have z:=jA (λx (i:jR x P s (p.next s))=>G P x i);have c2:=kH.c2 h;have c3:=kH.c3 h;have f:=jA i;have l:(sG p.k.at' kind p.k.text r.1).here=(rH 379 381 p.k.at' (jS [r.1.jw]) kind (oD (r.1.here r.1.at')) (λus=>.string p.k.text::us)).here:=rfl;have M:=jA l;have m:(sG p.k.at' kind p.k.text r.1).at'=p.k.at':=rfl;have t:((p.k.text.toList==[45])=true/\kind=1)\/((p.k.text.toList==[45])=false/\(p.k.text.toList==[33])=true/\kind=2):=by rw[aZ];exact F
 rw[l];generalize p.next s=q at *;generalize p.k.text=kt at *;generalize p.k.at'=H at *;have N:Hid (zh (oD (r.1.here r.1.at'))):=qW (i.law _);clear h G i l M m F I;rcases t with⟨t1,rfl⟩|⟨t1,t2,rfl⟩;all_goals
  go_enter func265,ntmps265;go_wp2_with fail;go_quiet (fail);go_wp2_with fail;refine(y.out _).mono ?_;rintro e w1 ⟨rfl,J,C⟩;have u:=jA (jd J C);clear J C y;go_wp2_with fail;refine(z.out _ u.out.1).mono ?_;rintro e w2 ⟨v,rfl,g,K,D⟩;obtain⟨T,A,rfl,W,b1,b2,Q⟩:=f.out.sH g;have a:=jA (jd g (jd K D));have zU:=jA (uq A 0 _ Q);clear g K D z;go_wp2_with fail;refine zU.out.mono ?_;rintro e L ⟨rfl,rfl⟩;go_wp2_with fail;refine(Aj H _ [r.1.jw] (Xw L _ r.1.jw f.out.jw.1 f.out.jw.2)).mono ?_;rintro e c ⟨rfl,E⟩;have j:=jA ((ah L _ none).trans E);clear E;have B:Hid (oD (r.1.here r.1.at') c w.heap.size c.heap.size [.iface T (Pt A 0)]/\w.heap.size<=c.heap.size):=by
   have Y:=u.out.2.size;have s2:=a.out.2.2.size;have Z:=j.out.size;exact⟨⟨_,rfl,(f.out.law _).wide _ _ _ _ _ _ ((f.out.law _).loc _ _ _ _ _ a.out.1 (λb _ U=>j.out.block b U (by simp))) Y Z⟩,by omega⟩
  have O:Hid (∀o,jR (c.alloc o) P s r.2/\w.grownBy (c.alloc o) (some P)):=λo=>
   ⟨a.out.2.1.grow (j.out.trans (ah c o none)),(u.out.2.trans a.out.2.2).trans ((j.out.trans (ah c o none)).but _)⟩
  go_wp2_with fail;go_ret;exact⟨_,rfl,La N.out B.out.1 B.out.2 H rfl,O.out _⟩
theorem Xe(i:s.size<=4000)(h:qI s ex d)(n:Nat)(f:∀p,p.Ok s->Deep (d+1) p->mX 269 [] s p (Cm s ex n p)):
 ∀(m:Nat)(p:Ps),p.Ok s->Deep (d+1) p->(s.size:Int)-p.k.at'<=m->mX 265 [] s p (wX s ex n m p)
 |0,p,ok,hd,hm=>by
  have g:p.k.text=⟨#[]⟩:=by
   have b:=ok.tok.bd;have c:=ok.tok.zA;have q:p.k.text.size=0:=by omega
   have j:=q;exact iZ (fO j)
  exact Xd (f p ok hd) (by unfold Hx.Ps.is;rw[g];rfl) (by unfold Hx.Ps.is;rw[g];rfl)
 |m+1,p,ok,hd,hm=>by
  unfold wX;have e:p.is [45]=true\/p.is [33]=true->1<=p.k.text.size:=by
   intro h;by_cases o:p.k.text.size=0
   .have j:=o;have g:p.k.text=⟨#[]⟩:=iZ (fO j);unfold Hx.Ps.is at h;rw[g]at h;rcases h with h|h<;>cases h
   .omega
  have t:=Ho ok;split
  .rename_i b;have a:=oC ok (oW (by simp) b);have:=e (jf b);have l:=Xe i h n f m (p.next s) a.ok (hd.good a) (by omega);exact aeW i ok l (OE h n m _ a.ok (hd.good a)).2 1 (jf ⟨b,rfl⟩)
  .rename_i b;split
   .rename_i c;have a:=oC ok (oW (by simp) c);have:=e (je c);have l:=Xe i h n f m (p.next s) a.ok (hd.good a) (by omega);exact aeW i ok l (OE h n m _ a.ok (hd.good a)).2 2 (je ⟨by simpa using b,c,rfl⟩)
   .rename_i c;exact Xd (f p ok hd) (by simpa using b) (by simpa using c)
end
section
variable {s:ji}{ex:Ps->Ex×Ps}{d:Nat}{p:Ps}{r:Ex×Ps}
theorem afJ(c:mX 265 [] s p r):mX 256 [Im 6] s p r:=by
 intro P w h;have a:=jA (c P w h);clear h c;go_enter func256,ntmps256;go_wp2_with fail;refine a.out.mono ?_;rintro e g ⟨v,rfl,b⟩;have f:=jA b;clear b a;go_wp2_with fail;go_ret;exact⟨_,rfl,f.out⟩
structure JI(s:ji)(lower:Ps->Ex×Ps)(of at':Int)(d:Nat)(R:Ex×Ps)(P:Nat)(w wr:jk)(v:jm)(g:Nat)(e:Ex)(q:Ps):Prop where
 here:e.here e.at' wr w.heap.size wr.heap.size v
 pr:jR wr P s q
 grown:w.grownBy wr (some P)
 ex:kT e
 ok:q.Ok s
 deep:Deep d q
 fuel:(s.size:Int)-q.k.at'<=g
 eq:wH s lower of at' g e q=R
theorem ahZ{q:Ps}(a:q.Ok s)(h:(s.size:Int)-q.k.at'<=0):q.k.text=⟨#[]⟩:=by
 have e:=a.tok.bd;have f:=a.tok.zA;have b:q.k.text.size=0:=by omega
 have c:=b;exact iZ (fO c)
theorem LQ{q:Ps}{t:List UInt8}(e:t≠[])(h:q.k.text.data.toList=t):1<=q.k.text.size:=by
 by_cases a:q.k.text.size=0
 .have b:=a;have c:q.k.text=⟨#[]⟩:=iZ (fO b);rw[c]at h;exact jl h.symm e
 .omega
theorem aoz{q:Ps}{a:Int}(b:a<=5)(h:pX q.k.text.data.toList=a):1<=q.k.text.size:=by
 refine LQ (t:=q.k.text.data.toList) (λe=>?_) rfl;rw[e]at h;simp[pX]at h;omega
theorem JI.out{a:Ps->Ex×Ps}{b at':Int}{R:Ex×Ps}{P:Nat}{w wr:jk}{v:jm}{g:Nat}{e:Ex}{q:Ps}(h:JI s a b at' d R P w wr v g e q)(c:¬pX q.k.text.data.toList=b):R=(e,q):=by
 rw[<-h.eq];cases g with
 |zero=>rfl
 |succ g=>unfold wH;rw[jg c]
theorem JI.more{a:Ps->Ex×Ps}{b at':Int}{R:Ex×Ps}{P:Nat}{w wr:jk}{v:jm}{g:Nat}{e:Ex}{q:Ps}(h:JI s a b at' d R P w wr v g e q)(j:b<=5)(i:pX q.k.text.data.toList=b):
 ∃c,g=c+1/\(s.size:Int)-(q.next s).k.at'<=c/\R=if b=2\/b=3 then (nX at' (mJ q.k.text.data.toList).2 q.k.text e (a (q.next s)).1,(a (q.next s)).2)else wH s a b at' c (nX at' (mJ q.k.text.data.toList).2 q.k.text e (a (q.next s)).1) (a (q.next s)).2:=by
 have f:=aoz j i;have l:=Ho h.ok;cases g with
 |zero=>
  have:=ahZ h.ok (by have:=h.fuel;omega);rw[this]at f;cases f
 |succ g=>
  refine⟨g,rfl,by have:=h.fuel;omega,?_⟩;rw[<-h.eq]
  conv=>lhs;unfold wH
  rw[jh i]
theorem aof{l r:Ex}(h:kT l)(i:kT r){w w1 a e:jk}{P lo:Nat}{u v:jm}(j:l.here l.at' w lo w.heap.size u)(m:P<lo)(f:w.grownBy w1 (some P))(k:r.here r.at' a w1.heap.size a.heap.size v)(g:w1.grownBy a (some P))(c:a.grownBy e none)(o:lo<=w.heap.size):
 yC (l.here l.at') (r.here r.at') e lo e.heap.size [u,v]:=by
 have x:=f.size;have z:=g.size;have y:=c.size;refine⟨w1.heap.size,u,v,rfl,by omega,by omega,?_,?_⟩
 .have q:=h.keep j m (aj _) (f.trans (g.trans (c.but _)));exact(h.law _).wide _ _ _ _ _ _ q (aj _) x
 .have t:=(i.law _).loc _ _ _ _ _ k (λb _ n=>c.block b n (by simp));exact(i.law _).wide _ _ _ _ _ _ t (aj _) y
theorem aqL(hs:s.size<=4000)(i:Int)(h0:0<=i)(h5:i<=5){f:Ps->Ex×Ps}(hl:qI s f d)(hq:∀p,p.Ok s->Deep d p->mX 256 [Im (i+1)] s p (f p))(n:Nat)
 (ok:p.Ok s)(Z:Deep d p)(hn:(s.size:Int)-p.k.at'<=n):mX 256 [Im i] s p (wH s f i p.k.at' n (f p).1 (f p).2):=by
 intro P w h;obtain⟨X,x0⟩:=hl p ok Z;have ab:=h.lt;have HQ:=jA (hq p ok Z P w h);have HR:=jA (λq (h1:q.Ok s)(h2:Deep d q) x (hx:jR x P s q)=>hq q h1 h2 P x hx);have HL:=jA hl;have c3:=kH.c3 h;have d6:(i==6)=false:=by simp;omega
 have HI:Hid (∀A v,(f p).1.here (f p).1.at' A w.heap.size A.heap.size v->jR A P s (f p).2->w.grownBy A (some P)->JI s f i p.k.at' d (wH s f i p.k.at' n (f p).1 (f p).2) P w A v n (f p).1 (f p).2):=
  λA v a b c=>⟨a,b,c,x0,X.ok,Z.good X,by have:=X.mono;omega,rfl⟩
 generalize wH s f i p.k.at' n (f p).1 (f p).2=R at *;generalize f p=r0 at *;generalize p.k.at'=l at *;clear h hq X x0 hl ok Z hn;go_enter func256,ntmps256;go_wp2_with fail;refine HQ.out.mono ?_;rintro e w2 ⟨v,rfl,h3,V,q3⟩;have HO:=jA (HI.out w2 v h3 V q3);clear h3 V q3 HQ HI;go_wp2_with fail;go_loopg [6] n (λO u wr=>Hid (∃e q,JI s f i l d R P w wr u O e q))
 case atStart=>exact⟨_,_,HO.out⟩
 case round=>
  obtain⟨e,q,g⟩:=hrel.out;clear hrel HO;have c2:=kH.c2 g.pr;have Il:Hid (∀x,Calls prog 266 #[.string q.k.text] x λe A=>e=.returned (Im (pX q.k.text.data.toList))/\A=x):=λx=>aeh _ x;by_cases j:pX q.k.text.data.toList=i
  .obtain⟨g',af,aa,hR⟩:=g.more h5 j;have J:=oC g.ok (ae9 h5 j);obtain⟨Y,xl⟩:=HL.out _ J.ok (g.deep.good J);have HN:Hid (Calls prog 236 #[Pt P 0] wr (qN P s wr (.agg #[Im q.k.kind,.string q.k.text,Im q.k.at']) (q.next s))):=xQ g.pr g.ok hs;have L:=jA (λx (hx:jR x P s (q.next s))=>HR.out _ J.ok (g.deep.good J) x hx);have MQ:Hid (∀x,Calls prog 267 #[.string q.k.text] x λe A=>e=.returned (.tuple #[Im (mJ q.k.text.data.toList).1,Im (mJ q.k.text.data.toList).2])/\A=x):=λx=>ahb _ x;have t:=jA (jd g.ex xl);have HF:Hid ((f (q.next s)).2.Ok s/\Deep d (f (q.next s)).2/\(s.size:Int)-(f (q.next s)).2.k.at'<=g'):=⟨Y.ok,g.deep.good (J.trans Y),by have:=Y.mono;omega⟩;have B:=jA hR;have I:=jA (jd g.here g.grown);obtain⟨M,F,ad,ag,a1,a2,a3⟩:=g.ex.sH g.here;have tv:(pX q.k.text.data.toList==i)=true:=by simp[j]
   have ae:=NS q.k.kind q.k.at' q.k.text;generalize f (q.next s)=m at *;generalize q.next s=q1 at *;generalize mJ q.k.text.data.toList=z at *;generalize pX q.k.text.data.toList=lv at *;generalize q.k.text=y at *;generalize q.k.kind=kk at *;generalize q.k.at'=ak at *;clear g J Y xl hR aa j HR HL;subst ad;go_wp2_with fail;refine(Il.out _).mono ?_;rintro G w1 ⟨rfl,rfl⟩;go_wp2_with fail;refine HN.out.mono ?_;rintro G w3 ⟨rfl,V,g3⟩;have U:=jA (jd V g3);clear V g3 HN;go_wp2_with fail;refine(L.out _ U.out.1).mono ?_;rintro G w4 ⟨v2,rfl,h4,p4,g4⟩;obtain⟨N,H,rfl,ai,b1,b2,b3⟩:=t.out.2.sH h4;have K:=jA (jd h4 (jd p4 g4));clear h4 p4 g4 L;go_wp2_with fail;refine(MQ.out _).mono ?_;rintro G w5 ⟨rfl,rfl⟩;have a4:w5.cell? (Ad F 1)=some (Im e.jw):=by
    have hh:=t.out.1.keep I.out.1 (by omega) (aj _) (U.out.2.trans K.out.2.2);obtain⟨T',A',x1,x2,x3,x4,x5⟩:=t.out.1.sH hh;cases x1;exact x5
   have BU:=jA (uq F 0 _ a4);have MJ:=jA (uq H 0 _ b3);go_wp2_with fail;refine BU.out.mono ?_;rintro G w6 ⟨rfl,Q⟩;rw[Q]at *;clear Q;go_wp2_with fail;refine MJ.out.mono ?_;rintro G w7 ⟨rfl,S⟩;rw[S]at *;clear S;go_wp2_with fail;refine(Aj l _ [e.jw,m.1.jw] (Jw w5 _ e.jw m.1.jw t.out.1.jw.1 t.out.1.jw.2 t.out.2.jw.1 t.out.2.jw.2)).mono ?_;rintro G E ⟨rfl,g8⟩;have BQ:=jA ((ah w5 _ none).trans g8);clear g8;have D:Hid (∀o,(nX l z.2 y e m.1).here l ((E.alloc o).alloc (.cells #[Im l,Im (jS [e.jw,m.1.jw]),Im z.2,.string y,.iface M (Pt F 0),.iface N (Pt H 0)] 376)) w.heap.size ((E.alloc o).alloc (.cells #[Im l,Im (jS [e.jw,m.1.jw]),Im z.2,.string y,.iface M (Pt F 0),.iface N (Pt H 0)] 376)).heap.size (.iface 374 (Pt (E.heap.size+1) 0))/\
    jR ((E.alloc o).alloc (.cells #[Im l,Im (jS [e.jw,m.1.jw]),Im z.2,.string y,.iface M (Pt F 0),.iface N (Pt H 0)] 376)) P s m.2/\w.grownBy ((E.alloc o).alloc (.cells #[Im l,Im (jS [e.jw,m.1.jw]),Im z.2,.string y,.iface M (Pt F 0),.iface N (Pt H 0)] 376)) (some P)):=λo=>by
    generalize ac:(Obj.cells #[Im l,Im (jS [e.jw,m.1.jw]),Im z.2,.string y,.iface M (Pt F 0),.iface N (Pt H 0)] 376)=o2;have O:=BQ.out.trans (ah E o none);have gf:=O.trans (ah (E.alloc o) o2 none);have s0:=I.out.2.size;have s3:=U.out.2.size;have s4:=K.out.2.2.size;have s8:=O.size;have hK:=aof t.out.1 t.out.2 I.out.1 ab U.out.2 K.out.1 K.out.2.2 O s0;have hn:=La (dn:={}) (T':=374) (T:=376) (at':=l) (jw:=jS [e.jw,m.1.jw]) (kind:=z.2) (mk:=λus=>.string y::us) (wU (t.out.1.law _) (t.out.2.law _)) hK (by omega) l ac.symm;rw[oz E o]at hn;exact⟨hn,K.out.2.1.grow gf,(I.out.2.trans (U.out.2.trans K.out.2.2)).trans (gf.but _)⟩
   by_cases C:i=2\/i=3
   .have W:Hid (R=(nX l z.2 y e m.1,m.2)):=by have:=B.out;rw[jh C]at this;exact this
    clear B;rcases C with rfl|rfl;all_goals
     go_wp2_with fail;go_ret;rw[W.out];exact⟨_,rfl,D.out _⟩
   .have W:Hid (R=wH s f i l g' (nX l z.2 y e m.1) m.2):=by have:=B.out;rw[jg C]at this;exact this
    have n2:(i==2)=false:=by simp;omega
    have n3:(i==3)=false:=by simp;omega
    clear B C;go_wp2_with fail;go_roundg g'
    case measure=>omega
    case rel=>
     obtain⟨f1,f2,f3⟩:=D.out (Obj.cells #[Im l,Im (jS [e.jw,m.1.jw]),Im z.2] 373);exact⟨_,_,⟨f1,f2,f3,TK _ _ _ t.out.1 t.out.2,HF.out.1,HF.out.2.1,HF.out.2.2,W.out.symm⟩⟩
  .have W:=jA (g.out j);have I:=jA (jd g.here (jd g.pr g.grown));have tv:(pX q.k.text.data.toList==i)=false:=by simp[j]
   generalize pX q.k.text.data.toList=lv at *;generalize q.k.text=y at *;clear g HR HL j;go_wp2_with fail;refine(Il.out _).mono ?_;rintro G w1 ⟨rfl,rfl⟩;go_wp2_with fail;go_ret;rw[W.out];exact⟨_,rfl,I.out⟩
theorem afE(e:s.size<=4000)(h:qI s ex d)(n:Nat)(f:s.size<=n)(c:∀p,p.Ok s->Deep (d+1) p->mX 265 [] s p (wX s ex n n p)):
 ∀(l:Nat),l<=6->∀p,p.Ok s->Deep (d+1) p->mX 256 [Im (6-l)] s p (Bz s ex n l p)
 |0,_,p,a,b=>afJ (c p a b)
 |l+1,hl,p,a,b=>by
  have i:=afE e h n f c l (by omega);have g:∀p,p.Ok s->Deep (d+1) p->mX 256 [Im ((5-(l:Int))+1)] s p (Bz s ex n l p):=λp a b=>by
   rw[show(5-(l:Int))+1=6-l by omega];exact i p a b
  have:=aqL e (5-l) (by omega) (by omega) (Si h n l) g n a b (by have:=a.tok.zA;omega);rw[show((6:Int)-((l+1:Nat):Int))=5-l by omega];exact this
theorem acB(c:mX 256 [Im 0] s p r):mX 238 [] s p r:=by
 intro P w h;have a:=jA (c P w h);clear h c;go_enter func238,ntmps238;go_wp2_with fail;refine a.out.mono ?_;rintro e g ⟨v,rfl,b⟩;have f:=jA b;clear b a;go_wp2_with fail;go_ret;exact⟨_,rfl,f.out⟩
def aji(fn:FuncId)(more:List jm)(s:ji)(e:Ex)(p:Ps)(r:Ex×Ps):Prop:=
 ∀(P:Nat)(w:jk)(lo:Nat)(u:jm),jR w P s p->P<lo->e.here e.at' w lo w.heap.size u->lo<=w.heap.size->Calls prog fn (Pt P 0::(more++[u])).toArray w λen w'=>∃v,en=.returned v/\r.1.here r.1.at' w' lo w'.heap.size v/\jR w' P s r.2/\w.grownBy w' (some P)
theorem aqk(hs:s.size<=4000)(h:Reader s ex d)(E:p.Ok s)(hd:Deep (d+1) p)(at':Int){e:Ex}(K:kT e):aji 271 [Im at'] s e p (wF s ex at' e p):=by
 intro P w D u hp L N aa;have S:=E.ku [40];have J:=hd.ku E (t:=[40]) (by simp);obtain⟨g1,G⟩:=h.good _ S J;have U:=jA (O4 hp E hs [40]);have V:=jA (λx (R:jR x P s (p.ku s [40]))=>h.reads _ S J P x R);have W:=jA (λx (R:jR x P s (ex (p.ku s [40])).2)=>NG R g1.ok hs [41]);show Calls prog 271 #[Pt P 0,Im at',u] w λen F=>∃v,en=.returned v/\(wG at' e (ex (p.ku s [40])).1).here at' F D F.heap.size v/\jR F P s ((ex (p.ku s [40])).2.close s [41])/\w.grownBy F (some P);generalize ex (p.ku s [40])=f at *;generalize p.ku s [40]=q at *;generalize f.2.close s [41]=q2 at *;have a:=jA (jd K G);obtain⟨I,l,O,ab,a1,a2,a3⟩:=K.sH N;subst O;have X:=jA N;clear hp S J g1 G E hd h K N;go_enter func271,ntmps271;go_wp2_with fail;refine U.out.mono ?_;rintro n w1 ⟨rfl,p1,k1⟩;have A:=jA (jd p1 k1);clear p1 k1 U;go_wp2_with fail;refine(V.out _ A.out.1).mono ?_;rintro n w2 ⟨v,rfl,Z,p2,k2⟩;have c:=jA (jd Z (jd p2 k2));clear Z p2 k2 V;go_wp2_with fail;refine(W.out _ c.out.2.1).mono ?_;rintro n k ⟨rfl,p3,k3⟩;have j:=jA (jd p3 k3);clear p3 k3 W;have B:Hid (f.1.here f.1.at' k w1.heap.size k.heap.size v/\e.here e.at' k D w.heap.size (.iface I (Pt l 0))):=by
  have s1:=A.out.2.size;have s3:=j.out.2.size;refine⟨(a.out.2.law _).wide _ _ _ _ _ _ (a.out.2.keep c.out.1 (by omega) (aj _) j.out.2) (aj _) s3,?_⟩;exact a.out.1.keep X.out L (aj _) (A.out.2.trans (c.out.2.2.trans j.out.2))
 obtain⟨Y,H,Q,ac,b1,b2,b3⟩:=a.out.2.sH B.out.1;subst Q;have a4:k.cell? (Ad l 1)=some (Im e.jw):=by
  obtain⟨T',A',G,x2,x3,x4,x5⟩:=a.out.1.sH B.out.2;cases G;exact x5
 have BU:=jA (uq l 0 _ a4);have MJ:=jA (uq H 0 _ b3);clear X;go_wp2_with fail;refine BU.out.mono ?_;rintro n w6 ⟨rfl,y⟩;rw[y]at *;clear y;go_wp2_with fail;refine MJ.out.mono ?_;rintro n w7 ⟨rfl,z⟩;rw[z]at *;clear z;go_wp2_with fail;refine(Aj at' _ [e.jw,f.1.jw] (Jw k _ e.jw f.1.jw a.out.1.jw.1 a.out.1.jw.2 a.out.2.jw.1 a.out.2.jw.2)).mono ?_;rintro n g ⟨rfl,g8⟩;have BQ:=jA ((ah k _ none).trans g8);clear g8;have m:Hid (∀o i,i=(Obj.cells #[Im at',Im (jS [e.jw,f.1.jw]),Im 2,.iface I (Pt l 0),.iface Y (Pt H 0)] 400)->(wG at' e f.1).here at' ((g.alloc o).alloc i) D ((g.alloc o).alloc i).heap.size (.iface 398 (Pt (g.heap.size+1) 0))/\jR ((g.alloc o).alloc i) P s q2/\w.grownBy ((g.alloc o).alloc i) (some P)):=λo i M=>by
  have C:=BQ.out.trans (ah g o none);have gf:=C.trans (ah (g.alloc o) i none);have s1:=A.out.2.size;have s2:=c.out.2.2.size;have s3:=j.out.2.size;have s8:=C.size;have hK:yC (e.here e.at') (f.1.here f.1.at') (g.alloc o) D (g.alloc o).heap.size [.iface I (Pt l 0),.iface Y (Pt H 0)]:=by
   refine⟨w1.heap.size,_,_,rfl,by omega,by omega,?_,?_⟩
   .exact(a.out.1.law _).wide _ _ _ _ _ _ ((a.out.1.law _).loc _ _ _ _ _ B.out.2 (λb _ hb=>C.block b (by omega) (by simp))) (aj _) s1
   .exact(a.out.2.law _).wide _ _ _ _ _ _ ((a.out.2.law _).loc _ _ _ _ _ B.out.1 (λb _ hb=>C.block b hb (by simp))) (aj _) s8
  have hn:=La (dn:={}) (T':=398) (T:=400) (at':=at') (jw:=jS [e.jw,f.1.jw]) (kind:=2) (mk:=λus=>us) (wU (a.out.1.law _) (a.out.2.law _)) hK (by omega) at' M;rw[oz g o]at hn;exact⟨hn,j.out.1.grow gf,(A.out.2.trans (c.out.2.2.trans j.out.2)).trans (gf.but _)⟩
 go_wp2_with fail;go_ret;exact⟨_,rfl,m.out _ _ rfl⟩
theorem acJ(w:jk)(o a b c d:Obj):(((((w.alloc o).alloc a).alloc b).alloc c).alloc d).drew.heap[w.heap.size+1+1+1+1]? =some d/\w.grownBy (((((w.alloc o).alloc a).alloc b).alloc c).alloc d).drew none:=by
 constructor
 .have e:(((((w.alloc o).alloc a).alloc b).alloc c).alloc d).drew.heap=((((w.heap.push o).push a).push b).push c).push d:=rfl;rw[e,eH,jh (by simp)]
 .exact(ah w o none).trans ((ah _ a none).trans ((ah _ b none).trans ((ah _ c none).trans ((ah _ d none).trans ⟨rfl,rfl,rfl,aj _,λ_ _ _=>rfl⟩))))
structure FY(s:ji)(ex:Ps->Ex×Ps)(at':Int)(d:Nat)(R:Ex×Ps)(P:Nat)(w wr:jk)(v:jm)(g:Nat)(e:Ex)(q:Ps):Prop where
 here:e.here e.at' wr w.heap.size wr.heap.size v
 pr:jR wr P s q
 grown:w.grownBy wr (some P)
 Bd:kT e
 ok:q.Ok s
 deep:Deep (d+1) q
 fuel:(s.size:Int)-q.k.at'<=g
 eq:tY s ex at' g e q=R
theorem FY.out{at':Int}{R:Ex×Ps}{P:Nat}{w wr:jk}{v:jm}{g:Nat}{e:Ex}{q:Ps}(h:FY s ex at' d R P w wr v g e q)(a:q.is [46]=false):R=(e,q):=by
 rw[<-h.eq];cases g with
 |zero=>rfl
 |succ g=>unfold tY;rw[jg (by rw[a];decide)]
theorem qP{q:Ps}{t:List UInt8}(a:t≠[])(h:q.is t=true):1<=q.k.text.size:=LQ a (by simpa [Hx.Ps.is]using h)
theorem FY.more{at':Int}{R:Ex×Ps}{P:Nat}{w wr:jk}{v:jm}{g:Nat}{e:Ex}{q:Ps}(h:FY s ex at' d R P w wr v g e q)(c:q.is [46]=true):
 ∃a,g=a+1/\(s.size:Int)-(q.next s).k.at'<=a/\R=(if ((q.next s).name s).1.text.data.toList==[111,110]&&((q.next s).name s).2.is [40]then tY s ex at' a (wF s ex at' e ((q.next s).name s).2).1 (wF s ex at' e ((q.next s).name s).2).2
   else tY s ex at' a (oQ at' (kY ((q.next s).name s).1.text.data.toList).2 (kY ((q.next s).name s).1.text.data.toList).1 e ((q.next s).name s).1) ((q.next s).name s).2):=by
 have b:=qP (by simp) c;have f:=Ho h.ok;cases g with
 |zero=>
  have:=ahZ h.ok (by have:=h.fuel;omega);rw[this]at b;cases b
 |succ g=>
  refine⟨g,rfl,by have:=h.fuel;omega,?_⟩;rw[<-h.eq]
  conv=>lhs;unfold tY
  rw[jh c]
theorem akj(hs:s.size<=4000)(h:Reader s ex d)(n:Nat)(hn:s.size<=n)(hb:∀p,p.Ok s->Deep (d+1) p->mX 270 [] s p (tX s ex n p))(ok:p.Ok s)(hd:Deep (d+1) p):mX 269 [] s p (Cm s ex n p):=by
 intro P w hp;obtain⟨g0,x0⟩:=abn h.good n ok hd;have N:=hp.lt;have HQ:=jA (hb p ok hd P w hp);have Ip:=jA h;have c3:=kH.c3 hp;have HI:Hid (∀m v,(tX s ex n p).1.here (tX s ex n p).1.at' m w.heap.size m.heap.size v->jR m P s (tX s ex n p).2->w.grownBy m (some P)->FY s ex p.k.at' d (Cm s ex n p) P w m v n (tX s ex n p).1 (tX s ex n p).2):=
  λm v a b c=>⟨a,b,c,x0,g0.ok,hd.good g0,by have:=g0.ok.tok.zA;omega,rfl⟩
 generalize Cm s ex n p=R at *;generalize tX s ex n p=r0 at *;generalize p.k.at'=g at *;clear hp hb g0 x0 h ok hd;go_enter func269,ntmps269;go_wp2_with fail;refine HQ.out.mono ?_;rintro e w2 ⟨v,rfl,h3,p3,q3⟩;have HO:=jA (HI.out w2 v h3 p3 q3);clear h3 p3 q3 HQ HI;go_wp2_with fail;go_loopg [4] n (λgg u wr=>Hid (∃e q,FY s ex g d R P w wr u gg e q))
 case atStart=>exact⟨_,_,HO.out⟩
 case round=>
  obtain⟨e,q,t⟩:=hrel.out;clear hrel HO;have Il:=jA (I5 t.pr [46]);cases C:q.is [46]with
  |false=>
   have V:=jA (t.out C);have J:=jA (jd t.here (jd t.pr t.grown));rw[C]at Il;clear t C Ip;go_wp2_with fail;refine Il.out.mono ?_;rintro Q w1 ⟨rfl,rfl⟩;go_wp2_with fail;go_ret;rw[V.out];exact⟨_,rfl,J.out⟩
  |true=>
   obtain⟨K,ae,ac,hR⟩:=t.more C;rw[C]at Il;have gn:=oC t.ok (oW (by simp) C);have gm:=EZ gn.ok;have HN:=jA (xQ t.pr t.ok hs);have HM:=jA (λx (hx:jR x P s (q.next s))=>KR hx gn.ok hs);have F:=jA t.Bd;have E:Hid (((q.next s).name s).2.Ok s/\Deep (d+1) ((q.next s).name s).2/\(s.size:Int)-((q.next s).name s).2.k.at'<=K):=⟨gm.ok,t.deep.good (gn.trans gm),by have:=gm.mono;omega⟩;have B:Hid (R=(if ((q.next s).name s).1.text.data.toList==[111,110]&&((q.next s).name s).2.is [40]then tY s ex g K (wF s ex g e ((q.next s).name s).2).1 (wF s ex g e ((q.next s).name s).2).2
    else tY s ex g K (oQ g (kY ((q.next s).name s).1.text.data.toList).2 (kY ((q.next s).name s).1.text.data.toList).1 e ((q.next s).name s).1) ((q.next s).name s).2)):=hR
   have J:=jA (jd t.here t.grown);obtain⟨Y,D,ad,af,a1,a2,a3⟩:=t.Bd.sH t.here;subst ad;generalize (q.next s).name s=dq at *;generalize q.next s=q1 at *;obtain⟨⟨f,j⟩,A⟩:=dq;clear t gn gm hR ac C;have HM:Hid (∀x,jR x P s q1->Calls prog 232 #[Pt P 0] x (qN P s x (.agg #[.string f,Im j]) A)):=HM.out;simp only at B E;go_wp2_with fail;refine Il.out.mono ?_;rintro Q w1 ⟨rfl,rfl⟩;go_wp2_with fail;refine HN.out.mono ?_;rintro Q w3 ⟨rfl,p3,g3⟩;have lI:=jA (jd p3 g3);clear p3 g3 HN;go_wp2_with fail;refine(HM.out _ lI.out.1).mono ?_;rintro Q l ⟨rfl,p4,g4⟩;have H:=jA (jd p4 (lI.out.2.trans g4));clear p4 g4 HM lI;have aa:(l.alloc (Obj.cells #[.string f,Im j] 316)).heap[l.heap.size]? =some (Obj.cells #[.string f,Im j] 316):=aY _ _;have t0:(l.alloc (Obj.cells #[.string f,Im j] 316)).cell? (Ad l.heap.size 0)=some (.string f):=jG aa;have ab:D<l.heap.size:=by have:=H.out.2.size;omega
   have Z:l.cell? (Ad D 1)=some (Im e.jw):=by
    obtain⟨T',A',x1,x2,x3,x4,x5⟩:=F.out.sH (F.out.keep J.out.1 N (aj _) H.out.2);cases x1;exact x5
   have W:(l.alloc (Obj.cells #[.string f,Im j] 316)).cell? (Ad D 1)=some (Im e.jw):=(bQ (a:=(Ad D 1)) (fP l _ D ab)).trans Z;have a5:=W;have a6:Hid (∀k,((l.alloc (Obj.cells #[.string f,Im j] 316)).drewN k).cell? (Ad D 1)=some (Im e.jw)):=λ_=>W;have m1:¬D=l.heap.size:=by omega
   have EF:Hid (Calls prog 234 #[Im g,.slice (some (Ad (l.heap.size+1) 0)) 1 1] ((l.alloc (Obj.cells #[.string f,Im j] 316)).alloc (.cells #[Im e.jw] 3)).drew λS m=>S=.returned (.agg #[Im g,Im (jS [e.jw])])/\m=((((l.alloc (Obj.cells #[.string f,Im j] 316)).alloc (.cells #[Im e.jw] 3)).drew.alloc (.cells #[Im g,Im (jS [e.jw])] 323)).alloc (.cells #[Im 1,Im (kZ [e.jw])] 3))):=by
    refine KT g _ [e.jw] ⟨by simpa using F.out.jw,by simp,je ⟨_,_,rfl,λi y hy=>?_⟩⟩
    match i,hy with
    |0,hy=>
     cases hy;have hh:((l.alloc (Obj.cells #[.string f,Im j] 316)).alloc (.cells #[Im e.jw] 3)).drew.heap[l.heap.size+1]? =some (.cells #[Im e.jw] 3):=by
      rw[<-oz l (Obj.cells #[.string f,Im j] 316)];exact aY _ _
     exact jG hh
   clear aa Z;have z:f.toList=f.data.toList:=aZ ..;cases U:(f.toList==[111,110])with
   |false=>
    have V:Hid (R=tY s ex g K (oQ g (kY f.data.toList).2 (kY f.data.toList).1 e ⟨f,j⟩) A):=by
     have:=B.out;rw[<-z,U]at this;rw[<-z];exact this
    clear B z;go_wp2_with fail;have Uj:Hid (∀x,Calls prog 272 #[.string f] x λe m=>e=.returned (.tuple #[Im (kY f.data.toList).1,Im (kY f.data.toList).2])/\m=x):=λx=>agb _ x;generalize kY f.data.toList=I at *;refine(Uj.out _).mono ?_;rintro Q w5 ⟨rfl,o⟩;rw[o];clear o;have L:Hid (∀a b c,∃S q',FY s ex g d R P w (((((l.alloc (Obj.cells #[.string f,Im j] 316)).alloc a).alloc b).alloc c).alloc (.cells #[Im g,Im (jS [e.jw]),Im I.2,Im I.1,.iface Y (Pt D 0),.string f,Im j] 385)).drew (.iface 383 (Pt (l.heap.size+1+1+1+1) 0)) K S q'):=λa b c=>by
     obtain⟨h1,T⟩:=acJ l (Obj.cells #[.string f,Im j] 316) a b c (.cells #[Im g,Im (jS [e.jw]),Im I.2,Im I.1,.iface Y (Pt D 0),.string f,Im j] 385);have s4:=H.out.2.size;have s0:=J.out.2.size;have hl:=lT h1;have hk:=F.out.keep J.out.1 N (aj _) (H.out.2.trans (T.but _));exact⟨oQ g I.2 I.1 e ⟨f,j⟩,A,⟨⟨_,_,rfl,by omega,hl,⟨_,rfl,(F.out.law _).wide _ _ _ _ _ _ hk (aj _) (by omega)⟩,h1⟩,H.out.1.grow T,J.out.2.trans (H.out.2.trans (T.but _)),Sv _ _ _ F.out _,E.out.1,E.out.2.1,E.out.2.2,V.out.symm⟩⟩
    go_upto_region 9 with fail;go_region_with (first|(go_at_call 244;refine(uq D 0 e.jw (by first|exact W|exact a5|exact a6.out _|(simp;exact W))).mono ?_;rintro e m ⟨rfl,rfl⟩)|(go_at_call 234;refine EF.out.mono ?_;rintro e m ⟨rfl,rfl⟩));all_goals
     go_wp2_with fail;go_roundg K
     case measure=>omega
     case rel=>exact L.out _ _ _
   |true=>
    have M:Hid (Calls prog 242 #[Pt P 0,.string ⟨#[40]⟩] (l.alloc (Obj.cells #[.string f,Im j] 316)) λS m=>S=.returned (.bool (A.is [40]))/\m=l.alloc (Obj.cells #[.string f,Im j] 316)):=I5 (H.out.1.grow (ah _ _ none)) [40];cases G:A.is [40]with
    |false=>
     have V:Hid (R=tY s ex g K (oQ g (kY f.data.toList).2 (kY f.data.toList).1 e ⟨f,j⟩) A):=by
      have:=B.out;rw[<-z,U,G]at this;rw[<-z];exact this
     rw[G]at M;clear B z G;go_wp2_with fail;refine M.out.mono ?_;rintro Q w5 ⟨rfl,o⟩;rw[o];clear o;go_wp2_with fail;have Uj:Hid (∀x,Calls prog 272 #[.string f] x λe m=>e=.returned (.tuple #[Im (kY f.data.toList).1,Im (kY f.data.toList).2])/\m=x):=λx=>agb _ x;generalize kY f.data.toList=I at *;refine(Uj.out _).mono ?_;rintro Q w5 ⟨rfl,o⟩;rw[o];clear o;have L:Hid (∀a b c,∃S q',FY s ex g d R P w (((((l.alloc (Obj.cells #[.string f,Im j] 316)).alloc a).alloc b).alloc c).alloc (.cells #[Im g,Im (jS [e.jw]),Im I.2,Im I.1,.iface Y (Pt D 0),.string f,Im j] 385)).drew (.iface 383 (Pt (l.heap.size+1+1+1+1) 0)) K S q'):=λa b c=>by
      obtain⟨h1,T⟩:=acJ l (Obj.cells #[.string f,Im j] 316) a b c (.cells #[Im g,Im (jS [e.jw]),Im I.2,Im I.1,.iface Y (Pt D 0),.string f,Im j] 385);have s4:=H.out.2.size;have s0:=J.out.2.size;have hl:=lT h1;have hk:=F.out.keep J.out.1 N (aj _) (H.out.2.trans (T.but _));exact⟨oQ g I.2 I.1 e ⟨f,j⟩,A,⟨⟨_,_,rfl,by omega,hl,⟨_,rfl,(F.out.law _).wide _ _ _ _ _ _ hk (aj _) (by omega)⟩,h1⟩,H.out.1.grow T,J.out.2.trans (H.out.2.trans (T.but _)),Sv _ _ _ F.out _,E.out.1,E.out.2.1,E.out.2.2,V.out.symm⟩⟩
     go_upto_region 9 with fail;go_region_with (first|(go_at_call 244;refine(uq D 0 e.jw (by first|exact W|exact a5|exact a6.out _|(simp;exact W))).mono ?_;rintro e m ⟨rfl,rfl⟩)|(go_at_call 234;refine EF.out.mono ?_;rintro e m ⟨rfl,rfl⟩));all_goals
      go_wp2_with fail;go_roundg K
      case measure=>omega
      case rel=>exact L.out _ _ _
    |true=>
     have V:Hid (R=tY s ex g K (wF s ex g e A).1 (wF s ex g e A).2):=by
      have:=B.out;rw[<-z,U,G]at this;exact this
     rw[G]at M;obtain⟨go,xo⟩:=afp Ip.out.good E.out.1 E.out.2.1 g F.out;have O:Hid ((wF s ex g e A).2.Ok s/\Deep (d+1) (wF s ex g e A).2/\(s.size:Int)-(wF s ex g e A).2.k.at'<=K/\kT (wF s ex g e A).1):=⟨go.ok,E.out.2.1.good go,by have:=go.mono;have:=E.out.2.2;omega,xo⟩;have X:Hid (Calls prog 271 #[Pt P 0,Im g,.iface Y (Pt D 0)] (l.alloc (Obj.cells #[.string f,Im j] 316)) λen m=>∃v,en=.returned v/\(wF s ex g e A).1.here (wF s ex g e A).1.at' m w.heap.size m.heap.size v/\jR m P s (wF s ex g e A).2/\w.grownBy m (some P)):=by
      have gA:=ah l (Obj.cells #[.string f,Im j] 316) none;have IJ:=H.out.2.trans (gA.but (some P));have sz:=IJ.size;have s0:=J.out.2.size;refine(aqk hs Ip.out E.out.1 E.out.2.1 g F.out P _ w.heap.size _ (H.out.1.grow gA) N ((F.out.law _).wide _ _ _ _ _ _ (F.out.keep J.out.1 N (aj _) IJ) (aj _) sz) (by omega)).mono ?_;rintro en m ⟨v,k1,k2,k3,k4⟩;exact⟨v,k1,k2,k3,J.out.2.trans (IJ.trans k4)⟩
     generalize wF s ex g e A=ro at *;clear B z G go xo EF;go_wp2_with fail;refine M.out.mono ?_;rintro Q w5 ⟨rfl,o⟩;rw[o];clear o;go_wp2_with fail;refine X.out.mono ?_;rintro Q w6 ⟨v6,rfl,k1,k2,k3⟩;have HK:=jA (jd k1 (jd k2 k3));clear k1 k2 k3 X M;go_wp2_with fail;go_roundg K
     case measure=>omega
     case rel=>exact⟨_,_,⟨HK.out.1,HK.out.2.1,HK.out.2.2,O.out.2.2.2,O.out.1,O.out.2.1,O.out.2.2.1,V.out.symm⟩⟩
theorem acg:∀(l:List UInt8)(a:Nat),(∀b∈l,vY b.toNat=true)->∃n,Lib.decFrom a l=some n
 |[],a,_=>⟨a,rfl⟩
 |b::r,a,h=>by
  have e:=h b (aW ..);simp only[vY,dD,decide_eq_true_eq]at e;have g:Lib.digitVal b=some (b.toNat-48):=by unfold Lib.digitVal;rw[jh (by omega)]
  unfold Lib.decFrom;rw[g];exact acg r _ λc f=>h c (aI _ f)
theorem ajR(l:List UInt8)(e:l≠[])(h:∀b∈l,vY b.toNat=true):∃n,Lib.atoi l=some n:=by
 cases l with
 |nil=>exact jl rfl e
 |cons b r=>
  have a:=h b (aW ..);simp only[vY,dD,decide_eq_true_eq]at a;have g:(b==45)=false:=by
   cases c:b==45 with
   |false=>rfl
   |true=>rw[beq_iff_eq.1 c]at a;simp at a
  have i:(b==43)=false:=by
   cases c:b==43 with
   |false=>rfl
   |true=>rw[beq_iff_eq.1 c]at a;simp at a
  obtain⟨n,f⟩:=acg (b::r) 0 h;refine⟨n,?_⟩;simp only[Lib.atoi,g,i,aH,cZ,Lib.decNat,List.isEmpty_cons,f,iH]
theorem ap6(o:s.size<=4000)(c:p.Ok s)(l:p.k.kind=3):mX 273 [] s p (Ak p.k.at' ((Lib.atoi p.k.text.data.toList).getD 0),p.next s):=by
 obtain⟨q,f,g⟩:=c.kinds.number l;obtain⟨n,b⟩:=ajR p.k.text.data.toList (λe=>by
  have:p.k.text.data.toList.length=0:=by rw[e];rfl
  rw[eX]at this;have t:p.k.text.size=0:=this;omega) g
 intro P w h;refine(ap4 o c.tok n f b rfl w h).mono ?_;rintro e u ⟨v,rfl,⟨A,rfl,i,a⟩,m,j⟩;refine⟨_,rfl,?_,m,j⟩;rw[b];exact⟨A,[],rfl,i,lT a,rfl,a⟩
theorem agy{P:Nat}{w:jk}(h:jR w P s p)(c:p.Ok s)(g:s.size<=4000)(f:p.k.kind=4):Calls prog 235 #[Pt P 0] w (qN P s w (Im ((p.k.text.data.toList.getD 1 0).toNat-48)) (p.next s)):=by
 obtain⟨x,a,j,l⟩:=c.kinds.register f;have i:p.k.text.size=2:=by
  have:p.k.text.data.toList.length=2:=by rw[a];rfl
  rw[eX]at this;exact this
 have b:p.k.text.data.toList.getD 1 0=x:=by rw[a];rfl
 have e:p.k.text[1]'(by omega)=x:=by rw[<-NW p.k.text 1 (by omega)];exact b
 rw[b];exact asg h g c.tok ((x.toNat:Int)-48) (by omega) (by rw[e];omega) (by omega) (by omega)
theorem RU(at':Int)(w:jk):Calls prog 234 #[Im at',Nl] w λe b=>e=.returned (.agg #[Im at',Im 1])/\w.grownBy b none:=by
 have h:=Aj at' (Nl) [] (w:=w) ⟨λ_ h=>(dU h).elim,by simp,jf ⟨rfl,rfl⟩⟩;have a:jS []=1:=by decide
 rw[a]at h;exact h
theorem Kz{T' T:jo}{at' jw kind:Int}{mk:List jm->List jm}{dn:Dn}{w:jk}{lo:Nat}(b:lo<=w.heap.size)(a:Int){o:Obj}
 (c:o=.cells (Im a::Im jw::Im kind::mk []).toArray T):(rH T' T at' jw kind zH mk dn).here a (w.alloc o) lo (w.alloc o).heap.size (.iface T' (Pt w.heap.size 0)):=
 La C9 rfl b a c
theorem ajY(j:s.size<=4000)(f:p.Ok s)(a:p.k.kind=3):mX 270 [] s p (Ak p.k.at' ((Lib.atoi p.k.text.data.toList).getD 0),p.next s):=by
 intro P w h;have b:=jA (ap6 j f a P w h);have i:=kH.c1 h;have l:=kH.c2 h;have m:=kH.c3 h;rw[a]at i;generalize Ak p.k.at' ((Lib.atoi p.k.text.data.toList).getD 0)=X at *;generalize p.next s=q at *;generalize p.k.text=o at *;generalize p.k.at'=n at *;clear h f a;go_enter func270,ntmps270;go_wp2_with fail;refine b.out.mono ?_;rintro e t ⟨v,rfl,c⟩;have g:=jA c;clear c b;go_wp2_with fail;go_ret;exact⟨_,rfl,g.out⟩
theorem aj2(t:s.size<=4000)(m:p.Ok s)(b:p.k.kind=4):mX 270 [] s p (Ee p.k.at' ((p.k.text.data.toList.getD 1 0).toNat-48),p.next s):=by
 intro P w h;have f:=jA (λx (u:w.grownBy x none)=>agy (h.grow u) m t b);have o:=kH.c1 h;have v:=kH.c2 h;have y:=kH.c3 h;rw[b]at o;generalize ((p.k.text.data.toList.getD 1 0).toNat:Int)-48=i at *;generalize p.next s=q at *;generalize p.k.text=z at *;generalize p.k.at'=l at *;clear h m b;go_enter func270,ntmps270;go_wp2_with fail;refine(RU l _).mono ?_;rintro e A ⟨rfl,g⟩;have c:=jA g;clear g;go_wp2_with fail;refine(f.out _ c.out).mono ?_;rintro e B ⟨rfl,n,j⟩;have a:=jA (jd n ((c.out.but _).trans j));clear n j f c;go_wp2_with fail;go_ret;exact⟨_,rfl,Kz a.out.2.size l rfl,a.out.1.grow (ah _ _ none),a.out.2.trans ((ah _ _ none).but _)⟩
theorem aj6(u:s.size<=4000)(m:p.Ok s)(b:p.k.kind=2):mX 270 [] s p (nK p.k.at' ⟨p.k.text,p.k.at'⟩,p.next s):=by
 intro P w h;have g:Hid (∀x,w.grownBy x none->Calls prog 232 #[Pt P 0] x (qN P s x (.agg #[.string p.k.text,Im p.k.at']) (p.next s))):=λx v=>by
  have l:=KR (h.grow v) m u;have t:p.name s=(⟨p.k.text,p.k.at'⟩,p.next s):=by unfold Hx.Ps.name;rw[jh b]
  rw[t]at l;exact l
 have o:=kH.c1 h;have y:=kH.c2 h;have z:=kH.c3 h;rw[b]at o;generalize p.next s=q at *;generalize p.k.text=A at *;generalize p.k.at'=c at *;clear h m b;go_enter func270,ntmps270;go_wp2_with fail;refine(RU c _).mono ?_;rintro e B ⟨rfl,i⟩;have f:=jA i;clear i;go_wp2_with fail;refine(g.out _ f.out).mono ?_;rintro e C ⟨rfl,n,j⟩;have a:=jA (jd n ((f.out.but _).trans j));clear n j g f;go_wp2_with fail;go_ret;exact⟨_,rfl,⟨0,Kz (at':=c) a.out.2.size c rfl⟩,a.out.1.grow (ah _ _ none),a.out.2.trans ((ah _ _ none).but _)⟩
structure Plain(p:Ps):Prop where
 k3:¬p.k.kind=3
 k4:¬p.k.kind=4
 k2:¬p.k.kind=2
theorem Plain.Nx(h:Plain p):(p.k.kind==3)=false/\(p.k.kind==4)=false/\(p.k.kind==2)=false:=by
 obtain⟨a,b,c⟩:=h;exact⟨by simp[a],by simp[b],by simp[c]⟩
theorem lK{t:List UInt8}{b:Bool}(h:p.is t=b):(p.k.text.toList==t)=b:=by rw[aZ];exact h
theorem avy{w:jk}(b:Nat)(a c:Int)(h:w.cell? (Ad b 0)=some (Im a))(g:∀j,w.frozen? (Ad b j)=false):Calls prog 357 #[Pt b 0,Im c] w λe f=>e=.returned (.tuple #[])/\f=w.setCell (Ad b 0) (Im c):=by
 go_enter func357,ntmps357;go_wp2;go_end0;exact⟨rfl,rfl⟩
theorem aj3(z:s.size<=4000)(o:p.Ok s)(l:Plain p)(m:p.is [116,114,117,101]=true\/(p.is [116,114,117,101]=false/\p.is [102,97,108,115,101]=true)):mX 270 [] s p (AB p.k.at' 1 2 (p.is [116,114,117,101]),p.next s):=by
 intro P w h;have f:Hid (∀x,w.grownBy x none->Calls prog 236 #[Pt P 0] x (qN P s x (.agg #[Im p.k.kind,.string p.k.text,Im p.k.at']) (p.next s))):=λx A=>xQ (h.grow A) o z;have B:=kH.c1 h;have C:=kH.c2 h;have D:=kH.c3 h;obtain⟨F,G,E⟩:=l.Nx;have y:=NS p.k.kind p.k.at' p.k.text;have j:p.is [116,114,117,101]=(p.k.text.toList==[116,114,117,101]):=by rw[aZ];rfl
 have b:(p.k.text.toList==[116,114,117,101])=true\/((p.k.text.toList==[116,114,117,101])=false/\(p.k.text.toList==[102,97,108,115,101])=true):=by rw[aZ];exact m
 rw[j];generalize p.next s=q at *;generalize p.k.kind=H at *;generalize p.k.text=I at *;generalize p.k.at'=n at *;clear h o m l j;rcases b with u|⟨u,J⟩;all_goals
  rw[u];go_enter func270,ntmps270;go_wp2_with fail;refine(RU n _).mono ?_;rintro e K ⟨rfl,g⟩;have c:=jA g;clear g;go_wp2_with fail;refine(f.out _ c.out).mono ?_;rintro e v ⟨rfl,t,i⟩;have a:Hid (jR v P s q/\w.grownBy v (some P)):=⟨t,(c.out.but _).trans i⟩;clear t i f c;go_wp2_with fail;go_ret;exact⟨_,rfl,Kz a.out.2.size n rfl,a.out.1.grow (ah _ _ none),a.out.2.trans ((ah _ _ none).but _)⟩
theorem ajZ(t:Plain p)(z:p.is [116,114,117,101]=false)(A:p.is [102,97,108,115,101]=false)(B:p.is [40]=true)(x:kT r.1)(u:mX 274 [] s p r):mX 270 [] s p (r.1.widen p.k.at',r.2):=by
 intro P w h;have H:=h.lt;have l:=jA (u P w h);have K:=kH.c1 h;have L:=kH.c2 h;have M:=kH.c3 h;obtain⟨O,Q,N⟩:=t.Nx;have z:=lK z;have A:=lK A;have B:=lK B;have m:=jA x;generalize p.k.kind=R at *;generalize p.k.text=S at *;generalize p.k.at'=a at *;clear h u t x;go_enter func270,ntmps270;go_wp2_with fail;refine l.out.mono ?_;rintro e c ⟨v,rfl,f,y,o⟩;obtain⟨T,b,rfl,G,F,J,n,E,q⟩:=m.out.head _ _ _ _ _ f;have I:=G.widen b;have D:=jA (avy b _ a n q);have g:P≠b:=by omega
 have C:Hid (r.1.here a (c.setCell (Ad b 0) (Im a)) w.heap.size (c.setCell (Ad b 0) (Im a)).heap.size (.iface T (Pt b 0))/\jR (c.setCell (Ad b 0) (Im a)) P s r.2/\w.grownBy (c.setCell (Ad b 0) (Im a)) (some P)):=by
  refine⟨?_,y.Ej g _ _,pR o F _ _⟩;have i:(c.setCell (Ad b 0) (Im a)).heap.size=c.heap.size:=Array.size_modify ..;rw[i];exact m.out.widen _ _ _ _ _ _ _ f
 clear f y o l q n E;go_wp2_with fail;refine D.out.mono ?_;rintro e U ⟨rfl,j⟩;rw[j];go_wp2_with fail;go_ret;exact⟨_,rfl,C.out⟩
theorem ajX(V:s.size<=4000)(F:p.Ok s)(C:Plain p)(I:p.is [116,114,117,101]=false)(J:p.is [102,97,108,115,101]=false)(K:p.is [40]=false)(L:p.is [105,115,110,111,110,101]=true)(g:kT r.1)(D:mX 274 [] s (p.next s) r):mX 270 [] s p (yP p.k.at' r.1,r.2):=by
 intro P w h;have S:=h.lt;have n:=jA (xQ h F V);have t:=jA (λx (g:jR x P s (p.next s))=>D P x g);have c1:=kH.c1 h;have c2:=kH.c2 h;have c3:=kH.c3 h;obtain⟨k3,k4,k2⟩:=C.Nx;have I:=lK I;have J:=lK J;have K:=lK K;have L:=lK L;have f:=jA g;have N:Hid (zh (oD (r.1.here r.1.at'))):=qW (g.law _);generalize l:xY p.k=tv at *;generalize p.next s=q at *;generalize p.k.kind=kk at *;generalize p.k.text=kt at *;generalize p.k.at'=E at *;clear h D C g F l;go_enter func270,ntmps270;go_wp2_with fail;refine n.out.mono ?_;rintro e w1 ⟨rfl,G,y⟩;have m:=jA (jd G y);clear G y n;go_wp2_with fail;refine(t.out _ m.out.1).mono ?_;rintro e w2 ⟨v,rfl,j,H,z⟩;obtain⟨T,A,rfl,U,Z,b2,Q⟩:=f.out.sH j;have a:=jA (jd j (jd H z));have Y:=jA (uq A 0 _ Q);clear j H z t;go_wp2_with fail;refine Y.out.mono ?_;rintro e M ⟨rfl,rfl⟩;go_wp2_with fail;refine(Aj E _ [r.1.jw] (Xw M _ r.1.jw f.out.jw.1 f.out.jw.2)).mono ?_;rintro e c ⟨rfl,B⟩;have i:=jA ((ah M _ none).trans B);clear B;have u:Hid (oD (r.1.here r.1.at') c w.heap.size c.heap.size [.iface T (Pt A 0)]/\w.heap.size<=c.heap.size):=by
  have W:=m.out.2.size;have s2:=a.out.2.2.size;have X:=i.out.size;exact⟨⟨_,rfl,(f.out.law _).wide _ _ _ _ _ _ ((f.out.law _).loc _ _ _ _ _ a.out.1 (λb _ R=>i.out.block b R (by simp))) W X⟩,by omega⟩
 have O:Hid (∀o,jR (c.alloc o) P s r.2/\w.grownBy (c.alloc o) (some P)):=λo=>
  ⟨a.out.2.1.grow (i.out.trans (ah c o none)),(m.out.2.trans a.out.2.2).trans ((i.out.trans (ah c o none)).but _)⟩
 go_wp2_with fail;go_ret;exact⟨_,rfl,La N.out u.out.1 u.out.2 E rfl,O.out _⟩
theorem aj0(f:Plain p)(j:p.is [116,114,117,101]=false)(l:p.is [102,97,108,115,101]=false)(m:p.is [40]=false)(n:p.is [105,115,110,111,110,101]=false)(i:p.is [82,79,65,68,83]=true\/(p.is [82,79,65,68,83]=false/\p.is [70,82,69,83,72]=true)\/(p.is [82,79,65,68,83]=false/\p.is [70,82,69,83,72]=false/\p.is [65,71,65,73,78]=true))(g:mX 275 [] s p r):mX 270 [] s p r:=by
 intro P w h;have b:=jA (g P w h);have u:=kH.c1 h;have x:=kH.c2 h;have y:=kH.c3 h;obtain⟨A,B,z⟩:=f.Nx;have j:=lK j;have l:=lK l;have m:=lK m;have n:=lK n;have a:(p.k.text.toList==[82,79,65,68,83])=true\/((p.k.text.toList==[82,79,65,68,83])=false/\(p.k.text.toList==[70,82,69,83,72])=true)\/((p.k.text.toList==[82,79,65,68,83])=false/\(p.k.text.toList==[70,82,69,83,72])=false/\(p.k.text.toList==[65,71,65,73,78])=true):=by rw[aZ];exact i
 generalize p.k.kind=D at *;generalize p.k.text=E at *;generalize p.k.at'=C at *;clear h g f i;rcases a with o|⟨o,t⟩|⟨o,t,F⟩;all_goals
  go_enter func270,ntmps270;go_wp2_with fail;refine b.out.mono ?_;rintro e G ⟨v,rfl,c⟩;have q:=jA c;clear c b;go_wp2_with fail;go_ret;exact⟨_,rfl,q.out⟩
theorem abm(f:Plain p)(i:p.is [116,114,117,101]=false)(j:p.is [102,97,108,115,101]=false)(l:p.is [40]=false)(m:p.is [105,115,110,111,110,101]=false)(n:p.is [82,79,65,68,83]=false)(o:p.is [70,82,69,83,72]=false)(t:p.is [65,71,65,73,78]=false):mX 270 [] s p (rJ,p.fail):=by
 intro P w h;have b:=jA (EX h);have u:=kH.c1 h;have v:=kH.c2 h;have x:=kH.c3 h;obtain⟨z,A,y⟩:=f.Nx;have i:=lK i;have j:=lK j;have l:=lK l;have m:=lK m;have n:=lK n;have o:=lK o;have t:=lK t;generalize p.fail=q at *;generalize p.k.kind=C at *;generalize p.k.text=D at *;generalize p.k.at'=B at *;clear h f;go_enter func270,ntmps270;go_wp2_with fail;refine b.out.mono ?_;rintro e E ⟨rfl,g,c⟩;have a:=jA (jd g c);clear g c b;go_wp2_with fail;go_ret;exact⟨_,rfl,Kz a.out.2.size 0 rfl,a.out.1.grow (ah _ _ none),a.out.2.trans ((ah _ _ none).but _)⟩
end
end
end Go.Proofs.YthllhabjfchgiaaGreatDoor
