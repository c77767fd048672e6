import Derived.Test.YthllhabjfchgiaaGreatDoorHk23
set_option maxRecDepth 100000
set_option maxHeartbeats 8000000
set_option linter.unusedSimpArgs false
namespace Go.Proofs.YthllhabjfchgiaaGreatDoor
open _root_.Go.Proofs.Tryz
section
open Go.RowKit Hx
section
structure rD(N:Nat)(Q:Ex->Prop)(x:Sx):Prop where
 of:x.of=3\/x.of=4
 all:∀b∈x.jE,Q b.2
 len:x.jE.length<=N
 jw:0<=x.jw/\x.jw<=1000001
 sum:x.jw<=1000000->1+(x.jE.map λb=>1+b.2.jw).sum<=x.jw
theorem Gl{a b:Int}(hb:0<=b)(h:lu [a,b]<=1000000):lu [a,b]=a+b:=by
 unfold lu at h⊢;simp only[bP,eF]at h⊢;omega
theorem W9{a:Int}(h:lu [a]<=1000000):lu [a]=a:=by
 unfold lu at h⊢;simp only[bP,eF]at h⊢;omega
theorem NG{x:Sx}{c:Int}(hc:0<=c)(h:x.round c<=1000000):1+c<=x.round c:=by
 unfold Hx.Sx.round at h⊢;rw[W9 h];have h2:=W9 h;rw[h2]at h;have h3:lu [1,c]<=1000000:=by split at h<;>omega
 have h4:=Gl (a:=1) (b:=c) hc h3;rw[h4];split<;>omega
theorem rD.ah1{x:Sx}{b:Wd×Ex}(hx:0<=x.jw)(hb:0<=b.2.jw)(h:x.jw<=1000000->1+(x.jE.map λb=>1+b.2.jw).sum<=x.jw)(hr:0<=x.round b.2.jw):(x.add b).jw<=1000000->1+((x.add b).jE.map λb=>1+b.2.jw).sum<=(x.add b).jw:=by
 unfold Hx.Sx.add;simp only;intro hc;have h1:=Gl hr hc;rw[h1]at hc⊢;have h2:=NG (x:=x) hb (by omega);have h3:=h (by omega);simp only[dF,dL,iM,List.sum_append,gY,List.sum_nil];omega
structure CV(N:Nat)(Q0 Q:Ex->Prop):Prop where
 jw:∀e,Q0 e->0<=e.jw/\e.jw<=1000001
 number:∀a n,Q (kN a n)
 kW:∀a b,Q (zY a 1 2 b)
 none:Q rF
 register:∀a i,Q (wQ a i)
 use:∀a d,Q (oZ a d)
 widen:∀e a,Q0 e->Q (e.widen a)
 isNone:∀a e,Q0 e->Q (yZ a e)
 minus:∀a sign e,sign.data.toList=[45]->Q e->Q (oV a 1 sign e)
 not:∀a sign e,sign.data.toList=[33]->Q e->Q (oV a 2 sign e)
 two:∀a sign l r,Q l->Q r->Q (kK a (kE sign.data.toList).2 sign l r)
 property:∀a e (d:Wd),Q e->Q (vY a (pG d.text.data.toList).2 (pG d.text.data.toList).1 e d)
 Qp:∀a l r,Q l->Q0 r->Q (x9 a l r)
 Le:∀k what x,rD N Q0 x->Q (xR k what x)
 FX:∀k what x b,rD N Q0 x->Q0 b.2->Q (uY k what x b)
section
variable {s:ji}{ex:Ps->Ex×Ps}{Q0 Q:Ex->Prop}{N:Nat}
theorem Jt{p:Ps}{t:List UInt8}(h:p.is t=true):p.k.text.data.toList=t:=by simpa [Ps.is]using h
theorem afM(hq:∀e,Q0 e->0<=e.jw/\e.jw<=1000001)(h0:∀p,Q0 (ex p).1):∀(n:Nat)(x:Sx)(p:Ps),x.jE.length+n<=N->rD N Q0 x->rD N Q0 (vw s ex n x p).1.1
 |0,_,_,_,hx=>hx
 |n+1,x,p,hn,hx=>by
  unfold vw;split
  .split
   .have hl:(x.jE++[(qP s ex ((p.next s).next s)).1]).length+n<=N:=by simp only[aA,aF,bg];omega
    refine afM hq h0 n _ _ hl ⟨hx.1,λb hb=>?_,dH (Nat.le_add_right _ _) hl,yu _ (by have:=hx.jw;have:=uo (x:=x) (hq _ (h0 (((p.next s).next s).jZ s [40]|>.name s|>.2|>.expect s [58])));simp;exact⟨by omega,by first|omega|exact this⟩),rD.ah1 hx.jw.1 (hq _ (h0 _)).1 hx.sum (uo (hq _ (h0 _))).1⟩;rcases List.mem_append.1 hb with hb|hb
    .exact hx.2 b hb
    .rw[cO.1 hb];exact h0 _
   .exact hx
  .exact hx
theorem afP(hq:∀e,Q0 e->0<=e.jw/\e.jw<=1000001)(h0:∀p,Q0 (ex p).1)(n:Nat)(hn:n<=N)(p:Ps):rD N Q0 (oD s ex n p).1.1:=by
 unfold oD;split
 .rename_i of hof;exact afM hq h0 _ _ _ (by simpa using hn) ⟨QU hof,λb hb=>(by cases hb),bD _,by simp,by simp⟩
 .exact⟨je rfl,λb hb=>(by cases hb),bD _,by simp,by simp⟩
theorem ap9(hc:CV N Q0 Q)(h0:∀p,Q0 (ex p).1)(n:Nat)(hn:n<=N)(p:Ps):Q (AY s ex n p).1:=by
 have hS:=afP (s:=s) hc.jw h0 n hn p;unfold AY;split
 .unfold Ih;repeat' split
  .exact hc.Le _ _ _ hS
  .exact hc.Le _ _ _ hS
  .exact hc.FX _ _ _ _ hS (h0 _)
  .exact hc.FX _ _ _ _ hS (h0 _)
  .exact hc.FX _ _ _ _ hS (h0 _)
  .exact hc.none
 .exact hc.none
theorem ZQ(hc:CV N Q0 Q)(h0:∀p,Q0 (ex p).1)(n:Nat)(hn:n<=N)(p:Ps):Q (sZ s ex n p).1:=by
 unfold sZ;repeat' split
 .exact hc.number _ _
 .exact hc.register _ _
 .exact hc.use _ _
 .exact hc.kW _ _
 .exact hc.widen _ _ (h0 _)
 .exact hc.isNone _ _ (h0 _)
 .exact ap9 hc h0 n hn p
 .exact hc.none
theorem Oj(hc:CV N Q0 Q)(h0:∀p,Q0 (ex p).1)(at':Int):∀(n:Nat)(e:Ex)(p:Ps),Q e->Q (tk s ex at' n e p).1
 |0,_,_,he=>he
 |n+1,e,p,he=>by
  unfold tk;split
  .simp only;split
   .exact Oj hc h0 at' n _ _ (hc.Qp _ _ _ he (h0 _))
   .exact Oj hc h0 at' n _ _ (hc.property _ _ _ he)
  .exact he
theorem Vg(hc:CV N Q0 Q)(h0:∀p,Q0 (ex p).1)(n:Nat)(hn:n<=N):∀(m:Nat)(p:Ps),Q (qG s ex n m p).1
 |0,p=>Oj hc h0 _ _ _ _ (ZQ hc h0 _ hn _)
 |m+1,p=>by
  unfold qG;split
  .rename_i h1;exact hc.minus _ _ _ (Jt h1) (Vg hc h0 n hn m _)
  split
  .rename_i h1;exact hc.not _ _ _ (Jt h1) (Vg hc h0 n hn m _)
  .exact Oj hc h0 _ _ _ _ (ZQ hc h0 _ hn _)
theorem aea(hc:CV N Q0 Q){lower:Ps->Ex×Ps}(hl:∀p,Q (lower p).1)(of at':Int):∀(n:Nat)(e:Ex)(p:Ps),Q e->Q (rY s lower of at' n e p).1
 |0,_,_,he=>he
 |n+1,e,p,he=>by
  unfold rY;split
  .simp only;split
   .exact hc.two _ _ _ _ he (hl _)
   .exact aea hc hl of at' n _ _ (hc.two _ _ _ _ he (hl _))
  .exact he
theorem VF(hc:CV N Q0 Q)(h0:∀p,Q0 (ex p).1)(n:Nat)(hn:n<=N):∀(l:Nat)(p:Ps),Q (qR s ex n l p).1
 |0,p=>Vg hc h0 n hn n p
 |l+1,p=>aea hc (VF hc h0 n hn l) _ _ _ _ _ (VF hc h0 n hn l p)
end
theorem OJ(s:ji)(Q:Nat->Ex->Prop)(hn:Q 0 rF)(hc:∀d,CV (s.size+1) (Q d) (Q (d+1))):∀(d:Nat)(p:Ps),Q d (kT s d p).1
 |0,_=>hn
 |d+1,p=>VF (hc d) (OJ s Q hn hc d) _ (aj _) _ p
structure KX(N:Nat)(GI QX:Ex->Prop)(L0:List jG->Prop)(QS:jG->Prop):Prop where
 jw:∀e,GI e->0<=e.jw/\e.jw<=1000001
 Qe:∀a b e,QX e->QS (sJ a b e)
 QY:∀b e,QX e->QS (sO b e)
 Rh:∀a i e,QX e->QS (mY a i e)
 QD:∀a e f,GI e->GI f->QS (vg a e f)
 returning:∀a,QS (yH a)
 choice:∀a e y n,QX e->L0 y->L0 n->QS (nY a e y n)
 loop:∀a b x l,rD N GI x->L0 l->QS (sG a b x l)
theorem as2{s:ji}{ex ex':Ps->Ex×Ps}{jM:Ps->List jG×Ps}{GI QX:Ex->Prop}{L0:List jG->Prop}{QS:jG->Prop}{N:Nat}(hc:KX N GI QX L0 QS)(h0:∀p,GI (ex' p).1)(h1:∀p,QX (ex p).1)(hb:∀p,L0 (jM p).1)(hnil:L0 [])(n:Nat)(hn:n<=N)(p:Ps):
 ∀e,(nD s ex jM ex' n p).1=some e->QS e:=by
 intro e he;unfold nD at he;split at he
 .cases he;exact hc.QY _ _ (h1 _)
 split at he
 .cases he;exact hc.Rh _ _ _ (h1 _)
 split at he
 .cases he;exact hc.Qe _ _ _ (h1 _)
 split at he
 .cases he;exact hc.QD _ _ _ (h0 _) (h0 _)
 split at he
 .cases he;exact hc.returning _
 split at he
 .cases he;unfold yT;simp only;split
  .exact hc.choice _ _ _ _ (h1 _) (hb _) (hb _)
  .exact hc.choice _ _ _ _ (h1 _) (hb _) hnil
 split at he
 .cases he;exact hc.loop _ _ _ _ (afP hc.jw h0 _ hn _) (hb _)
 .cases he
theorem af5{st:Ps->Option jG×Ps}{QS:jG->Prop}(h:∀p e,(st p).1=some e->QS e):∀(n:Nat)(l:List jG)(p:Ps),(∀e∈l,QS e)->∀e∈(pX st n l p).1,QS e
 |0,_,_,hl=>hl
 |n+1,l,p,hl=>by
  unfold pX;split
  .rename_i e q he;refine af5 h n _ _ (λx hx=>?_);rcases List.mem_append.1 hx with hx|hx
   .exact hl x hx
   .rw[cO.1 hx];exact h p e (by rw[he])
  .exact hl
theorem af9(st:Ps->Option jG×Ps):∀(n:Nat)(l:List jG)(p:Ps),(pX st n l p).1.length<=l.length+n
 |0,l,_=>aj _
 |n+1,l,p=>by
  unfold pX;split
  .rename_i e q _;have:=af9 st n (l++[e]) q;simp only[aA,aF,bg]at this;omega
  .simp only;omega
theorem Q9(s:ji)(QX:Nat->Ex->Prop)(QS:Nat->jG->Prop)(L:Nat->List jG->Prop)(hx:∀d p,QX d (kT s d p).1)(hc:∀d,KX (s.size+1) (QX d) (QX (d+1)) (L d) (QS (d+1)))(hnil:∀d,L d [])(hl:∀d l,l.length<=s.size+1->(∀e∈l,QS (d+1) e)->L (d+1) l):∀(d:Nat)(p:Ps),L d (lZ s d p).1
 |0,_=>hnil 0
 |d+1,p=>by
  have h0:=Q9 s QX QS L hx hc hnil hl d;have hb:∀p,L d (oJ s (lZ s d) p).1:=λp=>by unfold oJ;exact h0 _
  have hx0:=hx d;have hx1:=hx (d+1);have hcd:=hc d;have hnd:=hnil d;show L (d+1) (pX (nD s (kT s (d+1)) (oJ s (lZ s d)) (kT s d) (s.size+1)) (s.size+1) [] p).1;generalize kT s (d+1)=ex1 at *;generalize kT s d=ex0 at *;generalize oJ s (lZ s d)=bk at *;have h1:∀p e,(nD s ex1 bk ex0 (s.size+1) p).1=some e->QS (d+1) e:=λp e he=>as2 hcd hx0 hx1 hb hnd (s.size+1) (aj _) p e he;have h2:=af9 (nD s ex1 bk ex0 (s.size+1)) (s.size+1) [] p;have h3:=af5 h1 (s.size+1) [] p (by simp);exact hl d _ (by simpa using h2) h3
end
end
section
open Go.RowKit Hx
attribute [local go_sem ↓] Go.wp_at_zero Go.wp_at_succ
attribute [local go_sem] kP
section
variable {w w' w2 wy:jk}{C lo hi lo' hi':Nat}{c:Ck}{v:jm}
def rowOf(w:jk)(C:Nat):Option Nat:=match w.cell? (Ad C 0)with|some v=>v.ownBlock|none=>none
theorem V6(h:w'.heap[C]? =w.heap[C]?):rowOf w' C=rowOf w C:=by
 unfold rowOf;rw[bQ (a:=(Ad C 0)) h]
structure Lk(w w':jk)(lo hi C:Nat):Prop where
 os:w'.os=w.os
 tape:w'.tape=w.tape
 output:w'.output=w.output
 size:w.heap.size<=w'.heap.size
 keep:∀k,k<C->k<lo\/hi<=k->w'.heap[k]? =w.heap[k]?
 pF:∀k,C<k->k<w.heap.size->some k≠rowOf w C->w'.heap[k]? =w.heap[k]?
 row:∀g,rowOf w' C=some g->rowOf w C=some g\/w.heap.size<=g
theorem Lk.refl(w:jk)(lo hi C:Nat):Lk w w lo hi C:=⟨rfl,rfl,rfl,aj _,λ_ _ _=>rfl,λ_ _ _ _=>rfl,λ_ h=>jf h⟩
theorem Lk.trans(h:Lk w w' lo hi C)(k:Lk w' w2 lo hi C):Lk w w2 lo hi C:=by
 have s1:=h.size;have s2:=k.size;refine⟨k.os.trans h.os,k.tape.trans h.tape,k.output.trans h.output,dH h.size k.size,λb b1 b2=>(k.keep b b1 b2).trans (h.keep b b1 b2),λb b1 b2 b3=>(k.pF b b1 (by omega) (λe=>?_)).trans (h.pF b b1 b2 b3),λg hg=>?_⟩
 .rcases h.row b e.symm with e2|e2
  .exact b3 e2.symm
  .omega
 .rcases k.row g hg with e|e
  .exact h.row g e
  .exact je (by omega)
theorem Lk.wide(h:Lk w w' lo hi C)(h1:lo'<=lo)(h2:hi<=hi'):Lk w w' lo' hi' C:=
 ⟨h.os,h.tape,h.output,h.size,λb b1 b2=>h.keep b b1 (by omega),h.pF,h.row⟩
theorem Lk.all(h:Lk w w' 0 0 C)(lo hi:Nat):Lk w w' lo hi C:=⟨h.os,h.tape,h.output,h.size,λb b1 _=>h.keep b b1 (je (bD _)),h.pF,h.row⟩
theorem Lk.grown(h:w.grownBy w' none)(hC:C<w.heap.size):Lk w w' 0 0 C:=
 ⟨h.os,h.tape,h.output,h.size,λb b1 _=>h.block b (by omega) (by simp),λb _ b2 _=>h.block b b2 (by simp),λg hg=>jf (by rw[<-V6 (h.block C hC (by simp))];exact hg)⟩
theorem Lk.tree{b:Nat}(h:w.grownBy w' (some b))(hC:C<w.heap.size)(h1:lo<=b)(h2:b<hi)(h3:b<C):Lk w w' lo hi C:=
 ⟨h.os,h.tape,h.output,h.size,λk b1 b2=>h.block k (by omega) (by simp;omega),λk k1 k2 _=>h.block k k2 (by simp;omega),λg hg=>jf (by rw[<-V6 (h.block C hC (by simp;omega))];exact hg)⟩
theorem Lk.fault(w:jk)(j:Nat)(u:jm)(lo hi C:Nat):Lk w (w.setCell (Ad C (j+1)) u) lo hi C:=
 ⟨rfl,rfl,rfl,by simp,λb b1 _=>bC _ _ _ _ (by show b≠C;omega),λb b1 _ _=>bC _ _ _ _ (by show b≠C;omega),λg hg=>jf (by
   unfold rowOf at hg⊢
   rwa [bG _ _ _ _ (by simp)]at hg)⟩
theorem Lk.named{u v:jm}(h:w.grownBy w' v.ownBlock)(hC:C<w.heap.size)(hv:w.cell? (Ad C 0)=some v)(hv2:∀k,v.ownBlock=some k->C<k)(hu:∀k,u.ownBlock=some k->v.ownBlock=some k\/w.heap.size<=k):Lk w (w'.setCell (Ad C 0) u) 0 0 C:=by
 have hr:rowOf w C=v.ownBlock:=by unfold rowOf;rw[hv]
 have hb:=h.block C hC (λe=>by have:=hv2 C e.symm;omega);have hr2:rowOf (w'.setCell (Ad C 0) u) C=u.ownBlock:=by
  unfold rowOf;rw[dB _ _ _ ((bQ hb).trans hv)]
 refine⟨h.os,h.tape,h.output,by simpa using h.size,λb b1 _=>?_,λb b1 b2 b3=>?_,λg hg=>?_⟩
 .rw[bC _ _ _ _ (by show b≠C;omega)];exact h.block b (by omega) (λe=>by have:=hv2 b e.symm;omega)
 .rw[bC _ _ _ _ (by show b≠C;omega)];exact h.block b b2 (by rw[hr]at b3;exact b3)
 .rw[hr2]at hg;rw[hr];exact hu g hg
theorem Lk.cell(h:Lk w w' lo hi C){b j:Nat}(hb:b<C)(h2:b<lo\/hi<=b):w'.cell? (Ad b j)=w.cell? (Ad b j):=bQ (h.keep b hb h2)
theorem Hx.Lawful.lk{E:sV}(hE:Lawful E){l m:Nat}{u:jm}(h:E w l m u)(k:Lk w w' lo hi C)(hm:m<=C)(hd:m<=lo\/hi<=l):E w' l m u:=
 hE.loc _ _ _ _ _ h λb b1 b2=>k.keep b (by omega) (by omega)
def uU(ns:List Kn):List jm:=ns.flatMap λk=>[.string k.name,Im k.kind,.bool k.isVar]
def UY(k:Kn):jm:=.agg #[.string k.name,Im k.kind,.bool k.isVar]
theorem acX:∀(ns:List Kn)(i:Nat)(k:Kn),ns[i]? =some k->(uU ns)[i * 3]? =some (.string k.name)/\(uU ns)[i * 3+1]? =some (Im k.kind)/\(uU ns)[i * 3+2]? =some (.bool k.isVar)
 |[],i,k,h=>by simp at h
 |k0::ns,0,k,h=>by
  simp only[dw,bJ]at h;subst h;exact⟨rfl,rfl,rfl⟩
 |k0::ns,i+1,k,h=>by
  have ih:=acX ns i k (by simpa using h);have e:∀j,(uU (k0::ns))[j+3]? =(uU ns)[j]? :=λj=>by simp[uU]
  have e1:(i+1) * 3=i * 3+3:=by omega
  rw[e1];exact⟨(e _).trans ih.1,(e (i * 3+1)).trans ih.2.1,(e (i * 3+2)).trans ih.2.2⟩
theorem amD(ns:List Kn)(n:Nat):(uU ns).take (n * 3)=uU (ns.take n):=by
 induction ns generalizing n with
 |nil=>simp[uU]
 |cons k ns ih=>
  cases n with
  |zero=>simp[uU]
  |succ n=>
   have:=ih n;have e:(n+1) * 3=n * 3+1+1+1:=by omega
   rw[e];simp only[uU,c8,bZ,dP,aC]at this⊢;rw[this]
structure uO(w:jk)(C:Nat)(v:jm)(c:Ck):Prop where
 jM:w.heap[C]? =some (.cells #[v,Im c.en,Im c.ea] 188)
 row:w.ownsRow (C+1) 446 3 v c.jy.length (uU c.jy)
def kY(w:jk)(C:Nat)(c:Ck):Prop:=∃v,uO w C v c
theorem Bc{B n k:Nat}{T:jo}{us:List jm}(h:w.ownsRow B T k v n us):∃a cap,v=.slice a n cap:=by
 rcases h with⟨_,⟨h2,h3⟩|⟨g,cap,cur,h2,_⟩⟩
 .subst h3;exact⟨_,_,h2⟩
 .exact⟨_,_,h2⟩
theorem aen{B n k:Nat}{T:jo}{us:List jm}{a:Option Addr}{l cap:Nat}(h:w.ownsRow B T k (.slice a l cap) n us){j:Nat}{u:jm}(hj:us[j]? =some u):
 ∃g,a=some (Ad g 0)/\B<=g/\g<w.heap.size/\∀j u,us[j]? =some u->w.cell? (Ad g j)=some u:=by
 rcases h with⟨h1,⟨h2,h3⟩|⟨g,cap',cur,h2,h3,h4,h5,h6,h7,h8⟩⟩
 .subst h3;have:us=[]:=by simpa using h1
  rw[this]at hj;simp at hj
 .cases h2;refine⟨g,rfl,h3,lY h4,λj u hj=>?_⟩;rw[jI h4];rw[<-h8,iW]at hj;split at hj
  .simpa using hj
  .cases hj
theorem uO.lt(h:uO w C v c):C<w.heap.size:=lY h.jM
theorem kY.lt(h:kY w C c):C<w.heap.size:=h.elim λ_ h=>h.lt
theorem uO.ne(h:uO w C v c):v.ownBlock≠some C:=λe=>by have:=(h.row.lt C e).1;omega
theorem uO.grow(h:uO w C v c)(hg:w.grownBy w' none):uO w' C v c:=⟨(hg.block C h.lt (by simp)).trans h.jM,h.row.kept hg (by cases v.ownBlock<;>simp)⟩
theorem kY.grow(h:kY w C c)(hg:w.grownBy w' none):kY w' C c:=h.elim λv h=>⟨v,h.grow hg⟩
theorem uO.below(h:uO w C v c){b:Nat}(hb:b<C)(hg:w.grownBy w' (some b)):uO w' C v c:=⟨(hg.block C h.lt (by simp;omega)).trans h.jM,h.row.kept hg (by
 cases hv:v.ownBlock with
 |none=>exact jf rfl
 |some k=>right;have:=(h.row.lt k hv).1;simp;omega)⟩
theorem kY.below(h:kY w C c){b:Nat}(hb:b<C)(hg:w.grownBy w' (some b)):kY w' C c:=h.elim λv h=>⟨v,h.below hb hg⟩
theorem uO.asg(h:uO w C v c)(e a:Int):uO ((w.setCell (Ad C 1) (Im e)).setCell (Ad C 2) (Im a)) C v ⟨c.jy,e,a⟩:=by
 have h1:(w.setCell (Ad C 1) (Im e)).heap[C]? =some (.cells #[v,Im e,Im c.ea] 188):=aK _ _ _ _ _ _ h.jM;exact⟨aK _ _ _ _ _ _ h1,((h.row.kept (nK w C 1 _) (je h.ne)).kept (nK _ C 2 _) (je h.ne))⟩
theorem uO.NI(h:uO w C v c){u:jm}{ns:List Kn}(hg:w.grownBy w' v.ownBlock)(hr:w'.ownsRow (C+1) 446 3 u ns.length (uU ns)):uO (w'.setCell (Ad C 0) u) C u ⟨ns,c.en,c.ea⟩:=by
 have hu:u.ownBlock≠some C:=λe=>by have:=(hr.lt C e).1;omega
 have h1:=(hg.block C h.lt (λe=>h.ne e.symm)).trans h.jM;exact⟨aK _ _ _ _ _ _ h1,hr.kept (nK w' C 0 u) (je hu)⟩
theorem Lr(h:kY w C c)(e a:Int):Calls prog 316 #[Pt C 0,Im e,Im a] w λen w'=>en=.returned (.tuple #[])/\kY w' C (c.fail e a)/\Lk w w' 0 0 C:=by
 obtain⟨v,h⟩:=h;have c1:=jK 1 h.jM rfl;have c2:=jK 2 h.jM rfl;have fz:=qV h.jM;have HH:=jA h;clear h;unfold Ck.fail;by_cases hc:c.en=0
 .rw[jh hc];rw[hc]at c1;go_enter func316,ntmps316;go_wp2_with fail;go_end0;exact⟨rfl,⟨v,HH.out.asg e a⟩,(Lk.fault w 0 _ 0 0 C).trans (Lk.fault _ 1 _ 0 0 C)⟩
 .rw[jg hc];have hb:(c.en==0)=false:=by simp[hc]
  go_enter func316,ntmps316;go_wp2_with fail;go_end0;exact⟨rfl,⟨v,HH.out⟩,Lk.refl _ _ _ _⟩
theorem aa8(tmps:Array jm)(w:jk)(g:Nat)(k:Kn)(h2:tmps[4]? =some (Pt g 0))(h:w.heap[g]? =some (.cells #[.string k.name,Im k.kind,.bool k.isVar] 446)):
 (results Tryz.f315 tmps).run prog w=.ok (UY k) w:=by
 have q0:=jK 0 h rfl;have q1:=jK 1 h rfl;have q2:=jK 2 h rfl;simp[results,Tryz.results315,go_sem,h2,q0,q1,q2,UY]
theorem akA(ns:List Kn)(t:ji)(i:Nat)(k:Kn)(h:ns[i]? =some k):lJ (ns.drop i) t=if k.name.data.toList==t.data.toList then k else lJ (ns.drop (i+1)) t:=by
 obtain⟨hi,he⟩:=List.getElem?_eq_some_iff.1 h;rw[dA hi,he];unfold lJ;rw[fF];cases (k.name.data.toList==t.data.toList)<;>rfl
theorem Tf(h:kY w C c)(t:ji)(hn:c.jy.length<=1000000):Calls prog 315 #[Pt C 0,.string t] w λen w'=>en=.returned (UY (lJ c.jy t))/\w.grownBy w' none:=by
 obtain⟨v,h⟩:=h;obtain⟨a,cap,rfl⟩:=Bc h.row;have hC:=h.lt;have n1:¬C=w.heap.size:=by omega
 have c0:=jK 0 h.jM rfl;have hbox:(w.alloc (.cells #[.string ⟨#[]⟩,Im 0,.bool false] 446)).heap[w.heap.size]? =some (.cells #[.string ⟨#[]⟩,Im 0,.bool false] 446):=aY _ _;have HR:=jA h.row;have HB:=jA hbox;clear h hbox;have HN:Hid (lJ c.jy t=lJ (c.jy.drop 0) t):=rfl;generalize hr:lJ c.jy t=r at *;clear hr;generalize c.jy=ns at *;go_enter func315,ntmps315;go_wp2_with fail;go_loopg [12] (ns.length+1) (λgg i wr=>Hid (∃k:Nat,k+gg=ns.length+1/\k<=ns.length/\i=Im k/\r=lJ (ns.drop k) t/\(w.alloc (.cells #[.string ⟨#[]⟩,Im 0,.bool false] 446)).grownBy wr none))
 case atStart=>exact⟨0,by omega,bD _,rfl,HN.out,aN _ _⟩
 case round=>
  obtain⟨k,hk1,hk2,rfl,hr,hg⟩:=hrel.out;clear hrel;have hbox:=(hg.block _ (lY HB.out) (by simp)).trans HB.out;have b0:=jK 0 hbox rfl;have b1:=jK 1 hbox rfl;have b2:=jK 2 hbox rfl;have fz:=qV hbox;have hlt0:=lY hbox;have n2:¬w.heap.size=wr.heap.size:=by omega
  have Y0:=jA hbox;have HG:=jA ((ah w _ none).trans hg);by_cases hlt:k<ns.length
  .have d1:decide ((k:Int)<(ns.length:Int))=true:=by simp;omega
   have i0:(0:Int)<=(k:Int):=by omega
   have i1:(k:Int)<(ns.length:Int):=by omega
   have hget:ns[k]? =some ns[k]:=by simp
   obtain⟨e0,e1,e2⟩:=acX ns k _ hget;obtain⟨g,hag,hBg,hgl,hcs⟩:=aen HR.out e0;subst hag;have k0:=(HG.out.cell (hcs _ _ e0) (by simp));have k1:=(HG.out.cell (hcs _ _ e1) (by simp));have k2:=(HG.out.cell (hcs _ _ e2) (by simp));have HD:Hid (r=if ns[k].name.data.toList==t.data.toList then ns[k]else lJ (ns.drop (k+1)) t):=by rw[hr];exact akA ns t k _ hget
   obtain⟨g',hg'⟩:∃g',gk=g'+1:=⟨gk-1,by omega⟩;have HW:=jA hg;clear hr hg hget e0 e1 e2 hcs;generalize ns[k]=kn at *;obtain⟨kt,kk,kv⟩:=kn;simp only at k0 k1 k2 HD;cases ht:(kt.data.toList==t.data.toList)with
   |true=>
    have ht2:(kt.toList==t.toList)=true:=by rw[aZ,aZ];exact ht
    have HD2:Hid (r=⟨kt,kk,kv⟩):=by have:=HD.out;rw[ht]at this;exact this
    clear HD;go_wp2_with fail;have hb2:=Il wr w.heap.size _ _ _ _ (.string kt) (Im kk) (.bool kv) Y0.out;have hg2:=pK (pK (pK HG.out (aj _) 0 (.string kt)) (aj _) 1 (Im kk)) (aj _) 2 (.bool kv);exact cu (aa8 _ _ w.heap.size ⟨kt,kk,kv⟩ rfl ((fP _ _ _ (lY hb2)).trans hb2)) rfl ⟨by rw[HD2.out],hg2.trans (ah _ _ none)⟩
   |false=>
    have ht2:(kt.toList==t.toList)=false:=by rw[aZ,aZ];exact ht
    have HD2:Hid (r=lJ (ns.drop (k+1)) t):=by have:=HD.out;rw[ht]at this;exact this
    clear HD;go_wp2_with fail;go_roundg g'
    case measure=>omega
    case rel=>exact⟨k+1,by omega,by omega,by go_num,HD2.out,HW.out.trans (ah _ _ none)⟩
  .have d1:decide ((k:Int)<(ns.length:Int))=false:=by simp;omega
   have HD:Hid (r=Vs):=by rw[hr,fH (by omega)];rfl
   clear hr hg;go_wp2_with fail;refine cu (aa8 _ _ w.heap.size Vs rfl (Il _ w.heap.size _ _ _ _ _ _ _ Y0.out)) rfl ⟨by rw[HD.out],?_⟩;exact pK (pK (pK HG.out (aj _) _ _) (aj _) _ _) (aj _) _ _
theorem NK(b:Nat)(k:Int)(h:w.cell? (Ad b 2)=some (Im k)):Calls prog 356 #[Pt b 0] w λe w'=>e=.returned (Im k)/\w'=w:=by
 go_enter func356,ntmps356;go_wp2;go_ret;exact⟨rfl,rfl⟩
theorem apt(b:Nat)(k:Int)(h:w.cell? (Ad b 0)=some (Im k)):Calls prog 312 #[Pt b 0] w λe w'=>e=.returned (Im k)/\w'=w:=by
 go_enter func312,ntmps312;go_wp2;go_ret;exact⟨rfl,rfl⟩
theorem aaB(h:kY w C c){T:jo}{b:Nat}{k a:Int}(hT:lU T)(h2:w.cell? (Ad b 2)=some (Im k))(h0:w.cell? (Ad b 0)=some (Im a))(is:Int):
 Calls prog 317 #[Pt C 0,.iface T (Pt b 0),Im is] w λen w'=>en=.returned (.tuple #[])/\kY w' C (c.want k a is)/\Lk w w' 0 0 C:=by
 have m1:=hT.sort b;have m2:=hT.place b;have HS:=jA (NK b k h2);have HP:=jA (apt b a h0);have HF:=jA (Lr h 3 a);have HH:=jA h;clear h h2 h0;unfold Ck.want;by_cases hk:k=is
 .rw[jh hk];have hb:(k !=is)=false:=by simp[hk]
  go_enter func317,ntmps317;go_wp2_with fail;refine HS.out.mono ?_;rintro e w1 ⟨rfl,rfl⟩;go_wp2_with fail;go_end0;exact⟨rfl,HH.out,Lk.refl _ _ _ _⟩
 .rw[jg hk];have hb:(k !=is)=true:=by simp[hk]
  go_enter func317,ntmps317;go_wp2_with fail;refine HS.out.mono ?_;rintro e w1 ⟨rfl,rfl⟩;go_wp2_with fail;refine HP.out.mono ?_;rintro e w1 ⟨rfl,rfl⟩;go_wp2_with fail;refine HF.out.mono ?_;rintro e w3 ⟨rfl,h1,h2⟩;have HE:=jA (jd h1 h2);clear h1 h2;go_wp2_with fail;go_end0;exact⟨rfl,HE.out⟩
theorem TI(a:ji)(b:Int)(c:Bool)(w:jk):(Instr.field 446 (.agg #[.string a,Im b,.bool c]) 1).run prog w=.ok (Im b) w:=by kernel_rfl
theorem Tj(h:kY w C c)(t:ji)(ta:Int)(hn:c.jy.length<=1000000):
 Calls prog 325 #[Pt C 0,.agg #[.string t,Im ta]] w λen w'=>en=.returned (.tuple #[])/\kY w' C (c.nG t ta)/\Lk w w' 0 0 C:=by
 have hC:=h.lt;have HF:Hid (∀x,w.grownBy x none->Calls prog 315 #[Pt C 0,.string t] x λen w'=>en=.returned (.agg #[.string (lJ c.jy t).name,Im (lJ c.jy t).kind,.bool (lJ c.jy t).isVar])/\x.grownBy w' none):=λx hx=>Tf (h.grow hx) t hn;have HA:=jA (λx (hx:w.grownBy x none)=>Lr (h.grow hx) 2 ta);have HH:Hid (∀x,w.grownBy x none->kY x C c/\Lk w x 0 0 C):=λx hx=>⟨h.grow hx,Lk.grown hx hC⟩;have HG:=jA (λo=>ah w o none);have HT:Hid (∀x,w.grownBy x none->x.heap[w.heap.size]? =x.heap[w.heap.size]?):=λ_ _=>rfl;clear h;unfold Ck.nG;generalize hr:lJ c.jy t=r at *;obtain⟨rt,rk,rv⟩:=r;simp only at HF⊢;have hbox:(w.alloc (.cells #[.string t,Im ta] 316)).heap[w.heap.size]? =some (.cells #[.string t,Im ta] 316):=aY _ _;have HB:Hid (∀x,(w.alloc (.cells #[.string t,Im ta] 316)).grownBy x none->x.cell? (Ad w.heap.size 1)=some (Im ta)):=λx hx=>hx.cell (jI hbox) (by simp);clear hbox hr HT;have hfk:=TI rt rk rv;by_cases hk:rk=0
 .rw[jh hk];subst hk;go_enter func325,ntmps325;go_wp2_with fail;refine(HF.out _ (HG.out _)).mono ?_;rintro e w1 ⟨rfl,g1⟩;have pR:=jA ((HG.out _).trans g1);clear g1;go_wp2_with fail;go_end0;exact⟨rfl,HH.out _ pR.out⟩
 .rw[jg hk];have hb:(rk !=0)=true:=by simp[hk]
  go_enter func325,ntmps325;go_wp2_with fail;refine(HF.out _ (HG.out _)).mono ?_;rintro e w1 ⟨rfl,g1⟩;have c1:=HB.out w1 g1;have pR:=jA ((HG.out _).trans g1);clear g1;go_wp2_with fail;refine(HA.out _ pR.out).mono ?_;rintro e w2 ⟨rfl,h1,h2⟩;have HE:=jA (jd h1 ((HH.out _ pR.out).2.trans h2));clear h1 h2;go_wp2_with fail;go_end0;exact⟨rfl,HE.out⟩
theorem Uf(w:jk)(o o2:Obj):((w.alloc o).alloc o2).heap[w.heap.size+1]? =some o2:=by
 rw[<-nX w o];exact aY _ _
theorem F8{o o2:Obj}{v:jm}{g n cap:Nat}(h:v.ownBlock=some g\/g=w.heap.size+1+1):∀k,(Value.slice (some (Ad g 0)) n cap).ownBlock=some k->v.ownBlock=some k\/(((w.alloc o).alloc o2).drewN 1).heap.size<=k:=λk hk=>by
 simp only[Value.ownBlock,bJ]at hk;subst hk;rcases h with h|h
 .exact jf h
 .right;have:(((w.alloc o).alloc o2).drewN 1).heap.size=w.heap.size+1+1:=by
   show((w.alloc o).alloc o2).heap.size=_;rw[nX,nX]
  omega
theorem al9:(prog.info? 446).map (λi=>(i.zero,i.size,i.bytes))=some (some (.agg #[.string ⟨#[]⟩,Im 0,.bool false]),3,32):=by kernel_rfl
theorem Td(h:kY w C c)(t:ji)(ta kind:Int)(b:Bool)(hn:c.jy.length<=1000000):
 Calls prog 326 #[Pt C 0,.agg #[.string t,Im ta],Im kind,.bool b] w λen w'=>en=.returned (.tuple #[])/\kY w' C (c.add t kind b)/\Lk w w' 0 0 C:=by
 obtain⟨v,h⟩:=h;obtain⟨a,cap,rfl⟩:=Bc h.row;have hC:=h.lt;have c0:=jK 0 h.jM rfl;obtain⟨i0,hi0,hz0,hz1,hz2⟩:=info_parts al9;have HP:Hid (∀(o o2:Obj)(n:Nat)(w1:jk)(u:jm),(((w.alloc o).alloc o2).drewN n).grownBy w1 (Value.slice a c.jy.length cap).ownBlock->w1.ownsRow (C+1) 446 3 u (c.jy.length+1) (uU c.jy++[.string t,Im kind,.bool b])->(∀k,u.ownBlock=some k->(Value.slice a c.jy.length cap).ownBlock=some k\/(((w.alloc o).alloc o2).drewN n).heap.size<=k)->
  kY (w1.setCell (Ad C 0) u) C (c.add t kind b)/\Lk w (w1.setCell (Ad C 0) u) 0 0 C/\(∃u,w1.cell? (Ad C 0)=some u)/\w1.frozen? (Ad C 0)=false):=by
  intro o o2 n w1 u hg ho hat;have hgw:=((ah w o none).trans (ah _ o2 none)).trans (lK _ n);have h':=h.grow hgw;have e1:uU (c.jy++[⟨t,kind,b⟩])=uU c.jy++[.string t,Im kind,.bool b]:=by simp[uU]
  have ho2:w1.ownsRow (C+1) 446 3 u (c.jy++[(⟨t,kind,b⟩:Kn)]).length (uU (c.jy++[⟨t,kind,b⟩])):=by rw[e1];simpa using ho
  have hb1:=(hg.block C h'.lt (λe=>h'.ne e.symm)).trans h'.jM;refine⟨⟨u,h'.NI hg ho2⟩,?_,⟨.slice a c.jy.length cap,jI hb1⟩,oQ hb1⟩;refine(Lk.grown hgw hC).trans (Lk.named hg h'.lt (jI h'.jM) (λk hk=>by have:=(h'.row.lt k hk).1;omega) (λk hk=>?_));exact hat k hk
 have HO:Hid (∀(o o2:Obj)(n:Nat),(((w.alloc o).alloc o2).drewN n).ownsRow (C+1) 446 3 (.slice a c.jy.length cap) c.jy.length (uU c.jy)):=λo o2 n=>
  (h.grow (((ah w o none).trans (ah _ o2 none)).trans (lK _ n))).row
 have hmx:c.jy.length+1<=maxLen:=by unfold maxLen;omega
 have hby:(c.jy.length+1) * 32<=140737488355328:=by omega
 have n1:¬C=w.heap.size:=by omega
 have n2:C<w.heap.size+1:=by omega
 clear h;generalize c.add t kind b=ca at *;generalize uU c.jy=cells at *;generalize c.jy.length=len at *;go_enter func326,ntmps326;go_wp2_with fail;go_region_law ((refine step_append_lies _ (by rfl) _ _ _ (by rfl) (C+1) 446 i0 _ 3 32 Tryz.underlying186 hi0 hz0 hz1 hz2 (by rfl) (by omega) (.slice a len cap) len cells (by rfl) (HO.out _ _ 1) (Ad (w.heap.size+1) 0) 1 1 [.string t,Im kind,.bool b] (by rfl) (by rfl) (fM (cs:=#[.string t,Im kind,.bool b]) (t:=446) (fr:=(0,0)) (Uf w _ _)) (by simp[Value.oneCell']) (by omega) hmx hby (by simp;omega) (w.heap.size+1+1) (by simp) ?_;intro gg cap1 w3 hown1 hgrow hat hlt;obtain⟨u12,Uu⟩:=(HP.out _ _ 1 _ _ hgrow hown1 (F8 hat)).2.2.1;have Ug:=(HP.out _ _ 1 _ _ hgrow hown1 (F8 hat)).2.2.2));all_goals (go_wp2;go_end0;exact⟨rfl,(HP.out _ _ 1 _ _ hgrow hown1 (F8 hat)).1,(HP.out _ _ 1 _ _ hgrow hown1 (F8 hat)).2.1⟩)
theorem aeo{B n k cap m:Nat}{T:jo}{a:Option Addr}{us:List jm}(h:w.ownsRow B T k (.slice a n cap) n us)(hm:m<=n):w.ownsRow B T k (.slice a m cap) m (us.take (m * k)):=by
 rcases h with⟨h1,⟨h2,h3⟩|⟨g,cap',cur,h2,h3,h4,h5,h6,h7,h8⟩⟩
 .cases h2;have:m=0:=by omega
  subst this;refine⟨by simp,jf ⟨rfl,rfl⟩⟩
 .cases h2;refine⟨?_,je ⟨g,cap,cur,rfl,h3,h4,by omega,h6,h7,?_⟩⟩
  .rw[gI,h1];exact Nat.min_eq_left (gQ k hm)
  .rw[<-h8,List.take_take,Nat.min_eq_left (gQ k hm)]
theorem uO.cut{a:Option Addr}{n cap m:Nat}(h:uO w C (.slice a n cap) c)(hm:m<=n):uO (w.setCell (Ad C 0) (.slice a m cap)) C (.slice a m cap) (c.cut m):=by
 obtain⟨a',cap',e⟩:=Bc h.row;have hn:n=c.jy.length:=by cases e;rfl
 subst hn;have hr:=aeo h.row hm;rw[amD]at hr;have hl:(c.jy.take m).length=m:=by rw[gI];omega
 refine h.NI (w':=w) (aN _ _) (ns:=c.jy.take m) ?_;rw[hl];exact hr
end
section
variable {w w' w1 w2:jk}{C lo hi b d:Nat}{c:Ck}{u:jm}{e:Ex}{a:Int}{T:jo}
theorem Jg(c:Ck)(x y:Int):(c.fail x y).jy=c.jy:=by unfold Ck.fail;split<;>rfl
theorem wE(c:Ck)(x y z:Int):(c.want x y z).jy=c.jy:=by unfold Ck.want;split;rfl;exact Jg _ _ _
theorem Kr(c:Ck)(t:ji)(y:Int):(c.nG t y).jy=c.jy:=by unfold Ck.nG;split;rfl;exact Jg _ _ _
def Enters(f:FuncId):Prop:=∀args w,(callFunc f args).run prog w=.ok (.enter f args) w
structure nU(e:Ex)(a:Int)(w w':jk)(lo hi:Nat)(u:jm)(b C:Nat)(c:Ck):Prop where
 here:e.here a w' lo hi u
 kind:w'.cell? (Ad b 2)=some (Im (e.does.jW c.jy))
 ck:kY w' C (e.does.look c)
 keep:Lk w w' lo hi C
structure mD(d:Nat)(e:Ex):Prop where
 ok:kV e
 jy:∀c,(e.does.look c).jy=c.jy
 look:∀a w lo hi T b C c,e.here a w lo hi (.iface T (Pt b 0))->hi<=C->kY w C c->c.jy.length+d<=900000->
  ∃f,(∀w,(method 576 T (Pt b 0) "helm/lang.look").run prog w=.ok (f,Pt b 0) w)/\Enters f/\
   Calls prog f #[Pt b 0,Pt C 0] w λen w'=>en=.returned (.tuple #[])/\nU e a w w' lo hi (.iface T (Pt b 0)) b C c
theorem mD.use(h:mD d e)(hh:e.here a w lo hi u)(hC:hi<=C)(hc:kY w C c)(hn:c.jy.length+d<=900000):
 ∃T b f,u=.iface T (Pt b 0)/\lU T/\lo<=b/\b<hi/\(∀w,(method 576 T (Pt b 0) "helm/lang.look").run prog w=.ok (f,Pt b 0) w)/\Enters f/\
  Calls prog f #[Pt b 0,Pt C 0] w λen w'=>en=.returned (.tuple #[])/\nU e a w w' lo hi u b C c:=by
 obtain⟨T,b,rfl,hT,h1,h2,_⟩:=h.ok.head _ _ _ _ _ hh;obtain⟨f,hf,hfe,hcl⟩:=h.look _ _ _ _ _ _ _ _ hh hC hc hn;exact⟨T,b,f,rfl,hT,h1,h2,hf,hfe,hcl⟩
theorem nU.want(h:nU e a w w' lo hi (.iface T (Pt b 0)) b C c)(he:kV e)(is:Int)(n:Nat):
 Calls prog 317 #[Pt C 0,.iface T (Pt b 0),Im is] (w'.drewN n) λen w2=>en=.returned (.tuple #[])/\kY w2 C ((e.does.look c).want (e.does.jW c.jy) a is)/\Lk w' w2 0 0 C:=by
 obtain⟨T',b',hv,hT,_,_,h0,_⟩:=he.head _ _ _ _ _ h.here;cases hv;refine(aaB (h.ck.grow (lK w' n)) hT ((lK w' n).cell h.kind (by simp)) ((lK w' n).cell h0 (by simp)) is).mono ?_;rintro en w2 ⟨h1,h2,h3⟩;exact⟨h1,h2,(Lk.grown (lK w' n) h.ck.lt).trans h3⟩
theorem PY{T' T:jo}{at' jw kind:Int}{mk:List jm->List jm}{dn:Dn}(f:FuncId)(hok:kV (rE T' T at' jw kind y9 mk dn))(hk:∀ns,dn.jW ns=kind)(hl:∀c,dn.look c=c)
 (hm:∀b w,(method 576 T' (Pt b 0) "helm/lang.look").run prog w=.ok (f,Pt b 0) w)
 (hfe:Enters f)(hf:∀b C w,Calls prog f #[Pt b 0,Pt C 0] w λen w'=>en=.returned (.tuple #[])/\w'=w):mD d (rE T' T at' jw kind y9 mk dn):=by
 refine⟨hok,λc=>congrArg Ck.jy (hl c),?_⟩;rintro a w lo hi T1 b C c ⟨b',us,hv,h1,h2,h3,h4⟩ hC hc hn;cases hv;refine⟨f,hm b,hfe,(hf b C w).mono ?_⟩;rintro en w' ⟨rfl,rfl⟩;refine⟨rfl,⟨b,us,rfl,h1,h2,h3,h4⟩,?_,?_,Lk.refl _ _ _ _⟩
 .show w'.cell? (Ad b 2)=some (Im (dn.jW c.jy));rw[hk];exact jI h4
 .show kY w' C (dn.look c);rw[hl];exact hc
theorem aoz(b C:Nat)(w:jk):Calls prog 390 #[Pt b 0,Pt C 0] w λe w'=>e=.returned (.tuple #[])/\w'=w:=by
 go_enter func390,ntmps390;go_wp2_with fail;go_end0;exact⟨rfl,rfl⟩
theorem agK(b C:Nat)(w:jk):Calls prog 381 #[Pt b 0,Pt C 0] w λe w'=>e=.returned (.tuple #[])/\w'=w:=by
 go_enter func381,ntmps381;go_wp2_with fail;go_end0;exact⟨rfl,rfl⟩
theorem aqP(b C:Nat)(w:jk):Calls prog 375 #[Pt b 0,Pt C 0] w λe w'=>e=.returned (.tuple #[])/\w'=w:=by
 go_enter func375,ntmps375;go_wp2_with fail;go_end0;exact⟨rfl,rfl⟩
theorem aoy(d:Nat)(a n:Int):mD d (kN a n):=PY 390 (Vt a n) (λ_=>rfl) (λ_=>rfl) (λb w=>by kernel_rfl) (λargs w=>by kernel_rfl) aoz
theorem atw(d:Nat)(a:Int)(b:Bool):mD d (zY a 1 2 b):=PY 381 (Rn a 2 b) (λ_=>rfl) (λ_=>rfl) (λb w=>by kernel_rfl) (λargs w=>by kernel_rfl) agK
theorem adN(d:Nat):mD d rF:=PY 381 F7 (λ_=>rfl) (λ_=>rfl) (λb w=>by kernel_rfl) (λargs w=>by kernel_rfl) agK
theorem aqO(d:Nat)(a i:Int):mD d (wQ a i):=PY 375 (VZ a i) (λ_=>rfl) (λ_=>rfl) (λb w=>by kernel_rfl) (λargs w=>by kernel_rfl) aqP
theorem atW{e:Ex}(h:mD d e)(a:Int):mD d (e.widen a):=
 ⟨ag5 h.ok a,h.jy,λa' w lo hi T b C c hh hC hc hn=>by
   obtain⟨f,hf,hfe,hcl⟩:=h.look a' w lo hi T b C c hh hC hc hn;exact⟨f,hf,hfe,hcl.mono λen w' ⟨h1,h2⟩=>⟨h1,⟨h2.here,h2.kind,h2.ck,h2.keep⟩⟩⟩⟩
theorem atP(d:Nat)(a0:Int)(t:Wd):mD d (oZ a0 t):=by
 obtain⟨tt,ta⟩:=t;refine⟨YJ a0 _,λc=>?_,?_⟩
 .show(if (lJ c.jy tt).kind=0 then c.fail 2 ta else c).jy=c.jy;split
  .exact Jg _ _ _
  .rfl
 rintro a w lo hi T b C c ⟨k,b',us,hv,h1,h2,h3,h4⟩ hC hc hn;cases hv;have h4:=h4;have zM:=hc.lt;refine⟨378,λw=>by kernel_rfl,λargs w=>by kernel_rfl,?_⟩;have c2:=jK 2 h4 rfl;have c3:=jK 3 h4 rfl;have HF:Hid (Calls prog 315 #[Pt C 0,.string tt] w λen w'=>en=.returned (.agg #[.string (lJ c.jy tt).name,Im (lJ c.jy tt).kind,.bool (lJ c.jy tt).isVar])/\w.grownBy w' none):=Tf hc tt (by omega);have HH:Hid (∀w',w.grownBy w' none->∀x,nU (oZ a0 ⟨tt,ta⟩) a w (w'.setCell (Ad b 2) (Im (lJ c.jy tt).kind)) lo hi (.iface 389 (Pt b 0)) b C x->True):=λ_ _ _ _=>trivial;have HB:=jA (λw' (hg:w.grownBy w' none)=>(hg.block b (by omega) (by simp)).trans h4);have HC:Hid (kY w C c/\b<C/\lo<=b/\b<hi):=⟨hc,by omega,h1,h2⟩;clear h4 hc HH;have nT:Hid (∀w1 w2,w.grownBy w1 none->kY w2 C (if (lJ c.jy tt).kind=0 then c.fail 2 ta else c)->Lk (w1.setCell (Ad b 2) (Im (lJ c.jy tt).kind)) w2 0 0 C->nU (oZ a0 ⟨tt,ta⟩) a w w2 lo hi (.iface 389 (Pt b 0)) b C c):=λw1 w2 hg hk hl=>by
  obtain⟨q1,q2,q3,q4⟩:=HC.out;have hb1:=HB.out w1 hg;have hb2:(w1.setCell (Ad b 2) (Im (lJ c.jy tt).kind)).heap[b]? =some (.cells #[Im a,Im 1,Im (lJ c.jy tt).kind,.string tt,Im ta] 391):=aK _ _ _ _ _ _ hb1;have hb3:=(hl.keep b q2 (je (bD _))).trans hb2;have hs1:=hg.size;have hlk:Lk w (w1.setCell (Ad b 2) (Im (lJ c.jy tt).kind)) lo hi C:=((Lk.grown hg zM).all lo hi).trans (Lk.tree (nK w1 b 2 _) (by omega) q3 q4 q2);exact⟨⟨(lJ c.jy tt).kind,b,[],rfl,q3,q4,rfl,hb3⟩,jI hb3,hk,hlk.trans (hl.all lo hi)⟩
 have IC:Hid (∀w1,w.grownBy w1 none->kY (w1.setCell (Ad b 2) (Im (lJ c.jy tt).kind)) C c):=λw1 hg=>(HC.out.1.grow hg).below HC.out.2.1 (nK w1 b 2 _);generalize lJ c.jy tt=r at *;obtain⟨rt,rk,rv⟩:=r;simp only at HF nT IC;by_cases hk:rk=0
 .subst hk;have hfk:=TI rt 0 rv;go_enter func378,ntmps378;go_wp2_with fail;refine HF.out.mono ?_;rintro en w1 ⟨rfl,g1⟩;have hb1:=HB.out w1 g1;have e2:=jK 2 hb1 rfl;have e4:=jK 4 hb1 rfl;have fz:=qV hb1;have HG:=jA g1;clear g1 hb1;go_wp2_with fail;refine(Lr (IC.out _ HG.out) 2 ta).mono ?_;rintro en w2 ⟨rfl,p1,p2⟩;have HE:=jA (nT.out w1 w2 HG.out p1 p2);clear p1 p2;go_wp2_with fail;go_end0;exact⟨rfl,HE.out⟩
 .have hfk:=TI rt rk rv;have hb:(rk==0)=false:=by simp[hk]
  go_enter func378,ntmps378;go_wp2_with fail;refine HF.out.mono ?_;rintro en w1 ⟨rfl,g1⟩;have hb1:=HB.out w1 g1;have e2:=jK 2 hb1 rfl;have fz:=qV hb1;have HG:=jA g1;clear g1 hb1;go_wp2_with fail;go_end0;refine⟨rfl,nT.out w1 _ HG.out ?_ (Lk.refl _ _ _ _)⟩;rw[jg hk];exact IC.out w1 HG.out
end
end
section
open Go.RowKit Hx
section
variable {w w' w2 wy:jk}{C:Nat}{c:Co}{v nv u:jm}
def isRow(w:jk)(C g:Nat):Prop:=(∃v,w.cell? (Ad C 0)=some v/\v.ownBlock=some g)\/(∃v,w.cell? (Ad C 1)=some v/\v.ownBlock=some g)
theorem acC(h:w'.heap[C]? =w.heap[C]?)(g:Nat):isRow w' C g↔isRow w C g:=by
 unfold isRow;rw[bQ (a:=(Ad C 0)) h,bQ (a:=(Ad C 1)) h]
structure Gk(w w':jk)(C:Nat):Prop where
 os:w'.os=w.os
 tape:w'.tape=w.tape
 output:w'.output=w.output
 size:w.heap.size<=w'.heap.size
 keep:∀k,k<C->w'.heap[k]? =w.heap[k]?
 pF:∀k,C<k->k<w.heap.size->¬isRow w C k->w'.heap[k]? =w.heap[k]?
 row:∀g,isRow w' C g->isRow w C g\/w.heap.size<=g
theorem Gk.refl(w:jk)(C:Nat):Gk w w C:=⟨rfl,rfl,rfl,aj _,λ_ _=>rfl,λ_ _ _ _=>rfl,λ_ h=>jf h⟩
theorem Gk.trans(h:Gk w w' C)(k:Gk w' w2 C):Gk w w2 C:=by
 have s1:=h.size;have s2:=k.size;refine⟨k.os.trans h.os,k.tape.trans h.tape,k.output.trans h.output,dH h.size k.size,λb b1=>(k.keep b b1).trans (h.keep b b1),λb b1 b2 b3=>(k.pF b b1 (by omega) (λe=>?_)).trans (h.pF b b1 b2 b3),λg hg=>?_⟩
 .rcases h.row b e with e2|e2
  .exact b3 e2
  .omega
 .rcases k.row g hg with e|e
  .exact h.row g e
  .exact je (by omega)
theorem Gk.grown(h:w.grownBy w' none)(hC:C<w.heap.size):Gk w w' C:=
 ⟨h.os,h.tape,h.output,h.size,λb b1=>h.block b (by omega) (by simp),λb _ b2 _=>h.block b b2 (by simp),λg hg=>jf ((acC (h.block C hC (by simp)) g).1 hg)⟩
theorem Gk.free(w:jk)(u:jm)(C:Nat):Gk w (w.setCell (Ad C 2) u) C:=
 ⟨rfl,rfl,rfl,by simp,λb b1=>bC _ _ _ _ (by show b≠C;omega),λb b1 _ _=>bC _ _ _ _ (by show b≠C;omega),λg hg=>jf (by
   unfold isRow at hg⊢
   rwa [bG _ _ _ _ (by simp),bG _ _ _ _ (by simp)]at hg)⟩
theorem Gk.afj(j:Nat)(hj:j=0\/j=1)(h:w.grownBy w' v.ownBlock)(hC:C<w.heap.size)(hv:w.cell? (Ad C j)=some v)(hv2:∀k,v.ownBlock=some k->C<k)(hu:∀k,u.ownBlock=some k->v.ownBlock=some k\/w.heap.size<=k):Gk w (w'.setCell (Ad C j) u) C:=by
 have hb:=h.block C hC (λe=>by have:=hv2 C e.symm;omega);have hr:∀k,v.ownBlock=some k->isRow w C k:=λk hk=>by
  rcases hj with rfl|rfl
  .exact jf ⟨v,hv,hk⟩
  .exact je ⟨v,hv,hk⟩
 refine⟨h.os,h.tape,h.output,by simpa using h.size,λb b1=>?_,λb b1 b2 b3=>?_,λg hg=>?_⟩
 .rw[bC _ _ _ _ (by show b≠C;omega)];exact h.block b (by omega) (λe=>by have:=hv2 b e.symm;omega)
 .rw[bC _ _ _ _ (by show b≠C;omega)];exact h.block b b2 (λe=>b3 (hr b e.symm))
 .have hold:∀i,i≠j->(w'.setCell (Ad C j) u).cell? (Ad C i)=w.cell? (Ad C i):=λi hi=>by
   rw[bG _ _ _ _ (by intro e;cases e;exact hi rfl)];exact bQ hb
  have hnew:(w'.setCell (Ad C j) u).cell? (Ad C j)=some u:=dB _ _ _ ((bQ hb).trans hv);have abX:∀x,(w'.setCell (Ad C j) u).cell? (Ad C j)=some x->x.ownBlock=some g->isRow w C g\/w.heap.size<=g:=λx e1 e2=>by
   rw[hnew]at e1;cases e1;exact(hu g e2).imp (hr g) id
  rcases hj with rfl|rfl
  .rcases hg with⟨x,e1,e2⟩|⟨x,e1,e2⟩
   .exact abX x e1 e2
   .rw[hold 1 (by decide)]at e1;exact jf (je ⟨x,e1,e2⟩)
  .rcases hg with⟨x,e1,e2⟩|⟨x,e1,e2⟩
   .rw[hold 0 (by decide)]at e1;exact jf (jf ⟨x,e1,e2⟩)
   .exact abX x e1 e2
theorem Gk.cell(h:Gk w w' C){b j:Nat}(hb:b<C):w'.cell? (Ad b j)=w.cell? (Ad b j):=bQ (h.keep b hb)
theorem Hx.Lawful.gk{E:sV}(hE:Lawful E){l m:Nat}(h:E w l m u)(k:Gk w w' C)(hm:m<=C):E w' l m u:=
 hE.loc _ _ _ _ _ h λb _ b2=>k.keep b (by omega)
def vU(ns:List (ji×Int)):List jm:=ns.flatMap λk=>[.string k.1,Im k.2]
theorem adL:∀(ns:List (ji×Int))(i:Nat)(k:ji×Int),ns[i]? =some k->(vU ns)[i * 2]? =some (.string k.1)/\(vU ns)[i * 2+1]? =some (Im k.2)
 |[],i,k,h=>by simp at h
 |k0::ns,0,k,h=>by
  simp only[dw,bJ]at h;subst h;exact⟨rfl,rfl⟩
 |k0::ns,i+1,k,h=>by
  have ih:=adL ns i k (by simpa using h);have e:∀j,(vU (k0::ns))[j+2]? =(vU ns)[j]? :=λj=>by simp[vU]
  have e1:(i+1) * 2=i * 2+2:=by omega
  rw[e1];exact⟨(e _).trans ih.1,(e (i * 2+1)).trans ih.2⟩
theorem aos(ns:List (ji×Int))(n:Nat):(vU ns).take (n * 2)=vU (ns.take n):=by
 induction ns generalizing n with
 |nil=>simp[vU]
 |cons k ns ih=>
  cases n with
  |zero=>simp[vU]
  |succ n=>
   have:=ih n;have e:(n+1) * 2=n * 2+1+1:=by omega
   rw[e];simp only[vU,c8,bZ,dP,aC]at this⊢;rw[this]
structure pI(w:jk)(C:Nat)(v nv:jm)(c:Co):Prop where
 jM:w.heap[C]? =some (.cells #[v,nv,Im c.free] 197)
 code:w.ownsRow (C+1) 5 1 v c.code.length (uF c.code)
 jy:w.ownsRow (C+1) 448 2 nv c.jy.length (vU c.jy)
 ne:∀g,v.ownBlock=some g->nv.ownBlock≠some g
def kD(w:jk)(C:Nat)(c:Co):Prop:=∃v nv,pI w C v nv c
theorem pI.lt(h:pI w C v nv c):C<w.heap.size:=lY h.jM
theorem kD.lt(h:kD w C c):C<w.heap.size:=by obtain⟨_,_,h⟩:=h;exact h.lt
theorem pI.Gp(h:pI w C v nv c)(k:Nat)(hk:v.ownBlock=some k):C<k/\k<w.heap.size:=by have:=h.code.lt k hk;omega
theorem pI.H7(h:pI w C v nv c)(k:Nat)(hk:nv.ownBlock=some k):C<k/\k<w.heap.size:=by have:=h.jy.lt k hk;omega
theorem pI.apart(h:pI w C v nv c):nv.ownBlock=none\/nv.ownBlock≠v.ownBlock:=by
 cases hn:nv.ownBlock with
 |none=>exact jf rfl
 |some g=>exact je (λe=>h.ne g e.symm hn)
theorem pI.ah8(h:pI w C v nv c):v.ownBlock=none\/v.ownBlock≠nv.ownBlock:=by
 cases hn:v.ownBlock with
 |none=>exact jf rfl
 |some g=>exact je (λe=>h.ne g hn e.symm)
theorem pI.grow(h:pI w C v nv c)(hg:w.grownBy w' none):pI w' C v nv c:=
 ⟨(hg.block C h.lt (by simp)).trans h.jM,h.code.kept hg (by cases v.ownBlock<;>simp),h.jy.kept hg (by cases nv.ownBlock<;>simp),h.ne⟩
theorem kD.grow(h:kD w C c)(hg:w.grownBy w' none):kD w' C c:=by obtain⟨v,nv,h⟩:=h;exact⟨v,nv,h.grow hg⟩
theorem pI.jX(h:pI w C v nv c)(x:Int):pI (w.setCell (Ad C 2) (Im x)) C v nv (c.jX x):=by
 refine⟨aK _ _ _ _ _ _ h.jM,h.code.kept (nK w C 2 _) (je λe=>?_),h.jy.kept (nK w C 2 _) (je λe=>?_),h.ne⟩
 .have:=h.Gp C e;omega
 .have:=h.H7 C e;omega
theorem pI.afH(h:pI w C v nv c){bs:List Int}(hg:w.grownBy w' v.ownBlock)(hr:w'.ownsRow (C+1) 5 1 u bs.length (uF bs))(hu:∀k,u.ownBlock=some k->v.ownBlock=some k\/w.heap.size<=k):pI (w'.setCell (Ad C 0) u) C u nv ⟨bs,c.jy,c.free⟩:=by
 have hb:=(hg.block C h.lt (λe=>by have:=h.Gp C e.symm;omega)).trans h.jM;have hn:=h.jy.kept hg h.apart;refine⟨aK _ _ _ _ _ _ hb,hr.kept (nK w' C 0 u) (je λe=>?_),hn.kept (nK w' C 0 u) (je λe=>?_),λg e1 e2=>?_⟩
 .have:=(hr.lt C e).1;omega
 .have:=h.H7 C e;omega
 .rcases hu g e1 with e|e
  .exact h.ne g e e2
  .have:=h.H7 g e2;omega
theorem pI.NI(h:pI w C v nv c){ns:List (ji×Int)}(hg:w.grownBy w' nv.ownBlock)(hr:w'.ownsRow (C+1) 448 2 u ns.length (vU ns))(hu:∀k,u.ownBlock=some k->nv.ownBlock=some k\/w.heap.size<=k):pI (w'.setCell (Ad C 1) u) C v u ⟨c.code,ns,c.free⟩:=by
 have hb:=(hg.block C h.lt (λe=>by have:=h.H7 C e.symm;omega)).trans h.jM;have hc:=h.code.kept hg h.ah8;refine⟨aK _ _ _ _ _ _ hb,hc.kept (nK w' C 1 u) (je λe=>?_),hr.kept (nK w' C 1 u) (je λe=>?_),λg e1 e2=>?_⟩
 .have:=h.Gp C e;omega
 .have:=(hr.lt C e).1;omega
 .rcases hu g e2 with e|e
  .exact h.ne g e1 e
  .have:=h.Gp g e1;omega
theorem pI.abt(h:pI w C v nv c)(hg:w.grownBy w' v.ownBlock)(hu:∀k,u.ownBlock=some k->v.ownBlock=some k\/w.heap.size<=k):Gk w (w'.setCell (Ad C 0) u) C:=
 Gk.afj 0 (jf rfl) hg h.lt (jI h.jM) (λk hk=>(h.Gp k hk).1) hu
theorem pI.abu(h:pI w C v nv c)(hg:w.grownBy w' nv.ownBlock)(hu:∀k,u.ownBlock=some k->nv.ownBlock=some k\/w.heap.size<=k):Gk w (w'.setCell (Ad C 1) u) C:=
 Gk.afj 1 (je rfl) hg h.lt (jI h.jM) (λk hk=>(h.H7 k hk).1) hu
theorem pI.cut{a:Option Addr}{n cap m:Nat}(h:pI w C v (.slice a n cap) c)(hm:m<=n):pI (w.setCell (Ad C 1) (.slice a m cap)) C v (.slice a m cap) (c.cut m)/\Gk w (w.setCell (Ad C 1) (.slice a m cap)) C:=by
 obtain⟨a',cap',e⟩:=Bc h.jy;have hn:n=c.jy.length:=by cases e;rfl
 subst hn;have hr:=aeo h.jy hm;rw[aos]at hr;have hl:(c.jy.take m).length=m:=by rw[gI];omega
 have hk:∀k,(Value.slice a m cap).ownBlock=some k->(Value.slice a c.jy.length cap).ownBlock=some k\/w.heap.size<=k:=λk hk=>jf (by cases a with|none=>cases hk|some ad=>exact hk);refine⟨h.NI (w':=w) (aN _ _) (ns:=c.jy.take m) ?_ hk,h.abu (aN _ _) hk⟩;rw[hl];exact hr
structure DU(w:jk)(C k:Nat)(o:Obj):Prop where
 at':w.heap[k]? =some o
 gt:C<k
 row:¬isRow w C k
theorem DU.gk{k:Nat}{o:Obj}(h:DU w C k o)(hl:Gk w w' C):DU w' C k o:=
 ⟨(hl.pF k h.gt (lY h.at') h.row).trans h.at',h.gt,λe=>by
   rcases hl.row k e with e2|e2
   .exact h.row e2
   .have:=lY h.at';omega⟩
theorem pI.rows(h:pI w C v nv c)(g:Nat)(hg:isRow w C g):v.ownBlock=some g\/nv.ownBlock=some g:=by
 have e0:=jK 0 h.jM rfl;have e1:=jK 1 h.jM rfl;rcases hg with⟨x,h1,h2⟩|⟨x,h1,h2⟩
 .rw[e0]at h1;cases h1;exact jf h2
 .rw[e1]at h1;cases h1;exact je h2
theorem DU.new(hc:kD w C c)(o:Obj):DU (w.alloc o) C w.heap.size o:=by
 have hC:=hc.lt;refine⟨aY w o,hC,λe=>?_⟩;have e:=(acC (fP w o C hC) _).1 e;obtain⟨v,nv,h⟩:=hc;rcases h.rows _ e with e|e
 .have:=h.Gp _ e;omega
 .have:=h.H7 _ e;omega
theorem aaQ:∀(f r:Nat),(qE f r).length<=f+1
 |0,_=>by simp[qE]
 |f+1,r=>by
  unfold qE;split
  .have:=aaQ f (r/128);simp only[aF];omega
  .simp
theorem aov(n:Int):(pV n).length<=10:=aaQ 9 _
theorem adV:∀ns:List Int,(ns.flatMap pV).length<=10 * ns.length
 |[]=>by simp
 |n::ns=>by
  have:=adV ns;have:=aov n;simp only[c8,aA,aF];omega
theorem oO(c:Co)(o:Int)(ns:List Int):(c.lay o ns).code.length<=c.code.length+1+10 * ns.length:=by
 have:=adV ns;simp only[Co.lay,aA,aF];omega
end
end
end Go.Proofs.YthllhabjfchgiaaGreatDoor
