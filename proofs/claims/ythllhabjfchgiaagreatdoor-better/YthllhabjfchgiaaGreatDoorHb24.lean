import Derived.Test.YthllhabjfchgiaaGreatDoorHb23
set_option maxRecDepth 100000
set_option maxHeartbeats 8000000
set_option linter.unusedSimpArgs false
namespace Go.Proofs.YthllhabjfchgiaaGreatDoor
open _root_.Go.Proofs.Tryz
section
open Go.RowKit Hx
section
structure qY(N:Nat)(Q:Ex->Prop)(x:Sx):Prop where
 of:x.of=3\/x.of=4
 all:∀b∈x.jF,Q b.2
 len:x.jF.length<=N
 jy:0<=x.jy/\x.jy<=1000001
 sum:x.jy<=1000000->1+(x.jF.map λb=>1+b.2.jy).sum<=x.jy
theorem Gv{a b:Int}(hb:0<=b)(h:lg [a,b]<=1000000):lg [a,b]=a+b:=by
 unfold lg at h⊢;simp only[bP,eF]at h⊢;omega
theorem WW{a:Int}(h:lg [a]<=1000000):lg [a]=a:=by
 unfold lg at h⊢;simp only[bP,eF]at h⊢;omega
theorem NH{x:Sx}{c:Int}(hc:0<=c)(h:x.round c<=1000000):1+c<=x.round c:=by
 unfold Hx.Sx.round at h⊢;rw[WW h];have h2:=WW h;rw[h2]at h;have h3:lg [1,c]<=1000000:=by split at h<;>omega
 have h4:=Gv (a:=1) (b:=c) hc h3;rw[h4];split<;>omega
theorem qY.ahp{x:Sx}{b:Wd×Ex}(hx:0<=x.jy)(hb:0<=b.2.jy)(h:x.jy<=1000000->1+(x.jF.map λb=>1+b.2.jy).sum<=x.jy)(hr:0<=x.round b.2.jy):(x.add b).jy<=1000000->1+((x.add b).jF.map λb=>1+b.2.jy).sum<=(x.add b).jy:=by
 unfold Hx.Sx.add;simp only;intro hc;have h1:=Gv hr hc;rw[h1]at hc⊢;have h2:=NH (x:=x) hb (by omega);have h3:=h (by omega);simp only[dF,dL,iP,List.sum_append,gZ,List.sum_nil];omega
structure Ci(N:Nat)(Q0 Q:Ex->Prop):Prop where
 jy:∀e,Q0 e->0<=e.jy/\e.jy<=1000001
 number:∀a n,Q (BN a n)
 oI:∀a b,Q (zO a 1 2 b)
 none:Q qR
 register:∀a i,Q (Dv a i)
 use:∀a d,Q (y8 a d)
 widen:∀e a,Q0 e->Q (e.widen a)
 isNone:∀a e,Q0 e->Q (yV a e)
 minus:∀a sign e,sign.data.toList=[45]->Q e->Q (tV a 1 sign e)
 not:∀a sign e,sign.data.toList=[33]->Q e->Q (tV a 2 sign e)
 two:∀a sign l r,Q l->Q r->Q (o7 a (ni sign.data.toList).2 sign l r)
 property:∀a e (d:Wd),Q e->Q (vS a (oW d.text.data.toList).2 (oW d.text.data.toList).1 e d)
 Qw:∀a l r,Q l->Q0 r->Q (xJ a l r)
 Lc:∀k what x,qY N Q0 x->Q (xW k what x)
 Gf:∀k what x b,qY N Q0 x->Q0 b.2->Q (vK k what x b)
section
variable {s:jm}{ex:Ps->Ex×Ps}{Q0 Q:Ex->Prop}{N:Nat}
theorem Dk{p:Ps}{t:List UInt8}(h:p.is t=true):p.k.text.data.toList=t:=by simpa [Ps.is]using h
theorem afa(hq:∀e,Q0 e->0<=e.jy/\e.jy<=1000001)(h0:∀p,Q0 (ex p).1):∀(n:Nat)(x:Sx)(p:Ps),x.jF.length+n<=N->qY N Q0 x->qY N Q0 (qM s ex n x p).1.1
 |0,_,_,_,hx=>hx
 |n+1,x,p,hn,hx=>by
  unfold qM;split
  .split
   .have hl:(x.jF++[(pY s ex ((p.next s).next s)).1]).length+n<=N:=by simp only[aA,aF,bg];omega
    refine afa hq h0 n _ _ hl ⟨hx.1,λb hb=>?_,dH (Nat.le_add_right _ _) hl,xQ _ (by have:=hx.jy;have:=uf (x:=x) (hq _ (h0 (((p.next s).next s).jW s [40]|>.name s|>.2|>.expect s [58])));simp;exact⟨by omega,by first|omega|exact this⟩),qY.ahp hx.jy.1 (hq _ (h0 _)).1 hx.sum (uf (hq _ (h0 _))).1⟩;rcases List.mem_append.1 hb with hb|hb
    .exact hx.2 b hb
    .rw[cO.1 hb];exact h0 _
   .exact hx
  .exact hx
theorem aff(hq:∀e,Q0 e->0<=e.jy/\e.jy<=1000001)(h0:∀p,Q0 (ex p).1)(n:Nat)(hn:n<=N)(p:Ps):qY N Q0 (mZ s ex n p).1.1:=by
 unfold mZ;split
 .rename_i of hof;exact afa hq h0 _ _ _ (by simpa using hn) ⟨Q9 hof,λb hb=>(by cases hb),bD _,by simp,by simp⟩
 .exact⟨jh rfl,λb hb=>(by cases hb),bD _,by simp,by simp⟩
theorem apa(hc:Ci N Q0 Q)(h0:∀p,Q0 (ex p).1)(n:Nat)(hn:n<=N)(p:Ps):Q (yB s ex n p).1:=by
 have hS:=aff (s:=s) hc.jy h0 n hn p;unfold yB;split
 .unfold zL;repeat' split
  .exact hc.Lc _ _ _ hS
  .exact hc.Lc _ _ _ hS
  .exact hc.Gf _ _ _ _ hS (h0 _)
  .exact hc.Gf _ _ _ _ hS (h0 _)
  .exact hc.Gf _ _ _ _ hS (h0 _)
  .exact hc.none
 .exact hc.none
theorem ZC(hc:Ci N Q0 Q)(h0:∀p,Q0 (ex p).1)(n:Nat)(hn:n<=N)(p:Ps):Q (rX s ex n p).1:=by
 unfold rX;repeat' split
 .exact hc.number _ _
 .exact hc.register _ _
 .exact hc.use _ _
 .exact hc.oI _ _
 .exact hc.widen _ _ (h0 _)
 .exact hc.isNone _ _ (h0 _)
 .exact apa hc h0 n hn p
 .exact hc.none
theorem Oo(hc:Ci N Q0 Q)(h0:∀p,Q0 (ex p).1)(at':Int):∀(n:Nat)(e:Ex)(p:Ps),Q e->Q (qA s ex at' n e p).1
 |0,_,_,he=>he
 |n+1,e,p,he=>by
  unfold qA;split
  .simp only;split
   .exact Oo hc h0 at' n _ _ (hc.Qw _ _ _ he (h0 _))
   .exact Oo hc h0 at' n _ _ (hc.property _ _ _ he)
  .exact he
theorem Vt(hc:Ci N Q0 Q)(h0:∀p,Q0 (ex p).1)(n:Nat)(hn:n<=N):∀(m:Nat)(p:Ps),Q (qQ s ex n m p).1
 |0,p=>Oo hc h0 _ _ _ _ (ZC hc h0 _ hn _)
 |m+1,p=>by
  unfold qQ;split
  .rename_i h1;exact hc.minus _ _ _ (Dk h1) (Vt hc h0 n hn m _)
  split
  .rename_i h1;exact hc.not _ _ _ (Dk h1) (Vt hc h0 n hn m _)
  .exact Oo hc h0 _ _ _ _ (ZC hc h0 _ hn _)
theorem adS(hc:Ci N Q0 Q){lower:Ps->Ex×Ps}(hl:∀p,Q (lower p).1)(of at':Int):∀(n:Nat)(e:Ex)(p:Ps),Q e->Q (sF s lower of at' n e p).1
 |0,_,_,he=>he
 |n+1,e,p,he=>by
  unfold sF;split
  .simp only;split
   .exact hc.two _ _ _ _ he (hl _)
   .exact adS hc hl of at' n _ _ (hc.two _ _ _ _ he (hl _))
  .exact he
theorem VR(hc:Ci N Q0 Q)(h0:∀p,Q0 (ex p).1)(n:Nat)(hn:n<=N):∀(l:Nat)(p:Ps),Q (yx s ex n l p).1
 |0,p=>Vt hc h0 n hn n p
 |l+1,p=>adS hc (VR hc h0 n hn l) _ _ _ _ _ (VR hc h0 n hn l p)
end
theorem OT(s:jm)(Q:Nat->Ex->Prop)(hn:Q 0 qR)(hc:∀d,Ci (s.size+1) (Q d) (Q (d+1))):∀(d:Nat)(p:Ps),Q d (vF s d p).1
 |0,_=>hn
 |d+1,p=>VR (hc d) (OT s Q hn hc d) _ (aj _) _ p
structure KW(N:Nat)(G5 QX:Ex->Prop)(L0:List jK->Prop)(QS:jK->Prop):Prop where
 jy:∀e,G5 e->0<=e.jy/\e.jy<=1000001
 Qm:∀a b e,QX e->QS (uD a b e)
 Ri:∀b e,QX e->QS (sQ b e)
 Ru:∀a i e,QX e->QS (yE a i e)
 QJ:∀a e f,G5 e->G5 f->QS (vU a e f)
 returning:∀a,QS (yC a)
 choice:∀a e y n,QX e->L0 y->L0 n->QS (rY a e y n)
 loop:∀a b x l,qY N G5 x->L0 l->QS (tK a b x l)
theorem aqT{s:jm}{ex ex':Ps->Ex×Ps}{jL:Ps->List jK×Ps}{G5 QX:Ex->Prop}{L0:List jK->Prop}{QS:jK->Prop}{N:Nat}(hc:KW N G5 QX L0 QS)(h0:∀p,G5 (ex' p).1)(h1:∀p,QX (ex p).1)(hb:∀p,L0 (jL p).1)(hnil:L0 [])(n:Nat)(hn:n<=N)(p:Ps):
 ∀e,(uJ s ex jL ex' n p).1=some e->QS e:=by
 intro e he;unfold uJ at he;split at he
 .cases he;exact hc.Ri _ _ (h1 _)
 split at he
 .cases he;exact hc.Ru _ _ _ (h1 _)
 split at he
 .cases he;exact hc.Qm _ _ _ (h1 _)
 split at he
 .cases he;exact hc.QJ _ _ _ (h0 _) (h0 _)
 split at he
 .cases he;exact hc.returning _
 split at he
 .cases he;unfold yP;simp only;split
  .exact hc.choice _ _ _ _ (h1 _) (hb _) (hb _)
  .exact hc.choice _ _ _ _ (h1 _) (hb _) hnil
 split at he
 .cases he;exact hc.loop _ _ _ _ (aff hc.jy h0 _ hn _) (hb _)
 .cases he
theorem afw{st:Ps->Option jK×Ps}{QS:jK->Prop}(h:∀p e,(st p).1=some e->QS e):∀(n:Nat)(l:List jK)(p:Ps),(∀e∈l,QS e)->∀e∈(pR st n l p).1,QS e
 |0,_,_,hl=>hl
 |n+1,l,p,hl=>by
  unfold pR;split
  .rename_i e q he;refine afw h n _ _ (λx hx=>?_);rcases List.mem_append.1 hx with hx|hx
   .exact hl x hx
   .rw[cO.1 hx];exact h p e (by rw[he])
  .exact hl
theorem afA(st:Ps->Option jK×Ps):∀(n:Nat)(l:List jK)(p:Ps),(pR st n l p).1.length<=l.length+n
 |0,l,_=>aj _
 |n+1,l,p=>by
  unfold pR;split
  .rename_i e q _;have:=afA st n (l++[e]) q;simp only[aA,aF,bg]at this;omega
  .simp only;omega
theorem Rq(s:jm)(QX:Nat->Ex->Prop)(QS:Nat->jK->Prop)(L:Nat->List jK->Prop)(hx:∀d p,QX d (vF s d p).1)(hc:∀d,KW (s.size+1) (QX d) (QX (d+1)) (L d) (QS (d+1)))(hnil:∀d,L d [])(hl:∀d l,l.length<=s.size+1->(∀e∈l,QS (d+1) e)->L (d+1) l):∀(d:Nat)(p:Ps),L d (oH s d p).1
 |0,_=>hnil 0
 |d+1,p=>by
  have h0:=Rq s QX QS L hx hc hnil hl d;have hb:∀p,L d (xZ s (oH s d) p).1:=λp=>by unfold xZ;exact h0 _
  have hx0:=hx d;have hx1:=hx (d+1);have hcd:=hc d;have hnd:=hnil d;show L (d+1) (pR (uJ s (vF s (d+1)) (xZ s (oH s d)) (vF s d) (s.size+1)) (s.size+1) [] p).1;generalize vF s (d+1)=ex1 at *;generalize vF s d=ex0 at *;generalize xZ s (oH s d)=bk at *;have h1:∀p e,(uJ s ex1 bk ex0 (s.size+1) p).1=some e->QS (d+1) e:=λp e he=>aqT hcd hx0 hx1 hb hnd (s.size+1) (aj _) p e he;have h2:=afA (uJ s ex1 bk ex0 (s.size+1)) (s.size+1) [] p;have h3:=afw h1 (s.size+1) [] p (by simp);exact hl d _ (by simpa using h2) h3
end
end
section
open Go.RowKit Hx
attribute [local go_sem ↓] Go.wp_at_zero Go.wp_at_succ
attribute [local go_sem] kL
section
variable {w w' w2 wy:jo}{C lo hi lo' hi':Nat}{c:Ck}{v:jr}
def rowOf(w:jo)(C:Nat):Option Nat:=match w.cell? (Ad C 0)with|some v=>v.ownBlock|none=>none
theorem Wy(h:w'.heap[C]? =w.heap[C]?):rowOf w' C=rowOf w C:=by
 unfold rowOf;rw[bQ (a:=(Ad C 0)) h]
structure Lk(w w':jo)(lo hi C:Nat):Prop where
 os:w'.os=w.os
 tape:w'.tape=w.tape
 output:w'.output=w.output
 size:w.heap.size<=w'.heap.size
 keep:∀k,k<C->k<lo\/hi<=k->w'.heap[k]? =w.heap[k]?
 oV:∀k,C<k->k<w.heap.size->some k≠rowOf w C->w'.heap[k]? =w.heap[k]?
 row:∀g,rowOf w' C=some g->rowOf w C=some g\/w.heap.size<=g
theorem Lk.refl(w:jo)(lo hi C:Nat):Lk w w lo hi C:=⟨rfl,rfl,rfl,aj _,λ_ _ _=>rfl,λ_ _ _ _=>rfl,λ_ h=>ji h⟩
theorem Lk.trans(h:Lk w w' lo hi C)(k:Lk w' w2 lo hi C):Lk w w2 lo hi C:=by
 have s1:=h.size;have s2:=k.size;refine⟨k.os.trans h.os,k.tape.trans h.tape,k.output.trans h.output,dH h.size k.size,λb b1 b2=>(k.keep b b1 b2).trans (h.keep b b1 b2),λb b1 b2 b3=>(k.oV b b1 (by omega) (λe=>?_)).trans (h.oV b b1 b2 b3),λg hg=>?_⟩
 .rcases h.row b e.symm with e2|e2
  .exact b3 e2.symm
  .omega
 .rcases k.row g hg with e|e
  .exact h.row g e
  .exact jh (by omega)
theorem Lk.wide(h:Lk w w' lo hi C)(h1:lo'<=lo)(h2:hi<=hi'):Lk w w' lo' hi' C:=
 ⟨h.os,h.tape,h.output,h.size,λb b1 b2=>h.keep b b1 (by omega),h.oV,h.row⟩
theorem Lk.all(h:Lk w w' 0 0 C)(lo hi:Nat):Lk w w' lo hi C:=⟨h.os,h.tape,h.output,h.size,λb b1 _=>h.keep b b1 (jh (bD _)),h.oV,h.row⟩
theorem Lk.grown(h:w.grownBy w' none)(hC:C<w.heap.size):Lk w w' 0 0 C:=
 ⟨h.os,h.tape,h.output,h.size,λb b1 _=>h.block b (by omega) (by simp),λb _ b2 _=>h.block b b2 (by simp),λg hg=>ji (by rw[<-Wy (h.block C hC (by simp))];exact hg)⟩
theorem Lk.tree{b:Nat}(h:w.grownBy w' (some b))(hC:C<w.heap.size)(h1:lo<=b)(h2:b<hi)(h3:b<C):Lk w w' lo hi C:=
 ⟨h.os,h.tape,h.output,h.size,λk b1 b2=>h.block k (by omega) (by simp;omega),λk k1 k2 _=>h.block k k2 (by simp;omega),λg hg=>ji (by rw[<-Wy (h.block C hC (by simp;omega))];exact hg)⟩
theorem Lk.fault(w:jo)(j:Nat)(u:jr)(lo hi C:Nat):Lk w (w.setCell (Ad C (j+1)) u) lo hi C:=
 ⟨rfl,rfl,rfl,by simp,λb b1 _=>bC _ _ _ _ (by show b≠C;omega),λb b1 _ _=>bC _ _ _ _ (by show b≠C;omega),λg hg=>ji (by
   unfold rowOf at hg⊢
   rwa [bG _ _ _ _ (by simp)]at hg)⟩
theorem Lk.named{u v:jr}(h:w.grownBy w' v.ownBlock)(hC:C<w.heap.size)(hv:w.cell? (Ad C 0)=some v)(hv2:∀k,v.ownBlock=some k->C<k)(hu:∀k,u.ownBlock=some k->v.ownBlock=some k\/w.heap.size<=k):Lk w (w'.setCell (Ad C 0) u) 0 0 C:=by
 have hr:rowOf w C=v.ownBlock:=by unfold rowOf;rw[hv]
 have hb:=h.block C hC (λe=>by have:=hv2 C e.symm;omega);have hr2:rowOf (w'.setCell (Ad C 0) u) C=u.ownBlock:=by
  unfold rowOf;rw[dB _ _ _ ((bQ hb).trans hv)]
 refine⟨h.os,h.tape,h.output,by simpa using h.size,λb b1 _=>?_,λb b1 b2 b3=>?_,λg hg=>?_⟩
 .rw[bC _ _ _ _ (by show b≠C;omega)];exact h.block b (by omega) (λe=>by have:=hv2 b e.symm;omega)
 .rw[bC _ _ _ _ (by show b≠C;omega)];exact h.block b b2 (by rw[hr]at b3;exact b3)
 .rw[hr2]at hg;rw[hr];exact hu g hg
theorem Lk.cell(h:Lk w w' lo hi C){b j:Nat}(hb:b<C)(h2:b<lo\/hi<=b):w'.cell? (Ad b j)=w.cell? (Ad b j):=bQ (h.keep b hb h2)
theorem Hx.Lawful.lk{E:sJ}(hE:Lawful E){l m:Nat}{u:jr}(h:E w l m u)(k:Lk w w' lo hi C)(hm:m<=C)(hd:m<=lo\/hi<=l):E w' l m u:=
 hE.loc _ _ _ _ _ h λb b1 b2=>k.keep b (by omega) (by omega)
def uT(ns:List Kn):List jr:=ns.flatMap λk=>[.string k.name,Im k.kind,.bool k.isVar]
def Vb(k:Kn):jr:=.agg #[.string k.name,Im k.kind,.bool k.isVar]
theorem acA:∀(ns:List Kn)(i:Nat)(k:Kn),ns[i]? =some k->(uT ns)[i * 3]? =some (.string k.name)/\(uT ns)[i * 3+1]? =some (Im k.kind)/\(uT ns)[i * 3+2]? =some (.bool k.isVar)
 |[],i,k,h=>by simp at h
 |k0::ns,0,k,h=>by
  simp only[dw,bJ]at h;subst h;exact⟨rfl,rfl,rfl⟩
 |k0::ns,i+1,k,h=>by
  have ih:=acA ns i k (by simpa using h);have e:∀j,(uT (k0::ns))[j+3]? =(uT ns)[j]? :=λj=>by simp[uT]
  have e1:(i+1) * 3=i * 3+3:=by omega
  rw[e1];exact⟨(e _).trans ih.1,(e (i * 3+1)).trans ih.2.1,(e (i * 3+2)).trans ih.2.2⟩
theorem alX(ns:List Kn)(n:Nat):(uT ns).take (n * 3)=uT (ns.take n):=by
 induction ns generalizing n with
 |nil=>simp[uT]
 |cons k ns ih=>
  cases n with
  |zero=>simp[uT]
  |succ n=>
   have:=ih n;have e:(n+1) * 3=n * 3+1+1+1:=by omega
   rw[e];simp only[uT,c8,bZ,dP,aC]at this⊢;rw[this]
structure uK(w:jo)(C:Nat)(v:jr)(c:Ck):Prop where
 jL:w.heap[C]? =some (.cells #[v,Im c.en,Im c.ea] 188)
 row:w.ownsRow (C+1) 446 3 v c.jA.length (uT c.jA)
def kX(w:jo)(C:Nat)(c:Ck):Prop:=∃v,uK w C v c
theorem Aw{B n k:Nat}{T:jv}{us:List jr}(h:w.ownsRow B T k v n us):∃a cap,v=.slice a n cap:=by
 rcases h with⟨_,⟨h2,h3⟩|⟨g,cap,cur,h2,_⟩⟩
 .subst h3;exact⟨_,_,h2⟩
 .exact⟨_,_,h2⟩
theorem ad9{B n k:Nat}{T:jv}{us:List jr}{a:Option Addr}{l cap:Nat}(h:w.ownsRow B T k (.slice a l cap) n us){j:Nat}{u:jr}(hj:us[j]? =some u):
 ∃g,a=some (Ad g 0)/\B<=g/\g<w.heap.size/\∀j u,us[j]? =some u->w.cell? (Ad g j)=some u:=by
 rcases h with⟨h1,⟨h2,h3⟩|⟨g,cap',cur,h2,h3,h4,h5,h6,h7,h8⟩⟩
 .subst h3;have:us=[]:=by simpa using h1
  rw[this]at hj;simp at hj
 .cases h2;refine⟨g,rfl,h3,lN h4,λj u hj=>?_⟩;rw[jH h4];rw[<-h8,iZ]at hj;split at hj
  .simpa using hj
  .cases hj
theorem uK.lt(h:uK w C v c):C<w.heap.size:=lN h.jL
theorem kX.lt(h:kX w C c):C<w.heap.size:=h.elim λ_ h=>h.lt
theorem uK.ne(h:uK w C v c):v.ownBlock≠some C:=λe=>by have:=(h.row.lt C e).1;omega
theorem uK.grow(h:uK w C v c)(hg:w.grownBy w' none):uK w' C v c:=⟨(hg.block C h.lt (by simp)).trans h.jL,h.row.kept hg (by cases v.ownBlock<;>simp)⟩
theorem kX.grow(h:kX w C c)(hg:w.grownBy w' none):kX w' C c:=h.elim λv h=>⟨v,h.grow hg⟩
theorem uK.below(h:uK w C v c){b:Nat}(hb:b<C)(hg:w.grownBy w' (some b)):uK w' C v c:=⟨(hg.block C h.lt (by simp;omega)).trans h.jL,h.row.kept hg (by
 cases hv:v.ownBlock with
 |none=>exact ji rfl
 |some k=>right;have:=(h.row.lt k hv).1;simp;omega)⟩
theorem kX.below(h:kX w C c){b:Nat}(hb:b<C)(hg:w.grownBy w' (some b)):kX w' C c:=h.elim λv h=>⟨v,h.below hb hg⟩
theorem uK.aqf(h:uK w C v c)(e a:Int):uK ((w.setCell (Ad C 1) (Im e)).setCell (Ad C 2) (Im a)) C v ⟨c.jA,e,a⟩:=by
 have h1:(w.setCell (Ad C 1) (Im e)).heap[C]? =some (.cells #[v,Im e,Im c.ea] 188):=aK _ _ _ _ _ _ h.jL;exact⟨aK _ _ _ _ _ _ h1,((h.row.kept (mX w C 1 _) (jh h.ne)).kept (mX _ C 2 _) (jh h.ne))⟩
theorem uK.NK(h:uK w C v c){u:jr}{ns:List Kn}(hg:w.grownBy w' v.ownBlock)(hr:w'.ownsRow (C+1) 446 3 u ns.length (uT ns)):uK (w'.setCell (Ad C 0) u) C u ⟨ns,c.en,c.ea⟩:=by
 have hu:u.ownBlock≠some C:=λe=>by have:=(hr.lt C e).1;omega
 have h1:=(hg.block C h.lt (λe=>h.ne e.symm)).trans h.jL;exact⟨aK _ _ _ _ _ _ h1,hr.kept (mX w' C 0 u) (jh hu)⟩
theorem Ll(h:kX w C c)(e a:Int):Calls prog 316 #[Pt C 0,Im e,Im a] w λen w'=>en=.returned (.tuple #[])/\kX w' C (c.fail e a)/\Lk w w' 0 0 C:=by
 obtain⟨v,h⟩:=h;have c1:=jJ 1 h.jL rfl;have c2:=jJ 2 h.jL rfl;have fz:=qJ h.jL;have HH:=jB h;clear h;unfold Ck.fail;by_cases hc:c.en=0
 .rw[jl hc];rw[hc]at c1;go_enter func316,ntmps316;go_wp2_with fail;go_end0;exact⟨rfl,⟨v,HH.out.aqf e a⟩,(Lk.fault w 0 _ 0 0 C).trans (Lk.fault _ 1 _ 0 0 C)⟩
 .rw[jk hc];have hb:(c.en==0)=false:=by simp[hc]
  go_enter func316,ntmps316;go_wp2_with fail;go_end0;exact⟨rfl,⟨v,HH.out⟩,Lk.refl _ _ _ _⟩
theorem aaY(tmps:Array jr)(w:jo)(g:Nat)(k:Kn)(h2:tmps[4]? =some (Pt g 0))(h:w.heap[g]? =some (.cells #[.string k.name,Im k.kind,.bool k.isVar] 446)):
 (results Tryz.f315 tmps).run prog w=.ok (Vb k) w:=by
 have q0:=jJ 0 h rfl;have q1:=jJ 1 h rfl;have q2:=jJ 2 h rfl;simp[results,Tryz.results315,go_sem,h2,q0,q1,q2,Vb]
theorem ajA(ns:List Kn)(t:jm)(i:Nat)(k:Kn)(h:ns[i]? =some k):lG (ns.drop i) t=if k.name.data.toList==t.data.toList then k else lG (ns.drop (i+1)) t:=by
 obtain⟨hi,he⟩:=List.getElem?_eq_some_iff.1 h;rw[dA hi,he];unfold lG;rw[fF];cases (k.name.data.toList==t.data.toList)<;>rfl
theorem TJ(h:kX w C c)(t:jm)(hn:c.jA.length<=1000000):Calls prog 315 #[Pt C 0,.string t] w λen w'=>en=.returned (Vb (lG c.jA t))/\w.grownBy w' none:=by
 obtain⟨v,h⟩:=h;obtain⟨a,cap,rfl⟩:=Aw h.row;have hC:=h.lt;have n1:¬C=w.heap.size:=by omega
 have c0:=jJ 0 h.jL rfl;have hbox:(w.alloc (.cells #[.string ⟨#[]⟩,Im 0,.bool false] 446)).heap[w.heap.size]? =some (.cells #[.string ⟨#[]⟩,Im 0,.bool false] 446):=aY _ _;have HR:=jB h.row;have HB:=jB hbox;clear h hbox;have HN:Hid (lG c.jA t=lG (c.jA.drop 0) t):=rfl;generalize hr:lG c.jA t=r at *;clear hr;generalize c.jA=ns at *;go_enter func315,ntmps315;go_wp2_with fail;go_loopg [12] (ns.length+1) (λgg i wr=>Hid (∃k:Nat,k+gg=ns.length+1/\k<=ns.length/\i=Im k/\r=lG (ns.drop k) t/\(w.alloc (.cells #[.string ⟨#[]⟩,Im 0,.bool false] 446)).grownBy wr none))
 case atStart=>exact⟨0,by omega,bD _,rfl,HN.out,aN _ _⟩
 case round=>
  obtain⟨k,hk1,hk2,rfl,hr,hg⟩:=hrel.out;clear hrel;have hbox:=(hg.block _ (lN HB.out) (by simp)).trans HB.out;have b0:=jJ 0 hbox rfl;have b1:=jJ 1 hbox rfl;have b2:=jJ 2 hbox rfl;have fz:=qJ hbox;have hlt0:=lN hbox;have n2:¬w.heap.size=wr.heap.size:=by omega
  have YS:=jB hbox;have HG:=jB ((ah w _ none).trans hg);by_cases hlt:k<ns.length
  .have d1:decide ((k:Int)<(ns.length:Int))=true:=by simp;omega
   have i0:(0:Int)<=(k:Int):=by omega
   have i1:(k:Int)<(ns.length:Int):=by omega
   have hget:ns[k]? =some ns[k]:=by simp
   obtain⟨e0,e1,e2⟩:=acA ns k _ hget;obtain⟨g,hag,hBg,hgl,hcs⟩:=ad9 HR.out e0;subst hag;have k0:=(HG.out.cell (hcs _ _ e0) (by simp));have k1:=(HG.out.cell (hcs _ _ e1) (by simp));have k2:=(HG.out.cell (hcs _ _ e2) (by simp));have HD:Hid (r=if ns[k].name.data.toList==t.data.toList then ns[k]else lG (ns.drop (k+1)) t):=by rw[hr];exact ajA ns t k _ hget
   obtain⟨g',hg'⟩:∃g',gk=g'+1:=⟨gk-1,by omega⟩;have HW:=jB hg;clear hr hg hget e0 e1 e2 hcs;generalize ns[k]=kn at *;obtain⟨kt,kk,kv⟩:=kn;simp only at k0 k1 k2 HD;cases ht:(kt.data.toList==t.data.toList)with
   |true=>
    have ht2:(kt.toList==t.toList)=true:=by rw[aZ,aZ];exact ht
    have HD2:Hid (r=⟨kt,kk,kv⟩):=by have:=HD.out;rw[ht]at this;exact this
    clear HD;go_wp2_with fail;have hb2:=Iz wr w.heap.size _ _ _ _ (.string kt) (Im kk) (.bool kv) YS.out;have hg2:=pG (pG (pG HG.out (aj _) 0 (.string kt)) (aj _) 1 (Im kk)) (aj _) 2 (.bool kv);exact cu (aaY _ _ w.heap.size ⟨kt,kk,kv⟩ rfl ((fP _ _ _ (lN hb2)).trans hb2)) rfl ⟨by rw[HD2.out],hg2.trans (ah _ _ none)⟩
   |false=>
    have ht2:(kt.toList==t.toList)=false:=by rw[aZ,aZ];exact ht
    have HD2:Hid (r=lG (ns.drop (k+1)) t):=by have:=HD.out;rw[ht]at this;exact this
    clear HD;go_wp2_with fail;go_roundg g'
    case measure=>omega
    case rel=>exact⟨k+1,by omega,by omega,by go_num,HD2.out,HW.out.trans (ah _ _ none)⟩
  .have d1:decide ((k:Int)<(ns.length:Int))=false:=by simp;omega
   have HD:Hid (r=VH):=by rw[hr,fH (by omega)];rfl
   clear hr hg;go_wp2_with fail;refine cu (aaY _ _ w.heap.size VH rfl (Iz _ w.heap.size _ _ _ _ _ _ _ YS.out)) rfl ⟨by rw[HD.out],?_⟩;exact pG (pG (pG HG.out (aj _) _ _) (aj _) _ _) (aj _) _ _
theorem NP(b:Nat)(k:Int)(h:w.cell? (Ad b 2)=some (Im k)):Calls prog 356 #[Pt b 0] w λe w'=>e=.returned (Im k)/\w'=w:=by
 go_enter func356,ntmps356;go_wp2;go_ret;exact⟨rfl,rfl⟩
theorem aoE(b:Nat)(k:Int)(h:w.cell? (Ad b 0)=some (Im k)):Calls prog 312 #[Pt b 0] w λe w'=>e=.returned (Im k)/\w'=w:=by
 go_enter func312,ntmps312;go_wp2;go_ret;exact⟨rfl,rfl⟩
theorem aam(h:kX w C c){T:jv}{b:Nat}{k a:Int}(hT:lM T)(h2:w.cell? (Ad b 2)=some (Im k))(h0:w.cell? (Ad b 0)=some (Im a))(is:Int):
 Calls prog 317 #[Pt C 0,.iface T (Pt b 0),Im is] w λen w'=>en=.returned (.tuple #[])/\kX w' C (c.want k a is)/\Lk w w' 0 0 C:=by
 have m1:=hT.sort b;have m2:=hT.place b;have HS:=jB (NP b k h2);have HP:=jB (aoE b a h0);have HF:=jB (Ll h 3 a);have HH:=jB h;clear h h2 h0;unfold Ck.want;by_cases hk:k=is
 .rw[jl hk];have hb:(k !=is)=false:=by simp[hk]
  go_enter func317,ntmps317;go_wp2_with fail;refine HS.out.mono ?_;rintro e w1 ⟨rfl,rfl⟩;go_wp2_with fail;go_end0;exact⟨rfl,HH.out,Lk.refl _ _ _ _⟩
 .rw[jk hk];have hb:(k !=is)=true:=by simp[hk]
  go_enter func317,ntmps317;go_wp2_with fail;refine HS.out.mono ?_;rintro e w1 ⟨rfl,rfl⟩;go_wp2_with fail;refine HP.out.mono ?_;rintro e w1 ⟨rfl,rfl⟩;go_wp2_with fail;refine HF.out.mono ?_;rintro e w3 ⟨rfl,h1,h2⟩;have HE:=jB (jg h1 h2);clear h1 h2;go_wp2_with fail;go_end0;exact⟨rfl,HE.out⟩
theorem TW(a:jm)(b:Int)(c:Bool)(w:jo):(Instr.field 446 (.agg #[.string a,Im b,.bool c]) 1).run prog w=.ok (Im b) w:=by kernel_rfl
theorem TL(h:kX w C c)(t:jm)(ta:Int)(hn:c.jA.length<=1000000):
 Calls prog 325 #[Pt C 0,.agg #[.string t,Im ta]] w λen w'=>en=.returned (.tuple #[])/\kX w' C (c.mD t ta)/\Lk w w' 0 0 C:=by
 have hC:=h.lt;have HF:Hid (∀x,w.grownBy x none->Calls prog 315 #[Pt C 0,.string t] x λen w'=>en=.returned (.agg #[.string (lG c.jA t).name,Im (lG c.jA t).kind,.bool (lG c.jA t).isVar])/\x.grownBy w' none):=λx hx=>TJ (h.grow hx) t hn;have HA:=jB (λx (hx:w.grownBy x none)=>Ll (h.grow hx) 2 ta);have HH:Hid (∀x,w.grownBy x none->kX x C c/\Lk w x 0 0 C):=λx hx=>⟨h.grow hx,Lk.grown hx hC⟩;have HG:=jB (λo=>ah w o none);have HT:Hid (∀x,w.grownBy x none->x.heap[w.heap.size]? =x.heap[w.heap.size]?):=λ_ _=>rfl;clear h;unfold Ck.mD;generalize hr:lG c.jA t=r at *;obtain⟨rt,rk,rv⟩:=r;simp only at HF⊢;have hbox:(w.alloc (.cells #[.string t,Im ta] 316)).heap[w.heap.size]? =some (.cells #[.string t,Im ta] 316):=aY _ _;have HB:Hid (∀x,(w.alloc (.cells #[.string t,Im ta] 316)).grownBy x none->x.cell? (Ad w.heap.size 1)=some (Im ta)):=λx hx=>hx.cell (jH hbox) (by simp);clear hbox hr HT;have hfk:=TW rt rk rv;by_cases hk:rk=0
 .rw[jl hk];subst hk;go_enter func325,ntmps325;go_wp2_with fail;refine(HF.out _ (HG.out _)).mono ?_;rintro e w1 ⟨rfl,g1⟩;have qx:=jB ((HG.out _).trans g1);clear g1;go_wp2_with fail;go_end0;exact⟨rfl,HH.out _ qx.out⟩
 .rw[jk hk];have hb:(rk !=0)=true:=by simp[hk]
  go_enter func325,ntmps325;go_wp2_with fail;refine(HF.out _ (HG.out _)).mono ?_;rintro e w1 ⟨rfl,g1⟩;have c1:=HB.out w1 g1;have qx:=jB ((HG.out _).trans g1);clear g1;go_wp2_with fail;refine(HA.out _ qx.out).mono ?_;rintro e w2 ⟨rfl,h1,h2⟩;have HE:=jB (jg h1 ((HH.out _ qx.out).2.trans h2));clear h1 h2;go_wp2_with fail;go_end0;exact⟨rfl,HE.out⟩
theorem Uu(w:jo)(o o2:Obj):((w.alloc o).alloc o2).heap[w.heap.size+1]? =some o2:=by
 rw[<-nU w o];exact aY _ _
theorem Gm{o o2:Obj}{v:jr}{g n cap:Nat}(h:v.ownBlock=some g\/g=w.heap.size+1+1):∀k,(Value.slice (some (Ad g 0)) n cap).ownBlock=some k->v.ownBlock=some k\/(((w.alloc o).alloc o2).drewN 1).heap.size<=k:=λk hk=>by
 simp only[Value.ownBlock,bJ]at hk;subst hk;rcases h with h|h
 .exact ji h
 .right;have:(((w.alloc o).alloc o2).drewN 1).heap.size=w.heap.size+1+1:=by
   show((w.alloc o).alloc o2).heap.size=_;rw[nU,nU]
  omega
theorem ak6:(prog.info? 446).map (λi=>(i.zero,i.size,i.bytes))=some (some (.agg #[.string ⟨#[]⟩,Im 0,.bool false]),3,32):=by kernel_rfl
theorem TI(h:kX w C c)(t:jm)(ta kind:Int)(b:Bool)(hn:c.jA.length<=1000000):
 Calls prog 326 #[Pt C 0,.agg #[.string t,Im ta],Im kind,.bool b] w λen w'=>en=.returned (.tuple #[])/\kX w' C (c.add t kind b)/\Lk w w' 0 0 C:=by
 obtain⟨v,h⟩:=h;obtain⟨a,cap,rfl⟩:=Aw h.row;have hC:=h.lt;have c0:=jJ 0 h.jL rfl;obtain⟨i0,hi0,hz0,hz1,hz2⟩:=info_parts ak6;have HP:Hid (∀(o o2:Obj)(n:Nat)(w1:jo)(u:jr),(((w.alloc o).alloc o2).drewN n).grownBy w1 (Value.slice a c.jA.length cap).ownBlock->w1.ownsRow (C+1) 446 3 u (c.jA.length+1) (uT c.jA++[.string t,Im kind,.bool b])->(∀k,u.ownBlock=some k->(Value.slice a c.jA.length cap).ownBlock=some k\/(((w.alloc o).alloc o2).drewN n).heap.size<=k)->
  kX (w1.setCell (Ad C 0) u) C (c.add t kind b)/\Lk w (w1.setCell (Ad C 0) u) 0 0 C/\(∃u,w1.cell? (Ad C 0)=some u)/\w1.frozen? (Ad C 0)=false):=by
  intro o o2 n w1 u hg ho hat;have hgw:=((ah w o none).trans (ah _ o2 none)).trans (lH _ n);have h':=h.grow hgw;have e1:uT (c.jA++[⟨t,kind,b⟩])=uT c.jA++[.string t,Im kind,.bool b]:=by simp[uT]
  have ho2:w1.ownsRow (C+1) 446 3 u (c.jA++[(⟨t,kind,b⟩:Kn)]).length (uT (c.jA++[⟨t,kind,b⟩])):=by rw[e1];simpa using ho
  have hb1:=(hg.block C h'.lt (λe=>h'.ne e.symm)).trans h'.jL;refine⟨⟨u,h'.NK hg ho2⟩,?_,⟨.slice a c.jA.length cap,jH hb1⟩,oh hb1⟩;refine(Lk.grown hgw hC).trans (Lk.named hg h'.lt (jH h'.jL) (λk hk=>by have:=(h'.row.lt k hk).1;omega) (λk hk=>?_));exact hat k hk
 have HO:Hid (∀(o o2:Obj)(n:Nat),(((w.alloc o).alloc o2).drewN n).ownsRow (C+1) 446 3 (.slice a c.jA.length cap) c.jA.length (uT c.jA)):=λo o2 n=>
  (h.grow (((ah w o none).trans (ah _ o2 none)).trans (lH _ n))).row
 have hmx:c.jA.length+1<=maxLen:=by unfold maxLen;omega
 have hby:(c.jA.length+1) * 32<=140737488355328:=by omega
 have n1:¬C=w.heap.size:=by omega
 have n2:C<w.heap.size+1:=by omega
 clear h;generalize c.add t kind b=ca at *;generalize uT c.jA=cells at *;generalize c.jA.length=len at *;go_enter func326,ntmps326;go_wp2_with fail;go_region_law ((refine step_append_lies _ (by rfl) _ _ _ (by rfl) (C+1) 446 i0 _ 3 32 Tryz.underlying186 hi0 hz0 hz1 hz2 (by rfl) (by omega) (.slice a len cap) len cells (by rfl) (HO.out _ _ 1) (Ad (w.heap.size+1) 0) 1 1 [.string t,Im kind,.bool b] (by rfl) (by rfl) (fM (cs:=#[.string t,Im kind,.bool b]) (t:=446) (fr:=(0,0)) (Uu w _ _)) (by simp[Value.oneCell']) (by omega) hmx hby (by simp;omega) (w.heap.size+1+1) (by simp) ?_;intro gg cap1 w3 hown1 hgrow hat hlt;obtain⟨u12,UL⟩:=(HP.out _ _ 1 _ _ hgrow hown1 (Gm hat)).2.2.1;have Ux:=(HP.out _ _ 1 _ _ hgrow hown1 (Gm hat)).2.2.2));all_goals (go_wp2;go_end0;exact⟨rfl,(HP.out _ _ 1 _ _ hgrow hown1 (Gm hat)).1,(HP.out _ _ 1 _ _ hgrow hown1 (Gm hat)).2.1⟩)
theorem aea{B n k cap m:Nat}{T:jv}{a:Option Addr}{us:List jr}(h:w.ownsRow B T k (.slice a n cap) n us)(hm:m<=n):w.ownsRow B T k (.slice a m cap) m (us.take (m * k)):=by
 rcases h with⟨h1,⟨h2,h3⟩|⟨g,cap',cur,h2,h3,h4,h5,h6,h7,h8⟩⟩
 .cases h2;have:m=0:=by omega
  subst this;refine⟨by simp,ji ⟨rfl,rfl⟩⟩
 .cases h2;refine⟨?_,jh ⟨g,cap,cur,rfl,h3,h4,by omega,h6,h7,?_⟩⟩
  .rw[gI,h1];exact Nat.min_eq_left (gQ k hm)
  .rw[<-h8,List.take_take,Nat.min_eq_left (gQ k hm)]
theorem uK.cut{a:Option Addr}{n cap m:Nat}(h:uK w C (.slice a n cap) c)(hm:m<=n):uK (w.setCell (Ad C 0) (.slice a m cap)) C (.slice a m cap) (c.cut m):=by
 obtain⟨a',cap',e⟩:=Aw h.row;have hn:n=c.jA.length:=by cases e;rfl
 subst hn;have hr:=aea h.row hm;rw[alX]at hr;have hl:(c.jA.take m).length=m:=by rw[gI];omega
 refine h.NK (w':=w) (aN _ _) (ns:=c.jA.take m) ?_;rw[hl];exact hr
end
section
variable {w w' w1 w2:jo}{C lo hi b d:Nat}{c:Ck}{u:jr}{e:Ex}{a:Int}{T:jv}
theorem Jh(c:Ck)(x y:Int):(c.fail x y).jA=c.jA:=by unfold Ck.fail;split<;>rfl
theorem vY(c:Ck)(x y z:Int):(c.want x y z).jA=c.jA:=by unfold Ck.want;split;rfl;exact Jh _ _ _
theorem J8(c:Ck)(t:jm)(y:Int):(c.mD t y).jA=c.jA:=by unfold Ck.mD;split;rfl;exact Jh _ _ _
def Enters(f:FuncId):Prop:=∀args w,(callFunc f args).run prog w=.ok (.enter f args) w
structure nT(e:Ex)(a:Int)(w w':jo)(lo hi:Nat)(u:jr)(b C:Nat)(c:Ck):Prop where
 here:e.here a w' lo hi u
 kind:w'.cell? (Ad b 2)=some (Im (e.does.jU c.jA))
 ck:kX w' C (e.does.look c)
 keep:Lk w w' lo hi C
structure l7(d:Nat)(e:Ex):Prop where
 ok:kV e
 jA:∀c,(e.does.look c).jA=c.jA
 look:∀a w lo hi T b C c,e.here a w lo hi (.iface T (Pt b 0))->hi<=C->kX w C c->c.jA.length+d<=900000->
  ∃f,(∀w,(method 576 T (Pt b 0) "helm/lang.look").run prog w=.ok (f,Pt b 0) w)/\Enters f/\
   Calls prog f #[Pt b 0,Pt C 0] w λen w'=>en=.returned (.tuple #[])/\nT e a w w' lo hi (.iface T (Pt b 0)) b C c
theorem l7.use(h:l7 d e)(hh:e.here a w lo hi u)(hC:hi<=C)(hc:kX w C c)(hn:c.jA.length+d<=900000):
 ∃T b f,u=.iface T (Pt b 0)/\lM T/\lo<=b/\b<hi/\(∀w,(method 576 T (Pt b 0) "helm/lang.look").run prog w=.ok (f,Pt b 0) w)/\Enters f/\
  Calls prog f #[Pt b 0,Pt C 0] w λen w'=>en=.returned (.tuple #[])/\nT e a w w' lo hi u b C c:=by
 obtain⟨T,b,rfl,hT,h1,h2,_⟩:=h.ok.head _ _ _ _ _ hh;obtain⟨f,hf,hfe,hcl⟩:=h.look _ _ _ _ _ _ _ _ hh hC hc hn;exact⟨T,b,f,rfl,hT,h1,h2,hf,hfe,hcl⟩
theorem nT.want(h:nT e a w w' lo hi (.iface T (Pt b 0)) b C c)(he:kV e)(is:Int)(n:Nat):
 Calls prog 317 #[Pt C 0,.iface T (Pt b 0),Im is] (w'.drewN n) λen w2=>en=.returned (.tuple #[])/\kX w2 C ((e.does.look c).want (e.does.jU c.jA) a is)/\Lk w' w2 0 0 C:=by
 obtain⟨T',b',hv,hT,_,_,h0,_⟩:=he.head _ _ _ _ _ h.here;cases hv;refine(aam (h.ck.grow (lH w' n)) hT ((lH w' n).cell h.kind (by simp)) ((lH w' n).cell h0 (by simp)) is).mono ?_;rintro en w2 ⟨h1,h2,h3⟩;exact⟨h1,h2,(Lk.grown (lH w' n) h.ck.lt).trans h3⟩
theorem P9{T' T:jv}{at' jy kind:Int}{mk:List jr->List jr}{dn:Dn}(f:FuncId)(hok:kV (qZ T' T at' jy kind yY mk dn))(hk:∀ns,dn.jU ns=kind)(hl:∀c,dn.look c=c)
 (hm:∀b w,(method 576 T' (Pt b 0) "helm/lang.look").run prog w=.ok (f,Pt b 0) w)
 (hfe:Enters f)(hf:∀b C w,Calls prog f #[Pt b 0,Pt C 0] w λen w'=>en=.returned (.tuple #[])/\w'=w):l7 d (qZ T' T at' jy kind yY mk dn):=by
 refine⟨hok,λc=>congrArg Ck.jA (hl c),?_⟩;rintro a w lo hi T1 b C c ⟨b',us,hv,h1,h2,h3,h4⟩ hC hc hn;cases hv;refine⟨f,hm b,hfe,(hf b C w).mono ?_⟩;rintro en w' ⟨rfl,rfl⟩;refine⟨rfl,⟨b,us,rfl,h1,h2,h3,h4⟩,?_,?_,Lk.refl _ _ _ _⟩
 .show w'.cell? (Ad b 2)=some (Im (dn.jU c.jA));rw[hk];exact jH h4
 .show kX w' C (dn.look c);rw[hl];exact hc
theorem anG(b C:Nat)(w:jo):Calls prog 390 #[Pt b 0,Pt C 0] w λe w'=>e=.returned (.tuple #[])/\w'=w:=by
 go_enter func390,ntmps390;go_wp2_with fail;go_end0;exact⟨rfl,rfl⟩
theorem aga(b C:Nat)(w:jo):Calls prog 381 #[Pt b 0,Pt C 0] w λe w'=>e=.returned (.tuple #[])/\w'=w:=by
 go_enter func381,ntmps381;go_wp2_with fail;go_end0;exact⟨rfl,rfl⟩
theorem apG(b C:Nat)(w:jo):Calls prog 375 #[Pt b 0,Pt C 0] w λe w'=>e=.returned (.tuple #[])/\w'=w:=by
 go_enter func375,ntmps375;go_wp2_with fail;go_end0;exact⟨rfl,rfl⟩
theorem anF(d:Nat)(a n:Int):l7 d (BN a n):=P9 390 (VI a n) (λ_=>rfl) (λ_=>rfl) (λb w=>by kernel_rfl) (λargs w=>by kernel_rfl) anG
theorem ars(d:Nat)(a:Int)(b:Bool):l7 d (zO a 1 2 b):=P9 381 (RD a 2 b) (λ_=>rfl) (λ_=>rfl) (λb w=>by kernel_rfl) (λargs w=>by kernel_rfl) aga
theorem adv(d:Nat):l7 d qR:=P9 381 Gj (λ_=>rfl) (λ_=>rfl) (λb w=>by kernel_rfl) (λargs w=>by kernel_rfl) aga
theorem apF(d:Nat)(a i:Int):l7 d (Dv a i):=P9 375 (Ws a i) (λ_=>rfl) (λ_=>rfl) (λb w=>by kernel_rfl) (λargs w=>by kernel_rfl) apG
theorem arS{e:Ex}(h:l7 d e)(a:Int):l7 d (e.widen a):=
 ⟨agy h.ok a,h.jA,λa' w lo hi T b C c hh hC hc hn=>by
   obtain⟨f,hf,hfe,hcl⟩:=h.look a' w lo hi T b C c hh hC hc hn;exact⟨f,hf,hfe,hcl.mono λen w' ⟨h1,h2⟩=>⟨h1,⟨h2.here,h2.kind,h2.ck,h2.keep⟩⟩⟩⟩
theorem arM(d:Nat)(a0:Int)(t:Wd):l7 d (y8 a0 t):=by
 obtain⟨tt,ta⟩:=t;refine⟨YF a0 _,λc=>?_,?_⟩
 .show(if (lG c.jA tt).kind=0 then c.fail 2 ta else c).jA=c.jA;split
  .exact Jh _ _ _
  .rfl
 rintro a w lo hi T b C c ⟨k,b',us,hv,h1,h2,h3,h4⟩ hC hc hn;cases hv;have h4:=h4;have yU:=hc.lt;refine⟨378,λw=>by kernel_rfl,λargs w=>by kernel_rfl,?_⟩;have c2:=jJ 2 h4 rfl;have c3:=jJ 3 h4 rfl;have HF:Hid (Calls prog 315 #[Pt C 0,.string tt] w λen w'=>en=.returned (.agg #[.string (lG c.jA tt).name,Im (lG c.jA tt).kind,.bool (lG c.jA tt).isVar])/\w.grownBy w' none):=TJ hc tt (by omega);have HH:Hid (∀w',w.grownBy w' none->∀x,nT (y8 a0 ⟨tt,ta⟩) a w (w'.setCell (Ad b 2) (Im (lG c.jA tt).kind)) lo hi (.iface 389 (Pt b 0)) b C x->True):=λ_ _ _ _=>trivial;have HB:=jB (λw' (hg:w.grownBy w' none)=>(hg.block b (by omega) (by simp)).trans h4);have HC:Hid (kX w C c/\b<C/\lo<=b/\b<hi):=⟨hc,by omega,h1,h2⟩;clear h4 hc HH;have nR:Hid (∀w1 w2,w.grownBy w1 none->kX w2 C (if (lG c.jA tt).kind=0 then c.fail 2 ta else c)->Lk (w1.setCell (Ad b 2) (Im (lG c.jA tt).kind)) w2 0 0 C->nT (y8 a0 ⟨tt,ta⟩) a w w2 lo hi (.iface 389 (Pt b 0)) b C c):=λw1 w2 hg hk hl=>by
  obtain⟨q1,q2,q3,q4⟩:=HC.out;have hb1:=HB.out w1 hg;have hb2:(w1.setCell (Ad b 2) (Im (lG c.jA tt).kind)).heap[b]? =some (.cells #[Im a,Im 1,Im (lG c.jA tt).kind,.string tt,Im ta] 391):=aK _ _ _ _ _ _ hb1;have hb3:=(hl.keep b q2 (jh (bD _))).trans hb2;have hs1:=hg.size;have hlk:Lk w (w1.setCell (Ad b 2) (Im (lG c.jA tt).kind)) lo hi C:=((Lk.grown hg yU).all lo hi).trans (Lk.tree (mX w1 b 2 _) (by omega) q3 q4 q2);exact⟨⟨(lG c.jA tt).kind,b,[],rfl,q3,q4,rfl,hb3⟩,jH hb3,hk,hlk.trans (hl.all lo hi)⟩
 have IU:Hid (∀w1,w.grownBy w1 none->kX (w1.setCell (Ad b 2) (Im (lG c.jA tt).kind)) C c):=λw1 hg=>(HC.out.1.grow hg).below HC.out.2.1 (mX w1 b 2 _);generalize lG c.jA tt=r at *;obtain⟨rt,rk,rv⟩:=r;simp only at HF nR IU;by_cases hk:rk=0
 .subst hk;have hfk:=TW rt 0 rv;go_enter func378,ntmps378;go_wp2_with fail;refine HF.out.mono ?_;rintro en w1 ⟨rfl,g1⟩;have hb1:=HB.out w1 g1;have e2:=jJ 2 hb1 rfl;have e4:=jJ 4 hb1 rfl;have fz:=qJ hb1;have HG:=jB g1;clear g1 hb1;go_wp2_with fail;refine(Ll (IU.out _ HG.out) 2 ta).mono ?_;rintro en w2 ⟨rfl,p1,p2⟩;have HE:=jB (nR.out w1 w2 HG.out p1 p2);clear p1 p2;go_wp2_with fail;go_end0;exact⟨rfl,HE.out⟩
 .have hfk:=TW rt rk rv;have hb:(rk==0)=false:=by simp[hk]
  go_enter func378,ntmps378;go_wp2_with fail;refine HF.out.mono ?_;rintro en w1 ⟨rfl,g1⟩;have hb1:=HB.out w1 g1;have e2:=jJ 2 hb1 rfl;have fz:=qJ hb1;have HG:=jB g1;clear g1 hb1;go_wp2_with fail;go_end0;refine⟨rfl,nR.out w1 _ HG.out ?_ (Lk.refl _ _ _ _)⟩;rw[jk hk];exact IU.out w1 HG.out
end
end
section
open Go.RowKit Hx
section
variable {w w' w2 wy:jo}{C:Nat}{c:Co}{v nv u:jr}
def isRow(w:jo)(C g:Nat):Prop:=(∃v,w.cell? (Ad C 0)=some v/\v.ownBlock=some g)\/(∃v,w.cell? (Ad C 1)=some v/\v.ownBlock=some g)
theorem acn(h:w'.heap[C]? =w.heap[C]?)(g:Nat):isRow w' C g↔isRow w C g:=by
 unfold isRow;rw[bQ (a:=(Ad C 0)) h,bQ (a:=(Ad C 1)) h]
structure Gk(w w':jo)(C:Nat):Prop where
 os:w'.os=w.os
 tape:w'.tape=w.tape
 output:w'.output=w.output
 size:w.heap.size<=w'.heap.size
 keep:∀k,k<C->w'.heap[k]? =w.heap[k]?
 oV:∀k,C<k->k<w.heap.size->¬isRow w C k->w'.heap[k]? =w.heap[k]?
 row:∀g,isRow w' C g->isRow w C g\/w.heap.size<=g
theorem Gk.refl(w:jo)(C:Nat):Gk w w C:=⟨rfl,rfl,rfl,aj _,λ_ _=>rfl,λ_ _ _ _=>rfl,λ_ h=>ji h⟩
theorem Gk.trans(h:Gk w w' C)(k:Gk w' w2 C):Gk w w2 C:=by
 have s1:=h.size;have s2:=k.size;refine⟨k.os.trans h.os,k.tape.trans h.tape,k.output.trans h.output,dH h.size k.size,λb b1=>(k.keep b b1).trans (h.keep b b1),λb b1 b2 b3=>(k.oV b b1 (by omega) (λe=>?_)).trans (h.oV b b1 b2 b3),λg hg=>?_⟩
 .rcases h.row b e with e2|e2
  .exact b3 e2
  .omega
 .rcases k.row g hg with e|e
  .exact h.row g e
  .exact jh (by omega)
theorem Gk.grown(h:w.grownBy w' none)(hC:C<w.heap.size):Gk w w' C:=
 ⟨h.os,h.tape,h.output,h.size,λb b1=>h.block b (by omega) (by simp),λb _ b2 _=>h.block b b2 (by simp),λg hg=>ji ((acn (h.block C hC (by simp)) g).1 hg)⟩
theorem Gk.free(w:jo)(u:jr)(C:Nat):Gk w (w.setCell (Ad C 2) u) C:=
 ⟨rfl,rfl,rfl,by simp,λb b1=>bC _ _ _ _ (by show b≠C;omega),λb b1 _ _=>bC _ _ _ _ (by show b≠C;omega),λg hg=>ji (by
   unfold isRow at hg⊢
   rwa [bG _ _ _ _ (by simp),bG _ _ _ _ (by simp)]at hg)⟩
theorem Gk.aeT(j:Nat)(hj:j=0\/j=1)(h:w.grownBy w' v.ownBlock)(hC:C<w.heap.size)(hv:w.cell? (Ad C j)=some v)(hv2:∀k,v.ownBlock=some k->C<k)(hu:∀k,u.ownBlock=some k->v.ownBlock=some k\/w.heap.size<=k):Gk w (w'.setCell (Ad C j) u) C:=by
 have hb:=h.block C hC (λe=>by have:=hv2 C e.symm;omega);have hr:∀k,v.ownBlock=some k->isRow w C k:=λk hk=>by
  rcases hj with rfl|rfl
  .exact ji ⟨v,hv,hk⟩
  .exact jh ⟨v,hv,hk⟩
 refine⟨h.os,h.tape,h.output,by simpa using h.size,λb b1=>?_,λb b1 b2 b3=>?_,λg hg=>?_⟩
 .rw[bC _ _ _ _ (by show b≠C;omega)];exact h.block b (by omega) (λe=>by have:=hv2 b e.symm;omega)
 .rw[bC _ _ _ _ (by show b≠C;omega)];exact h.block b b2 (λe=>b3 (hr b e.symm))
 .have hold:∀i,i≠j->(w'.setCell (Ad C j) u).cell? (Ad C i)=w.cell? (Ad C i):=λi hi=>by
   rw[bG _ _ _ _ (by intro e;cases e;exact hi rfl)];exact bQ hb
  have hnew:(w'.setCell (Ad C j) u).cell? (Ad C j)=some u:=dB _ _ _ ((bQ hb).trans hv);have abO:∀x,(w'.setCell (Ad C j) u).cell? (Ad C j)=some x->x.ownBlock=some g->isRow w C g\/w.heap.size<=g:=λx e1 e2=>by
   rw[hnew]at e1;cases e1;exact(hu g e2).imp (hr g) id
  rcases hj with rfl|rfl
  .rcases hg with⟨x,e1,e2⟩|⟨x,e1,e2⟩
   .exact abO x e1 e2
   .rw[hold 1 (by decide)]at e1;exact ji (jh ⟨x,e1,e2⟩)
  .rcases hg with⟨x,e1,e2⟩|⟨x,e1,e2⟩
   .rw[hold 0 (by decide)]at e1;exact ji (ji ⟨x,e1,e2⟩)
   .exact abO x e1 e2
theorem Gk.cell(h:Gk w w' C){b j:Nat}(hb:b<C):w'.cell? (Ad b j)=w.cell? (Ad b j):=bQ (h.keep b hb)
theorem Hx.Lawful.gk{E:sJ}(hE:Lawful E){l m:Nat}(h:E w l m u)(k:Gk w w' C)(hm:m<=C):E w' l m u:=
 hE.loc _ _ _ _ _ h λb _ b2=>k.keep b (by omega)
def vO(ns:List (jm×Int)):List jr:=ns.flatMap λk=>[.string k.1,Im k.2]
theorem adt:∀(ns:List (jm×Int))(i:Nat)(k:jm×Int),ns[i]? =some k->(vO ns)[i * 2]? =some (.string k.1)/\(vO ns)[i * 2+1]? =some (Im k.2)
 |[],i,k,h=>by simp at h
 |k0::ns,0,k,h=>by
  simp only[dw,bJ]at h;subst h;exact⟨rfl,rfl⟩
 |k0::ns,i+1,k,h=>by
  have ih:=adt ns i k (by simpa using h);have e:∀j,(vO (k0::ns))[j+2]? =(vO ns)[j]? :=λj=>by simp[vO]
  have e1:(i+1) * 2=i * 2+2:=by omega
  rw[e1];exact⟨(e _).trans ih.1,(e (i * 2+1)).trans ih.2⟩
theorem anw(ns:List (jm×Int))(n:Nat):(vO ns).take (n * 2)=vO (ns.take n):=by
 induction ns generalizing n with
 |nil=>simp[vO]
 |cons k ns ih=>
  cases n with
  |zero=>simp[vO]
  |succ n=>
   have:=ih n;have e:(n+1) * 2=n * 2+1+1:=by omega
   rw[e];simp only[vO,c8,bZ,dP,aC]at this⊢;rw[this]
structure o9(w:jo)(C:Nat)(v nv:jr)(c:Co):Prop where
 jL:w.heap[C]? =some (.cells #[v,nv,Im c.free] 197)
 code:w.ownsRow (C+1) 5 1 v c.code.length (uo c.code)
 jA:w.ownsRow (C+1) 448 2 nv c.jA.length (vO c.jA)
 ne:∀g,v.ownBlock=some g->nv.ownBlock≠some g
def kF(w:jo)(C:Nat)(c:Co):Prop:=∃v nv,o9 w C v nv c
theorem o9.lt(h:o9 w C v nv c):C<w.heap.size:=lN h.jL
theorem kF.lt(h:kF w C c):C<w.heap.size:=by obtain⟨_,_,h⟩:=h;exact h.lt
theorem o9.Gy(h:o9 w C v nv c)(k:Nat)(hk:v.ownBlock=some k):C<k/\k<w.heap.size:=by have:=h.code.lt k hk;omega
theorem o9.Ih(h:o9 w C v nv c)(k:Nat)(hk:nv.ownBlock=some k):C<k/\k<w.heap.size:=by have:=h.jA.lt k hk;omega
theorem o9.apart(h:o9 w C v nv c):nv.ownBlock=none\/nv.ownBlock≠v.ownBlock:=by
 cases hn:nv.ownBlock with
 |none=>exact ji rfl
 |some g=>exact jh (λe=>h.ne g e.symm hn)
theorem o9.ahu(h:o9 w C v nv c):v.ownBlock=none\/v.ownBlock≠nv.ownBlock:=by
 cases hn:v.ownBlock with
 |none=>exact ji rfl
 |some g=>exact jh (λe=>h.ne g hn e.symm)
theorem o9.grow(h:o9 w C v nv c)(hg:w.grownBy w' none):o9 w' C v nv c:=
 ⟨(hg.block C h.lt (by simp)).trans h.jL,h.code.kept hg (by cases v.ownBlock<;>simp),h.jA.kept hg (by cases nv.ownBlock<;>simp),h.ne⟩
theorem kF.grow(h:kF w C c)(hg:w.grownBy w' none):kF w' C c:=by obtain⟨v,nv,h⟩:=h;exact⟨v,nv,h.grow hg⟩
theorem o9.jZ(h:o9 w C v nv c)(x:Int):o9 (w.setCell (Ad C 2) (Im x)) C v nv (c.jZ x):=by
 refine⟨aK _ _ _ _ _ _ h.jL,h.code.kept (mX w C 2 _) (jh λe=>?_),h.jA.kept (mX w C 2 _) (jh λe=>?_),h.ne⟩
 .have:=h.Gy C e;omega
 .have:=h.Ih C e;omega
theorem o9.ae5(h:o9 w C v nv c){bs:List Int}(hg:w.grownBy w' v.ownBlock)(hr:w'.ownsRow (C+1) 5 1 u bs.length (uo bs))(hu:∀k,u.ownBlock=some k->v.ownBlock=some k\/w.heap.size<=k):o9 (w'.setCell (Ad C 0) u) C u nv ⟨bs,c.jA,c.free⟩:=by
 have hb:=(hg.block C h.lt (λe=>by have:=h.Gy C e.symm;omega)).trans h.jL;have hn:=h.jA.kept hg h.apart;refine⟨aK _ _ _ _ _ _ hb,hr.kept (mX w' C 0 u) (jh λe=>?_),hn.kept (mX w' C 0 u) (jh λe=>?_),λg e1 e2=>?_⟩
 .have:=(hr.lt C e).1;omega
 .have:=h.Ih C e;omega
 .rcases hu g e1 with e|e
  .exact h.ne g e e2
  .have:=h.Ih g e2;omega
theorem o9.NK(h:o9 w C v nv c){ns:List (jm×Int)}(hg:w.grownBy w' nv.ownBlock)(hr:w'.ownsRow (C+1) 448 2 u ns.length (vO ns))(hu:∀k,u.ownBlock=some k->nv.ownBlock=some k\/w.heap.size<=k):o9 (w'.setCell (Ad C 1) u) C v u ⟨c.code,ns,c.free⟩:=by
 have hb:=(hg.block C h.lt (λe=>by have:=h.Ih C e.symm;omega)).trans h.jL;have hc:=h.code.kept hg h.ahu;refine⟨aK _ _ _ _ _ _ hb,hc.kept (mX w' C 1 u) (jh λe=>?_),hr.kept (mX w' C 1 u) (jh λe=>?_),λg e1 e2=>?_⟩
 .have:=h.Gy C e;omega
 .have:=(hr.lt C e).1;omega
 .rcases hu g e2 with e|e
  .exact h.ne g e1 e
  .have:=h.Gy g e1;omega
theorem o9.abh(h:o9 w C v nv c)(hg:w.grownBy w' v.ownBlock)(hu:∀k,u.ownBlock=some k->v.ownBlock=some k\/w.heap.size<=k):Gk w (w'.setCell (Ad C 0) u) C:=
 Gk.aeT 0 (ji rfl) hg h.lt (jH h.jL) (λk hk=>(h.Gy k hk).1) hu
theorem o9.abj(h:o9 w C v nv c)(hg:w.grownBy w' nv.ownBlock)(hu:∀k,u.ownBlock=some k->nv.ownBlock=some k\/w.heap.size<=k):Gk w (w'.setCell (Ad C 1) u) C:=
 Gk.aeT 1 (jh rfl) hg h.lt (jH h.jL) (λk hk=>(h.Ih k hk).1) hu
theorem o9.cut{a:Option Addr}{n cap m:Nat}(h:o9 w C v (.slice a n cap) c)(hm:m<=n):o9 (w.setCell (Ad C 1) (.slice a m cap)) C v (.slice a m cap) (c.cut m)/\Gk w (w.setCell (Ad C 1) (.slice a m cap)) C:=by
 obtain⟨a',cap',e⟩:=Aw h.jA;have hn:n=c.jA.length:=by cases e;rfl
 subst hn;have hr:=aea h.jA hm;rw[anw]at hr;have hl:(c.jA.take m).length=m:=by rw[gI];omega
 have hk:∀k,(Value.slice a m cap).ownBlock=some k->(Value.slice a c.jA.length cap).ownBlock=some k\/w.heap.size<=k:=λk hk=>ji (by cases a with|none=>cases hk|some ad=>exact hk);refine⟨h.NK (w':=w) (aN _ _) (ns:=c.jA.take m) ?_ hk,h.abj (aN _ _) hk⟩;rw[hl];exact hr
structure DR(w:jo)(C k:Nat)(o:Obj):Prop where
 at':w.heap[k]? =some o
 gt:C<k
 row:¬isRow w C k
theorem DR.gk{k:Nat}{o:Obj}(h:DR w C k o)(hl:Gk w w' C):DR w' C k o:=
 ⟨(hl.oV k h.gt (lN h.at') h.row).trans h.at',h.gt,λe=>by
   rcases hl.row k e with e2|e2
   .exact h.row e2
   .have:=lN h.at';omega⟩
theorem o9.rows(h:o9 w C v nv c)(g:Nat)(hg:isRow w C g):v.ownBlock=some g\/nv.ownBlock=some g:=by
 have e0:=jJ 0 h.jL rfl;have e1:=jJ 1 h.jL rfl;rcases hg with⟨x,h1,h2⟩|⟨x,h1,h2⟩
 .rw[e0]at h1;cases h1;exact ji h2
 .rw[e1]at h1;cases h1;exact jh h2
theorem DR.new(hc:kF w C c)(o:Obj):DR (w.alloc o) C w.heap.size o:=by
 have hC:=hc.lt;refine⟨aY w o,hC,λe=>?_⟩;have e:=(acn (fP w o C hC) _).1 e;obtain⟨v,nv,h⟩:=hc;rcases h.rows _ e with e|e
 .have:=h.Gy _ e;omega
 .have:=h.Ih _ e;omega
theorem aaF:∀(f r:Nat),(qo f r).length<=f+1
 |0,_=>by simp[qo]
 |f+1,r=>by
  unfold qo;split
  .have:=aaF f (r/128);simp only[aF];omega
  .simp
theorem anC(n:Int):(pK n).length<=10:=aaF 9 _
theorem adC:∀ns:List Int,(ns.flatMap pK).length<=10 * ns.length
 |[]=>by simp
 |n::ns=>by
  have:=adC ns;have:=anC n;simp only[c8,aA,aF];omega
theorem oD(c:Co)(o:Int)(ns:List Int):(c.lay o ns).code.length<=c.code.length+1+10 * ns.length:=by
 have:=adC ns;simp only[Co.lay,aA,aF];omega
end
end
end Go.Proofs.YthllhabjfchgiaaGreatDoor
