import Derived.Test.YthllhabjfchgiaaGreatDoorHs23
set_option maxRecDepth 100000
set_option maxHeartbeats 8000000
set_option linter.unusedSimpArgs false
namespace Go.Proofs.YthllhabjfchgiaaGreatDoor
open _root_.Go.Proofs.Tryz
section
open Go.RowKit Hx
section
structure rF(N:Nat)(Q:Ex->Prop)(x:Sx):Prop where
 of:x.of=3\/x.of=4
 all:∀b∈x.jE,Q b.2
 len:x.jE.length<=N
 jw:0<=x.jw/\x.jw<=1000001
 sum:x.jw<=1000000->1+(x.jE.map λb=>1+b.2.jw).sum<=x.jw
theorem FP{a b:Int}(f:0<=b)(h:kZ [a,b]<=1000000):kZ [a,b]=a+b:=by
 unfold kZ at h⊢;simp only[bP,eF]at h⊢;omega
theorem Yv{a:Int}(h:kZ [a]<=1000000):kZ [a]=a:=by
 unfold kZ at h⊢;simp only[bP,eF]at h⊢;omega
theorem O7{x:Sx}{c:Int}(j:0<=c)(h:x.round c<=1000000):1+c<=x.round c:=by
 unfold Hx.Sx.round at h⊢;rw[Yv h];have f:=Yv h;rw[f]at h;have g:kZ [1,c]<=1000000:=by split at h<;>omega
 have i:=FP (a:=1) (b:=c) j g;rw[i];split<;>omega
theorem rF.ajD{x:Sx}{b:Wd×Ex}(m:0<=x.jw)(i:0<=b.2.jw)(h:x.jw<=1000000->1+(x.jE.map λb=>1+b.2.jw).sum<=x.jw)(j:0<=x.round b.2.jw):(x.add b).jw<=1000000->1+((x.add b).jE.map λb=>1+b.2.jw).sum<=(x.add b).jw:=by
 unfold Hx.Sx.add;simp only;intro f;have g:=FP j f;rw[g]at f⊢;have k:=O7 (x:=x) i (by omega);have l:=h (by omega);simp only[dF,dL,iM,List.sum_append,gY,List.sum_nil];omega
structure Dw(N:Nat)(Q0 Q:Ex->Prop):Prop where
 jw:∀e,Q0 e->0<=e.jw/\e.jw<=1000001
 number:∀a n,Q (Ak a n)
 lD:∀a b,Q (AB a 1 2 b)
 none:Q rJ
 register:∀a i,Q (Ee a i)
 use:∀a d,Q (nK a d)
 widen:∀e a,Q0 e->Q (e.widen a)
 isNone:∀a e,Q0 e->Q (yP a e)
 minus:∀a sign e,sign.data.toList=[45]->Q e->Q (sG a 1 sign e)
 not:∀a sign e,sign.data.toList=[33]->Q e->Q (sG a 2 sign e)
 two:∀a sign l r,Q l->Q r->Q (nX a (mJ sign.data.toList).2 sign l r)
 property:∀a e (d:Wd),Q e->Q (oQ a (kY d.text.data.toList).2 (kY d.text.data.toList).1 e d)
 RY:∀a l r,Q l->Q0 r->Q (wG a l r)
 Nu:∀k what x,rF N Q0 x->Q (wP k what x)
 He:∀k what x b,rF N Q0 x->Q0 b.2->Q (qL k what x b)
section
variable {s:ji}{ex:Ps->Ex×Ps}{Q0 Q:Ex->Prop}{N:Nat}
theorem Kw{p:Ps}{t:List UInt8}(h:p.is t=true):p.k.text.data.toList=t:=by simpa [Ps.is]using h
theorem agY(h:∀e,Q0 e->0<=e.jw/\e.jw<=1000001)(f:∀p,Q0 (ex p).1):∀(n:Nat)(x:Sx)(p:Ps),x.jE.length+n<=N->rF N Q0 x->rF N Q0 (qY s ex n x p).1.1
 |0,_,_,_,hx=>hx
 |n+1,x,p,hn,hx=>by
  unfold qY;split
  .split
   .have i:(x.jE++[(qm s ex ((p.next s).next s)).1]).length+n<=N:=by simp only[aA,aF,bg];omega
    refine agY h f n _ _ i ⟨hx.1,λb g=>?_,dH (Nat.le_add_right _ _) i,xZ _ (by have:=hx.jw;have:=tC (x:=x) (h _ (f (((p.next s).next s).ku s [40]|>.name s|>.2|>.expect s [58])));simp;exact⟨by omega,by first|omega|exact this⟩),rF.ajD hx.jw.1 (h _ (f _)).1 hx.sum (tC (h _ (f _))).1⟩;rcases List.mem_append.1 g with g|g
    .exact hx.2 b g
    .rw[cO.1 g];exact f _
   .exact hx
  .exact hx
theorem ag2(j:∀e,Q0 e->0<=e.jw/\e.jw<=1000001)(h:∀p,Q0 (ex p).1)(n:Nat)(i:n<=N)(p:Ps):rF N Q0 (nB s ex n p).1.1:=by
 unfold nB;split
 .rename_i k g;exact agY j h _ _ _ (by simpa using i) ⟨SX g,λb f=>(by cases f),bD _,by simp,by simp⟩
 .exact⟨je rfl,λb f=>(by cases f),bD _,by simp,by simp⟩
theorem arL(f:Dw N Q0 Q)(h:∀p,Q0 (ex p).1)(n:Nat)(i:n<=N)(p:Ps):Q (Ar s ex n p).1:=by
 have g:=ag2 (s:=s) f.jw h n i p;unfold Ar;split
 .unfold FD;repeat' split
  .exact f.Nu _ _ _ g
  .exact f.Nu _ _ _ g
  .exact f.He _ _ _ _ g (h _)
  .exact f.He _ _ _ _ g (h _)
  .exact f.He _ _ _ _ g (h _)
  .exact f.none
 .exact f.none
theorem abl(f:Dw N Q0 Q)(g:∀p,Q0 (ex p).1)(n:Nat)(h:n<=N)(p:Ps):Q (tX s ex n p).1:=by
 unfold tX;repeat' split
 .exact f.number _ _
 .exact f.register _ _
 .exact f.use _ _
 .exact f.lD _ _
 .exact f.widen _ _ (g _)
 .exact f.isNone _ _ (g _)
 .exact arL f g n h p
 .exact f.none
theorem P9(f:Dw N Q0 Q)(g:∀p,Q0 (ex p).1)(at':Int):∀(n:Nat)(e:Ex)(p:Ps),Q e->Q (tY s ex at' n e p).1
 |0,_,_,he=>he
 |n+1,e,p,he=>by
  unfold tY;split
  .simp only;split
   .exact P9 f g at' n _ _ (f.RY _ _ _ he (g _))
   .exact P9 f g at' n _ _ (f.property _ _ _ he)
  .exact he
theorem Xb(f:Dw N Q0 Q)(g:∀p,Q0 (ex p).1)(n:Nat)(h:n<=N):∀(m:Nat)(p:Ps),Q (wX s ex n m p).1
 |0,p=>P9 f g _ _ _ _ (abl f g _ h _)
 |m+1,p=>by
  unfold wX;split
  .rename_i i;exact f.minus _ _ _ (Kw i) (Xb f g n h m _)
  split
  .rename_i i;exact f.not _ _ _ (Kw i) (Xb f g n h m _)
  .exact P9 f g _ _ _ _ (abl f g _ h _)
theorem afB(g:Dw N Q0 Q){f:Ps->Ex×Ps}(h:∀p,Q (f p).1)(i at':Int):∀(n:Nat)(e:Ex)(p:Ps),Q e->Q (wH s f i at' n e p).1
 |0,_,_,he=>he
 |n+1,e,p,he=>by
  unfold wH;split
  .simp only;split
   .exact g.two _ _ _ _ he (h _)
   .exact afB g h i at' n _ _ (g.two _ _ _ _ he (h _))
  .exact he
theorem Xy(f:Dw N Q0 Q)(g:∀p,Q0 (ex p).1)(n:Nat)(h:n<=N):∀(l:Nat)(p:Ps),Q (Bz s ex n l p).1
 |0,p=>Xb f g n h n p
 |l+1,p=>afB f (Xy f g n h l) _ _ _ _ _ (Xy f g n h l p)
end
theorem Qr(s:ji)(Q:Nat->Ex->Prop)(g:Q 0 rJ)(f:∀d,Dw (s.size+1) (Q d) (Q (d+1))):∀(d:Nat)(p:Ps),Q d (lG s d p).1
 |0,_=>g
 |d+1,p=>Xy (f d) (Qr s Q g f d) _ (aj _) _ p
structure Nc(N:Nat)(Is QX:Ex->Prop)(L0:List jI->Prop)(QS:jI->Prop):Prop where
 jw:∀e,Is e->0<=e.jw/\e.jw<=1000001
 RH:∀a b e,QX e->QS (sF a b e)
 Tc:∀b e,QX e->QS (sV b e)
 TA:∀a i e,QX e->QS (uQ a i e)
 SE:∀a e f,Is e->Is f->QS (sQ a e f)
 returning:∀a,QS (yV a)
 choice:∀a e y n,QX e->L0 y->L0 n->QS (qo a e y n)
 loop:∀a b x l,rF N Is x->L0 l->QS (qQ a b x l)
theorem auy{s:ji}{ex ex':Ps->Ex×Ps}{jM:Ps->List jI×Ps}{m q:Ex->Prop}{k:List jI->Prop}{o:jI->Prop}{N:Nat}(g:Nc N m q k o)(l:∀p,m (ex' p).1)(h:∀p,q (ex p).1)(j:∀p,k (jM p).1)(i:k [])(n:Nat)(r:n<=N)(p:Ps):
 ∀e,(o8 s ex jM ex' n p).1=some e->o e:=by
 intro e f;unfold o8 at f;split at f
 .cases f;exact g.Tc _ _ (h _)
 split at f
 .cases f;exact g.TA _ _ _ (h _)
 split at f
 .cases f;exact g.RH _ _ _ (h _)
 split at f
 .cases f;exact g.SE _ _ _ (l _) (l _)
 split at f
 .cases f;exact g.returning _
 split at f
 .cases f;unfold CG;simp only;split
  .exact g.choice _ _ _ _ (h _) (j _) (j _)
  .exact g.choice _ _ _ _ (h _) (j _) i
 split at f
 .cases f;exact g.loop _ _ _ _ (ag2 g.jw l _ r _) (j _)
 .cases f
theorem ahl{st:Ps->Option jI×Ps}{g:jI->Prop}(h:∀p e,(st p).1=some e->g e):∀(n:Nat)(l:List jI)(p:Ps),(∀e∈l,g e)->∀e∈(qg st n l p).1,g e
 |0,_,_,hl=>hl
 |n+1,l,p,hl=>by
  unfold qg;split
  .rename_i e q i;refine ahl h n _ _ (λx f=>?_);rcases List.mem_append.1 f with f|f
   .exact hl x f
   .rw[cO.1 f];exact h p e (by rw[i])
  .exact hl
theorem ahp(st:Ps->Option jI×Ps):∀(n:Nat)(l:List jI)(p:Ps),(qg st n l p).1.length<=l.length+n
 |0,l,_=>aj _
 |n+1,l,p=>by
  unfold qg;split
  .rename_i e q _;have:=ahp st n (l++[e]) q;simp only[aA,aF,bg]at this;omega
  .simp only;omega
theorem Tv(s:ji)(j:Nat->Ex->Prop)(i:Nat->jI->Prop)(L:Nat->List jI->Prop)(n:∀d p,j d (lG s d p).1)(t:∀d,Nc (s.size+1) (j d) (j (d+1)) (L d) (i (d+1)))(f:∀d,L d [])(x:∀d l,l.length<=s.size+1->(∀e∈l,i (d+1) e)->L (d+1) l):∀(d:Nat)(p:Ps),L d (mV s d p).1
 |0,_=>f 0
 |d+1,p=>by
  have y:=Tv s j i L n t f x d;have D:∀p,L d (qj s (mV s d) p).1:=λp=>by unfold qj;exact y _
  have o:=n d;have q:=n (d+1);have k:=t d;have m:=f d;show L (d+1) (qg (o8 s (lG s (d+1)) (qj s (mV s d)) (lG s d) (s.size+1)) (s.size+1) [] p).1;generalize lG s (d+1)=h at *;generalize lG s d=g at *;generalize qj s (mV s d)=r at *;have z:∀p e,(o8 s h r g (s.size+1) p).1=some e->i (d+1) e:=λp e E=>auy k o q D m (s.size+1) (aj _) p e E;have A:=ahp (o8 s h r g (s.size+1)) (s.size+1) [] p;have B:=ahl z (s.size+1) [] p (by simp);exact x d _ (by simpa using A) B
end
end
section
open Go.RowKit Hx
attribute [local go_sem ↓] Go.wp_at_zero Go.wp_at_succ
attribute [local go_sem] kN
section
variable {w w' w2 wy:jk}{C lo hi lo' hi':Nat}{c:Ck}{v:jm}
def rowOf(w:jk)(C:Nat):Option Nat:=match w.cell? (Ad C 0)with|some v=>v.ownBlock|none=>none
theorem XV(h:w'.heap[C]? =w.heap[C]?):rowOf w' C=rowOf w C:=by
 unfold rowOf;rw[bQ (a:=(Ad C 0)) h]
structure Lk(w w':jk)(lo hi C:Nat):Prop where
 os:w'.os=w.os
 tape:w'.tape=w.tape
 output:w'.output=w.output
 size:w.heap.size<=w'.heap.size
 keep:∀k,k<C->k<lo\/hi<=k->w'.heap[k]? =w.heap[k]?
 pI:∀k,C<k->k<w.heap.size->some k≠rowOf w C->w'.heap[k]? =w.heap[k]?
 row:∀g,rowOf w' C=some g->rowOf w C=some g\/w.heap.size<=g
theorem Lk.refl(w:jk)(lo hi C:Nat):Lk w w lo hi C:=⟨rfl,rfl,rfl,aj _,λ_ _ _=>rfl,λ_ _ _ _=>rfl,λ_ h=>jf h⟩
theorem Lk.trans(h:Lk w w' lo hi C)(k:Lk w' w2 lo hi C):Lk w w2 lo hi C:=by
 have n:=h.size;have o:=k.size;refine⟨k.os.trans h.os,k.tape.trans h.tape,k.output.trans h.output,dH h.size k.size,λb f i=>(k.keep b f i).trans (h.keep b f i),λb f i j=>(k.pI b f (by omega) (λe=>?_)).trans (h.pI b f i j),λg m=>?_⟩
 .rcases h.row b e.symm with l|l
  .exact j l.symm
  .omega
 .rcases k.row g m with e|e
  .exact h.row g e
  .exact je (by omega)
theorem Lk.wide(h:Lk w w' lo hi C)(i:lo'<=lo)(j:hi<=hi'):Lk w w' lo' hi' C:=
 ⟨h.os,h.tape,h.output,h.size,λb f g=>h.keep b f (by omega),h.pI,h.row⟩
theorem Lk.all(h:Lk w w' 0 0 C)(lo hi:Nat):Lk w w' lo hi C:=⟨h.os,h.tape,h.output,h.size,λb f _=>h.keep b f (je (bD _)),h.pI,h.row⟩
theorem Lk.grown(h:w.grownBy w' none)(i:C<w.heap.size):Lk w w' 0 0 C:=
 ⟨h.os,h.tape,h.output,h.size,λb k _=>h.block b (by omega) (by simp),λb _ f _=>h.block b f (by simp),λg j=>jf (by rw[<-XV (h.block C i (by simp))];exact j)⟩
theorem Lk.tree{b:Nat}(h:w.grownBy w' (some b))(f:C<w.heap.size)(n:lo<=b)(o:b<hi)(p:b<C):Lk w w' lo hi C:=
 ⟨h.os,h.tape,h.output,h.size,λk l m=>h.block k (by omega) (by simp;omega),λk q j _=>h.block k j (by simp;omega),λg i=>jf (by rw[<-XV (h.block C f (by simp;omega))];exact i)⟩
theorem Lk.fault(w:jk)(j:Nat)(u:jm)(lo hi C:Nat):Lk w (w.setCell (Ad C (j+1)) u) lo hi C:=
 ⟨rfl,rfl,rfl,by simp,λb h _=>bC _ _ _ _ (by show b≠C;omega),λb h _ _=>bC _ _ _ _ (by show b≠C;omega),λg f=>jf (by
   unfold rowOf at f⊢
   rwa [bG _ _ _ _ (by simp)]at f)⟩
theorem Lk.named{u v:jm}(h:w.grownBy w' v.ownBlock)(q:C<w.heap.size)(n:w.cell? (Ad C 0)=some v)(f:∀k,v.ownBlock=some k->C<k)(t:∀k,u.ownBlock=some k->v.ownBlock=some k\/w.heap.size<=k):Lk w (w'.setCell (Ad C 0) u) 0 0 C:=by
 have m:rowOf w C=v.ownBlock:=by unfold rowOf;rw[n]
 have r:=h.block C q (λe=>by have:=f C e.symm;omega);have i:rowOf (w'.setCell (Ad C 0) u) C=u.ownBlock:=by
  unfold rowOf;rw[dB _ _ _ ((bQ r).trans n)]
 refine⟨h.os,h.tape,h.output,by simpa using h.size,λb o _=>?_,λb o p j=>?_,λg l=>?_⟩
 .rw[bC _ _ _ _ (by show b≠C;omega)];exact h.block b (by omega) (λe=>by have:=f b e.symm;omega)
 .rw[bC _ _ _ _ (by show b≠C;omega)];exact h.block b p (by rw[m]at j;exact j)
 .rw[i]at l;rw[m];exact t g l
theorem Lk.cell(h:Lk w w' lo hi C){b j:Nat}(g:b<C)(f:b<lo\/hi<=b):w'.cell? (Ad b j)=w.cell? (Ad b j):=bQ (h.keep b g f)
theorem Hx.Lawful.lk{E:tk}(f:Lawful E){l m:Nat}{u:jm}(h:E w l m u)(k:Lk w w' lo hi C)(n:m<=C)(j:m<=lo\/hi<=l):E w' l m u:=
 f.loc _ _ _ _ _ h λb g i=>k.keep b (by omega) (by omega)
def vg(ns:List Kn):List jm:=ns.flatMap λk=>[.string k.name,Im k.kind,.bool k.isVar]
def WO(k:Kn):jm:=.agg #[.string k.name,Im k.kind,.bool k.isVar]
theorem aed:∀(f:List Kn)(i:Nat)(k:Kn),f[i]? =some k->(vg f)[i * 3]? =some (.string k.name)/\(vg f)[i * 3+1]? =some (Im k.kind)/\(vg f)[i * 3+2]? =some (.bool k.isVar)
 |[],i,k,h=>by simp at h
 |k0::f,0,k,h=>by
  simp only[dw,bJ]at h;subst h;exact⟨rfl,rfl,rfl⟩
 |k0::f,i+1,k,h=>by
  have g:=aed f i k (by simpa using h);have e:∀j,(vg (k0::f))[j+3]? =(vg f)[j]? :=λj=>by simp[vg]
  have l:(i+1) * 3=i * 3+3:=by omega
  rw[l];exact⟨(e _).trans g.1,(e (i * 3+1)).trans g.2.1,(e (i * 3+2)).trans g.2.2⟩
theorem aoh(ns:List Kn)(n:Nat):(vg ns).take (n * 3)=vg (ns.take n):=by
 induction ns generalizing n with
 |nil=>simp[vg]
 |cons k ns ih=>
  cases n with
  |zero=>simp[vg]
  |succ n=>
   have:=ih n;have e:(n+1) * 3=n * 3+1+1+1:=by omega
   rw[e];simp only[vg,c8,bZ,dP,aC]at this⊢;rw[this]
structure uS(w:jk)(C:Nat)(v:jm)(c:Ck):Prop where
 jM:w.heap[C]? =some (.cells #[v,Im c.en,Im c.ea] 188)
 row:w.ownsRow (C+1) 446 3 v c.jy.length (vg c.jy)
def kV(w:jk)(C:Nat)(c:Ck):Prop:=∃v,uS w C v c
theorem BG{B n k:Nat}{T:jo}{m:List jm}(h:w.ownsRow B T k v n m):∃a f,v=.slice a n f:=by
 rcases h with⟨_,⟨i,l⟩|⟨g,f,j,i,_⟩⟩
 .subst l;exact⟨_,_,i⟩
 .exact⟨_,_,i⟩
theorem afO{B n k:Nat}{T:jo}{i:List jm}{a:Option Addr}{l cap:Nat}(h:w.ownsRow B T k (.slice a l cap) n i){j:Nat}{u:jm}(f:i[j]? =some u):
 ∃g,a=some (Ad g 0)/\B<=g/\g<w.heap.size/\∀j u,i[j]? =some u->w.cell? (Ad g j)=some u:=by
 rcases h with⟨t,⟨p,m⟩|⟨g,o,r,p,m,q,y,z,A,x⟩⟩
 .subst m;have:i=[]:=by simpa using t
  rw[this]at f;simp at f
 .cases p;refine⟨g,rfl,m,lT q,λj u f=>?_⟩;rw[jG q];rw[<-x,iW]at f;split at f
  .simpa using f
  .cases f
theorem uS.lt(h:uS w C v c):C<w.heap.size:=lT h.jM
theorem kV.lt(h:kV w C c):C<w.heap.size:=h.elim λ_ h=>h.lt
theorem uS.ne(h:uS w C v c):v.ownBlock≠some C:=λe=>by have:=(h.row.lt C e).1;omega
theorem uS.grow(h:uS w C v c)(f:w.grownBy w' none):uS w' C v c:=⟨(f.block C h.lt (by simp)).trans h.jM,h.row.kept f (by cases v.ownBlock<;>simp)⟩
theorem kV.grow(h:kV w C c)(f:w.grownBy w' none):kV w' C c:=h.elim λv h=>⟨v,h.grow f⟩
theorem uS.below(h:uS w C v c){b:Nat}(i:b<C)(f:w.grownBy w' (some b)):uS w' C v c:=⟨(f.block C h.lt (by simp;omega)).trans h.jM,h.row.kept f (by
 cases g:v.ownBlock with
 |none=>exact jf rfl
 |some k=>right;have:=(h.row.lt k g).1;simp;omega)⟩
theorem kV.below(h:kV w C c){b:Nat}(f:b<C)(g:w.grownBy w' (some b)):kV w' C c:=h.elim λv h=>⟨v,h.below f g⟩
theorem uS.atc(h:uS w C v c)(e a:Int):uS ((w.setCell (Ad C 1) (Im e)).setCell (Ad C 2) (Im a)) C v ⟨c.jy,e,a⟩:=by
 have f:(w.setCell (Ad C 1) (Im e)).heap[C]? =some (.cells #[v,Im e,Im c.ea] 188):=aK _ _ _ _ _ _ h.jM;exact⟨aK _ _ _ _ _ _ f,((h.row.kept (mM w C 1 _) (je h.ne)).kept (mM _ C 2 _) (je h.ne))⟩
theorem uS.O9(h:uS w C v c){u:jm}{ns:List Kn}(i:w.grownBy w' v.ownBlock)(f:w'.ownsRow (C+1) 446 3 u ns.length (vg ns)):uS (w'.setCell (Ad C 0) u) C u ⟨ns,c.en,c.ea⟩:=by
 have j:u.ownBlock≠some C:=λe=>by have:=(f.lt C e).1;omega
 have g:=(i.block C h.lt (λe=>h.ne e.symm)).trans h.jM;exact⟨aK _ _ _ _ _ _ g,f.kept (mM w' C 0 u) (je j)⟩
theorem NC(h:kV w C c)(e a:Int):Calls prog 316 #[Pt C 0,Im e,Im a] w λj w'=>j=.returned (.tuple #[])/\kV w' C (c.fail e a)/\Lk w w' 0 0 C:=by
 obtain⟨v,h⟩:=h;have i:=jJ 1 h.jM rfl;have k:=jJ 2 h.jM rfl;have l:=qV h.jM;have g:=jA h;clear h;unfold Ck.fail;by_cases f:c.en=0
 .rw[jh f];rw[f]at i;go_enter func316,ntmps316;go_wp2_with fail;go_end0;exact⟨rfl,⟨v,g.out.atc e a⟩,(Lk.fault w 0 _ 0 0 C).trans (Lk.fault _ 1 _ 0 0 C)⟩
 .rw[jg f];have m:(c.en==0)=false:=by simp[f]
  go_enter func316,ntmps316;go_wp2_with fail;go_end0;exact⟨rfl,⟨v,g.out⟩,Lk.refl _ _ _ _⟩
theorem acI(f:Array jm)(w:jk)(g:Nat)(k:Kn)(i:f[4]? =some (Pt g 0))(h:w.heap[g]? =some (.cells #[.string k.name,Im k.kind,.bool k.isVar] 446)):
 (results Tryz.f315 f).run prog w=.ok (WO k) w:=by
 have j:=jJ 0 h rfl;have l:=jJ 1 h rfl;have m:=jJ 2 h rfl;simp[results,Tryz.results315,go_sem,i,j,l,m,WO]
theorem alO(ns:List Kn)(t:ji)(i:Nat)(k:Kn)(h:ns[i]? =some k):lJ (ns.drop i) t=if k.name.data.toList==t.data.toList then k else lJ (ns.drop (i+1)) t:=by
 obtain⟨hi,f⟩:=List.getElem?_eq_some_iff.1 h;rw[dA hi,f];unfold lJ;rw[fF];cases (k.name.data.toList==t.data.toList)<;>rfl
theorem U6(h:kV w C c)(t:ji)(hn:c.jy.length<=1000000):Calls prog 315 #[Pt C 0,.string t] w λW w'=>W=.returned (WO (lJ c.jy t))/\w.grownBy w' none:=by
 obtain⟨v,h⟩:=h;obtain⟨a,U,rfl⟩:=BG h.row;have hC:=h.lt;have n1:¬C=w.heap.size:=by omega
 have c0:=jJ 0 h.jM rfl;have f:(w.alloc (.cells #[.string ⟨#[]⟩,Im 0,.bool false] 446)).heap[w.heap.size]? =some (.cells #[.string ⟨#[]⟩,Im 0,.bool false] 446):=aY _ _;have R:=jA h.row;have J:=jA f;clear h f;have P:Hid (lJ c.jy t=lJ (c.jy.drop 0) t):=rfl;generalize q:lJ c.jy t=r at *;clear q;generalize c.jy=j at *;go_enter func315,ntmps315;go_wp2_with fail;go_loopg [12] (j.length+1) (λX i wr=>Hid (∃k:Nat,k+X=j.length+1/\k<=j.length/\i=Im k/\r=lJ (j.drop k) t/\(w.alloc (.cells #[.string ⟨#[]⟩,Im 0,.bool false] 446)).grownBy wr none))
 case atStart=>exact⟨0,by omega,bD _,rfl,P.out,aN _ _⟩
 case round=>
  obtain⟨k,ab,ac,rfl,q,z⟩:=hrel.out;clear hrel;have f:=(z.block _ (lT J.out) (by simp)).trans J.out;have b0:=jJ 0 f rfl;have b1:=jJ 1 f rfl;have b2:=jJ 2 f rfl;have fz:=qV f;have O:=lT f;have n2:¬w.heap.size=wr.heap.size:=by omega
  have K:=jA f;have x:=jA ((ah w _ none).trans z);by_cases ad:k<j.length
  .have V:decide ((k:Int)<(j.length:Int))=true:=by simp;omega
   have i0:(0:Int)<=(k:Int):=by omega
   have i1:(k:Int)<(j.length:Int):=by omega
   have l:j[k]? =some j[k]:=by simp
   obtain⟨E,L,M⟩:=aed j k _ l;obtain⟨g,G,Y,aa,m⟩:=afO R.out E;subst G;have k0:=(x.out.cell (m _ _ E) (by simp));have k1:=(x.out.cell (m _ _ L) (by simp));have k2:=(x.out.cell (m _ _ M) (by simp));have n:Hid (r=if j[k].name.data.toList==t.data.toList then j[k]else lJ (j.drop (k+1)) t):=by rw[q];exact alO j t k _ l
   obtain⟨F,Z⟩:∃F,gk=F+1:=⟨gk-1,by omega⟩;have S:=jA z;clear q z l E L M m;generalize j[k]=kn at *;obtain⟨p,B,D⟩:=kn;simp only at k0 k1 k2 n;cases A:(p.data.toList==t.data.toList)with
   |true=>
    have I:(p.toList==t.toList)=true:=by rw[aZ,aZ];exact A
    have o:Hid (r=⟨p,B,D⟩):=by have:=n.out;rw[A]at this;exact this
    clear n;go_wp2_with fail;have y:=Hy wr w.heap.size _ _ _ _ (.string p) (Im B) (.bool D) K.out;have H:=pR (pR (pR x.out (aj _) 0 (.string p)) (aj _) 1 (Im B)) (aj _) 2 (.bool D);exact cu (acI _ _ w.heap.size ⟨p,B,D⟩ rfl ((fP _ _ _ (lT y)).trans y)) rfl ⟨by rw[o.out],H.trans (ah _ _ none)⟩
   |false=>
    have I:(p.toList==t.toList)=false:=by rw[aZ,aZ];exact A
    have o:Hid (r=lJ (j.drop (k+1)) t):=by have:=n.out;rw[A]at this;exact this
    clear n;go_wp2_with fail;go_roundg F
    case measure=>omega
    case rel=>exact⟨k+1,by omega,by omega,by go_num,o.out,S.out.trans (ah _ _ none)⟩
  .have V:decide ((k:Int)<(j.length:Int))=false:=by simp;omega
   have n:Hid (r=Xm):=by rw[q,fH (by omega)];rfl
   clear q z;go_wp2_with fail;refine cu (acI _ _ w.heap.size Xm rfl (Hy _ w.heap.size _ _ _ _ _ _ _ K.out)) rfl ⟨by rw[n.out],?_⟩;exact pR (pR (pR x.out (aj _) _ _) (aj _) _ _) (aj _) _ _
theorem Ph(b:Nat)(k:Int)(h:w.cell? (Ad b 2)=some (Im k)):Calls prog 356 #[Pt b 0] w λe w'=>e=.returned (Im k)/\w'=w:=by
 go_enter func356,ntmps356;go_wp2;go_ret;exact⟨rfl,rfl⟩
theorem ara(b:Nat)(k:Int)(h:w.cell? (Ad b 0)=some (Im k)):Calls prog 312 #[Pt b 0] w λe w'=>e=.returned (Im k)/\w'=w:=by
 go_enter func312,ntmps312;go_wp2;go_ret;exact⟨rfl,rfl⟩
theorem ab5(h:kV w C c){T:jo}{b:Nat}{k a:Int}(m:lQ T)(f:w.cell? (Ad b 2)=some (Im k))(j:w.cell? (Ad b 0)=some (Im a))(is:Int):
 Calls prog 317 #[Pt C 0,.iface T (Pt b 0),Im is] w λr w'=>r=.returned (.tuple #[])/\kV w' C (c.want k a is)/\Lk w w' 0 0 C:=by
 have x:=m.sort b;have y:=m.place b;have i:=jA (Ph b k f);have q:=jA (ara b a j);have o:=jA (NC h 3 a);have p:=jA h;clear h f j;unfold Ck.want;by_cases g:k=is
 .rw[jh g];have t:(k !=is)=false:=by simp[g]
  go_enter func317,ntmps317;go_wp2_with fail;refine i.out.mono ?_;rintro e w1 ⟨rfl,rfl⟩;go_wp2_with fail;go_end0;exact⟨rfl,p.out,Lk.refl _ _ _ _⟩
 .rw[jg g];have t:(k !=is)=true:=by simp[g]
  go_enter func317,ntmps317;go_wp2_with fail;refine i.out.mono ?_;rintro e w1 ⟨rfl,rfl⟩;go_wp2_with fail;refine q.out.mono ?_;rintro e w1 ⟨rfl,rfl⟩;go_wp2_with fail;refine o.out.mono ?_;rintro e z ⟨rfl,l,f⟩;have n:=jA (jd l f);clear l f;go_wp2_with fail;go_end0;exact⟨rfl,n.out⟩
theorem Vj(a:ji)(b:Int)(c:Bool)(w:jk):(Instr.field 446 (.agg #[.string a,Im b,.bool c]) 1).run prog w=.ok (Im b) w:=by kernel_rfl
theorem U8(h:kV w C c)(t:ji)(i:Int)(I:c.jy.length<=1000000):
 Calls prog 325 #[Pt C 0,.agg #[.string t,Im i]] w λp w'=>p=.returned (.tuple #[])/\kV w' C (c.nD t i)/\Lk w w' 0 0 C:=by
 have G:=h.lt;have n:Hid (∀x,w.grownBy x none->Calls prog 315 #[Pt C 0,.string t] x λp w'=>p=.returned (.agg #[.string (lJ c.jy t).name,Im (lJ c.jy t).kind,.bool (lJ c.jy t).isVar])/\x.grownBy w' none):=λx g=>U6 (h.grow g) t I;have B:=jA (λx (g:w.grownBy x none)=>NC (h.grow g) 2 i);have y:Hid (∀x,w.grownBy x none->kV x C c/\Lk w x 0 0 C):=λx g=>⟨h.grow g,Lk.grown g G⟩;have k:=jA (λo=>ah w o none);have F:Hid (∀x,w.grownBy x none->x.heap[w.heap.size]? =x.heap[w.heap.size]?):=λ_ _=>rfl;clear h;unfold Ck.nD;generalize J:lJ c.jy t=r at *;obtain⟨K,q,L⟩:=r;simp only at n⊢;have f:(w.alloc (.cells #[.string t,Im i] 316)).heap[w.heap.size]? =some (.cells #[.string t,Im i] 316):=aY _ _;have D:Hid (∀x,(w.alloc (.cells #[.string t,Im i] 316)).grownBy x none->x.cell? (Ad w.heap.size 1)=some (Im i)):=λx g=>g.cell (jG f) (by simp);clear f J F;have H:=Vj K q L;by_cases l:q=0
 .rw[jh l];subst l;go_enter func325,ntmps325;go_wp2_with fail;refine(n.out _ (k.out _)).mono ?_;rintro e w1 ⟨rfl,j⟩;have m:=jA ((k.out _).trans j);clear j;go_wp2_with fail;go_end0;exact⟨rfl,y.out _ m.out⟩
 .rw[jg l];have O:(q !=0)=true:=by simp[l]
  go_enter func325,ntmps325;go_wp2_with fail;refine(n.out _ (k.out _)).mono ?_;rintro e w1 ⟨rfl,j⟩;have M:=D.out w1 j;have m:=jA ((k.out _).trans j);clear j;go_wp2_with fail;refine(B.out _ m.out).mono ?_;rintro e w2 ⟨rfl,z,A⟩;have E:=jA (jd z ((y.out _ m.out).2.trans A));clear z A;go_wp2_with fail;go_end0;exact⟨rfl,E.out⟩
theorem VO(w:jk)(o f:Obj):((w.alloc o).alloc f).heap[w.heap.size+1]? =some f:=by
 rw[<-oz w o];exact aY _ _
theorem Ht{o f:Obj}{v:jm}{g n cap:Nat}(h:v.ownBlock=some g\/g=w.heap.size+1+1):∀k,(Value.slice (some (Ad g 0)) n cap).ownBlock=some k->v.ownBlock=some k\/(((w.alloc o).alloc f).drewN 1).heap.size<=k:=λk i=>by
 simp only[Value.ownBlock,bJ]at i;subst i;rcases h with h|h
 .exact jf h
 .right;have:(((w.alloc o).alloc f).drewN 1).heap.size=w.heap.size+1+1:=by
   show((w.alloc o).alloc f).heap.size=_;rw[oz,oz]
  omega
theorem anz:(prog.info? 446).map (λi=>(i.zero,i.size,i.bytes))=some (some (.agg #[.string ⟨#[]⟩,Im 0,.bool false]),3,32):=by kernel_rfl
theorem U5(h:kV w C c)(t:ji)(U kind:Int)(b:Bool)(hn:c.jy.length<=1000000):
 Calls prog 326 #[Pt C 0,.agg #[.string t,Im U],Im kind,.bool b] w λM w'=>M=.returned (.tuple #[])/\kV w' C (c.add t kind b)/\Lk w w' 0 0 C:=by
 obtain⟨v,h⟩:=h;obtain⟨a,j,rfl⟩:=BG h.row;have O:=h.lt;have Y:=jJ 0 h.jM rfl;obtain⟨S,B,G,H,I⟩:=info_parts anz;have y:Hid (∀(o l:Obj)(n:Nat)(w1:jk)(u:jm),(((w.alloc o).alloc l).drewN n).grownBy w1 (Value.slice a c.jy.length j).ownBlock->w1.ownsRow (C+1) 446 3 u (c.jy.length+1) (vg c.jy++[.string t,Im kind,.bool b])->(∀k,u.ownBlock=some k->(Value.slice a c.jy.length j).ownBlock=some k\/(((w.alloc o).alloc l).drewN n).heap.size<=k)->
  kV (w1.setCell (Ad C 0) u) C (c.add t kind b)/\Lk w (w1.setCell (Ad C 0) u) 0 0 C/\(∃u,w1.cell? (Ad C 0)=some u)/\w1.frozen? (Ad C 0)=false):=by
  intro o l n w1 u A R i;have r:=((ah w o none).trans (ah _ l none)).trans (lu _ n);have p:=h.grow r;have L:vg (c.jy++[⟨t,kind,b⟩])=vg c.jy++[.string t,Im kind,.bool b]:=by simp[vg]
  have F:w1.ownsRow (C+1) 446 3 u (c.jy++[(⟨t,kind,b⟩:Kn)]).length (vg (c.jy++[⟨t,kind,b⟩])):=by rw[L];simpa using R
  have q:=(A.block C p.lt (λe=>p.ne e.symm)).trans p.jM;refine⟨⟨u,p.O9 A F⟩,?_,⟨.slice a c.jy.length j,jG q⟩,nA q⟩;refine(Lk.grown r O).trans (Lk.named A p.lt (jG p.jM) (λk D=>by have:=(p.row.lt k D).1;omega) (λk D=>?_));exact i k D
 have K:Hid (∀(o l:Obj)(n:Nat),(((w.alloc o).alloc l).drewN n).ownsRow (C+1) 446 3 (.slice a c.jy.length j) c.jy.length (vg c.jy)):=λo l n=>
  (h.grow (((ah w o none).trans (ah _ l none)).trans (lu _ n))).row
 have E:c.jy.length+1<=maxLen:=by unfold maxLen;omega
 have z:(c.jy.length+1) * 32<=140737488355328:=by omega
 have n1:¬C=w.heap.size:=by omega
 have n2:C<w.heap.size+1:=by omega
 clear h;generalize c.add t kind b=Z at *;generalize vg c.jy=m at *;generalize c.jy.length=x at *;go_enter func326,ntmps326;go_wp2_with fail;go_region_law ((refine step_append_lies _ (by rfl) _ _ _ (by rfl) (C+1) 446 S _ 3 32 Tryz.underlying186 B G H I (by rfl) (by omega) (.slice a x j) x m (by rfl) (K.out _ _ 1) (Ad (w.heap.size+1) 0) 1 1 [.string t,Im kind,.bool b] (by rfl) (by rfl) (fM (cs:=#[.string t,Im kind,.bool b]) (t:=446) (fr:=(0,0)) (VO w _ _)) (by simp[Value.oneCell']) (by omega) E z (by simp;omega) (w.heap.size+1+1) (by simp) ?_;intro gg J w3 g f i P;obtain⟨V,W⟩:=(y.out _ _ 1 _ _ f g (Ht i)).2.2.1;have X:=(y.out _ _ 1 _ _ f g (Ht i)).2.2.2));all_goals (go_wp2;go_end0;exact⟨rfl,(y.out _ _ 1 _ _ f g (Ht i)).1,(y.out _ _ 1 _ _ f g (Ht i)).2.1⟩)
theorem afP{B n k cap m:Nat}{T:jo}{a:Option Addr}{p:List jm}(h:w.ownsRow B T k (.slice a n cap) n p)(o:m<=n):w.ownsRow B T k (.slice a m cap) m (p.take (m * k)):=by
 rcases h with⟨q,⟨i,l⟩|⟨g,j,f,i,l,r,z,t,x,y⟩⟩
 .cases i;have:m=0:=by omega
  subst this;refine⟨by simp,jf ⟨rfl,rfl⟩⟩
 .cases i;refine⟨?_,je ⟨g,cap,f,rfl,l,r,by omega,t,x,?_⟩⟩
  .rw[gI,q];exact Nat.min_eq_left (gQ k o)
  .rw[<-y,List.take_take,Nat.min_eq_left (gQ k o)]
theorem uS.cut{a:Option Addr}{n cap m:Nat}(h:uS w C (.slice a n cap) c)(j:m<=n):uS (w.setCell (Ad C 0) (.slice a m cap)) C (.slice a m cap) (c.cut m):=by
 obtain⟨l,f,e⟩:=BG h.row;have k:n=c.jy.length:=by cases e;rfl
 subst k;have g:=afP h.row j;rw[aoh]at g;have i:(c.jy.take m).length=m:=by rw[gI];omega
 refine h.O9 (w':=w) (aN _ _) (ns:=c.jy.take m) ?_;rw[i];exact g
end
section
variable {w w' w1 w2:jk}{C lo hi b d:Nat}{c:Ck}{u:jm}{e:Ex}{a:Int}{T:jo}
theorem J4(c:Ck)(x y:Int):(c.fail x y).jy=c.jy:=by unfold Ck.fail;split<;>rfl
theorem wL(c:Ck)(x y z:Int):(c.want x y z).jy=c.jy:=by unfold Ck.want;split;rfl;exact J4 _ _ _
theorem LW(c:Ck)(t:ji)(y:Int):(c.nD t y).jy=c.jy:=by unfold Ck.nD;split;rfl;exact J4 _ _ _
def Enters(f:FuncId):Prop:=∀args w,(callFunc f args).run prog w=.ok (.enter f args) w
structure og(e:Ex)(a:Int)(w w':jk)(lo hi:Nat)(u:jm)(b C:Nat)(c:Ck):Prop where
 here:e.here a w' lo hi u
 kind:w'.cell? (Ad b 2)=some (Im (e.does.jZ c.jy))
 ck:kV w' C (e.does.look c)
 keep:Lk w w' lo hi C
structure mg(d:Nat)(e:Ex):Prop where
 ok:kT e
 jy:∀c,(e.does.look c).jy=c.jy
 look:∀a w lo hi T b C c,e.here a w lo hi (.iface T (Pt b 0))->hi<=C->kV w C c->c.jy.length+d<=900000->
  ∃f,(∀w,(method 576 T (Pt b 0) "helm/lang.look").run prog w=.ok (f,Pt b 0) w)/\Enters f/\
   Calls prog f #[Pt b 0,Pt C 0] w λen w'=>en=.returned (.tuple #[])/\og e a w w' lo hi (.iface T (Pt b 0)) b C c
theorem mg.use(h:mg d e)(j:e.here a w lo hi u)(n:hi<=C)(p:kV w C c)(r:c.jy.length+d<=900000):
 ∃T b f,u=.iface T (Pt b 0)/\lQ T/\lo<=b/\b<hi/\(∀w,(method 576 T (Pt b 0) "helm/lang.look").run prog w=.ok (f,Pt b 0) w)/\Enters f/\
  Calls prog f #[Pt b 0,Pt C 0] w λk w'=>k=.returned (.tuple #[])/\og e a w w' lo hi u b C c:=by
 obtain⟨T,b,rfl,o,l,m,_⟩:=h.ok.head _ _ _ _ _ j;obtain⟨f,q,i,g⟩:=h.look _ _ _ _ _ _ _ _ j n p r;exact⟨T,b,f,rfl,o,l,m,q,i,g⟩
theorem og.want(h:og e a w w' lo hi (.iface T (Pt b 0)) b C c)(m:kT e)(is:Int)(n:Nat):
 Calls prog 317 #[Pt C 0,.iface T (Pt b 0),Im is] (w'.drewN n) λf w2=>f=.returned (.tuple #[])/\kV w2 C ((e.does.look c).want (e.does.jZ c.jy) a is)/\Lk w' w2 0 0 C:=by
 obtain⟨p,q,o,l,_,_,g,_⟩:=m.head _ _ _ _ _ h.here;cases o;refine(ab5 (h.ck.grow (lu w' n)) l ((lu w' n).cell h.kind (by simp)) ((lu w' n).cell g (by simp)) is).mono ?_;rintro f w2 ⟨i,j,k⟩;exact⟨i,j,(Lk.grown (lu w' n) h.ck.lt).trans k⟩
theorem Ro{T' T:jo}{at' jw kind:Int}{mk:List jm->List jm}{dn:Dn}(f:FuncId)(h:kT (rH T' T at' jw kind zH mk dn))(q:∀x,dn.jZ x=kind)(k:∀c,dn.look c=c)
 (r:∀b w,(method 576 T' (Pt b 0) "helm/lang.look").run prog w=.ok (f,Pt b 0) w)
 (g:Enters f)(p:∀b C w,Calls prog f #[Pt b 0,Pt C 0] w λi w'=>i=.returned (.tuple #[])/\w'=w):mg d (rH T' T at' jw kind zH mk dn):=by
 refine⟨h,λc=>congrArg Ck.jy (k c),?_⟩;rintro a w lo hi z b C c ⟨A,y,t,l,m,n,j⟩ B o D;cases t;refine⟨f,r b,g,(p b C w).mono ?_⟩;rintro i w' ⟨rfl,rfl⟩;refine⟨rfl,⟨b,y,rfl,l,m,n,j⟩,?_,?_,Lk.refl _ _ _ _⟩
 .show w'.cell? (Ad b 2)=some (Im (dn.jZ c.jy));rw[q];exact jG j
 .show kV w' C (dn.look c);rw[k];exact o
theorem ap3(b C:Nat)(w:jk):Calls prog 390 #[Pt b 0,Pt C 0] w λe w'=>e=.returned (.tuple #[])/\w'=w:=by
 go_enter func390,ntmps390;go_wp2_with fail;go_end0;exact⟨rfl,rfl⟩
theorem ah4(b C:Nat)(w:jk):Calls prog 381 #[Pt b 0,Pt C 0] w λe w'=>e=.returned (.tuple #[])/\w'=w:=by
 go_enter func381,ntmps381;go_wp2_with fail;go_end0;exact⟨rfl,rfl⟩
theorem asf(b C:Nat)(w:jk):Calls prog 375 #[Pt b 0,Pt C 0] w λe w'=>e=.returned (.tuple #[])/\w'=w:=by
 go_enter func375,ntmps375;go_wp2_with fail;go_end0;exact⟨rfl,rfl⟩
theorem ap2(d:Nat)(a n:Int):mg d (Ak a n):=Ro 390 (Xn a n) (λ_=>rfl) (λ_=>rfl) (λb w=>by kernel_rfl) (λf w=>by kernel_rfl) ap3
theorem au2(d:Nat)(a:Int)(b:Bool):mg d (AB a 1 2 b):=Ro 381 (TJ a 2 b) (λ_=>rfl) (λ_=>rfl) (λb w=>by kernel_rfl) (λf w=>by kernel_rfl) ah4
theorem ae8(d:Nat):mg d rJ:=Ro 381 Hq (λ_=>rfl) (λ_=>rfl) (λb w=>by kernel_rfl) (λf w=>by kernel_rfl) ah4
theorem ase(d:Nat)(a i:Int):mg d (Ee a i):=Ro 375 (XP a i) (λ_=>rfl) (λ_=>rfl) (λb w=>by kernel_rfl) (λf w=>by kernel_rfl) asf
theorem avA{e:Ex}(h:mg d e)(a:Int):mg d (e.widen a):=
 ⟨aiu h.ok a,h.jy,λk w lo hi T b C c p m n q=>by
   obtain⟨f,o,j,i⟩:=h.look k w lo hi T b C c p m n q;exact⟨f,o,j,i.mono λr w' ⟨l,g⟩=>⟨l,⟨g.here,g.kind,g.ck,g.keep⟩⟩⟩⟩
theorem avo(d:Nat)(p:Int)(t:Wd):mg d (nK p t):=by
 obtain⟨g,l⟩:=t;refine⟨aac p _,λc=>?_,?_⟩
 .show(if (lJ c.jy g).kind=0 then c.fail 2 l else c).jy=c.jy;split
  .exact J4 _ _ _
  .rfl
 rintro a w lo hi T b C c ⟨k,b',us,hv,h1,h2,h3,j⟩ hC y hn;cases hv;have j:=j;have V:=y.lt;refine⟨378,λw=>by kernel_rfl,λJ w=>by kernel_rfl,?_⟩;have c2:=jJ 2 j rfl;have c3:=jJ 3 j rfl;have B:Hid (Calls prog 315 #[Pt C 0,.string g] w λq w'=>q=.returned (.agg #[.string (lJ c.jy g).name,Im (lJ c.jy g).kind,.bool (lJ c.jy g).isVar])/\w.grownBy w' none):=U6 y g (by omega);have X:Hid (∀w',w.grownBy w' none->∀x,og (nK p ⟨g,l⟩) a w (w'.setCell (Ad b 2) (Im (lJ c.jy g).kind)) lo hi (.iface 389 (Pt b 0)) b C x->True):=λ_ _ _ _=>trivial;have z:=jA (λw' (i:w.grownBy w' none)=>(i.block b (by omega) (by simp)).trans j);have A:Hid (kV w C c/\b<C/\lo<=b/\b<hi):=⟨y,by omega,h1,h2⟩;clear j y X;have H:Hid (∀w1 w2,w.grownBy w1 none->kV w2 C (if (lJ c.jy g).kind=0 then c.fail 2 l else c)->Lk (w1.setCell (Ad b 2) (Im (lJ c.jy g).kind)) w2 0 0 C->og (nK p ⟨g,l⟩) a w w2 lo hi (.iface 389 (Pt b 0)) b C c):=λw1 w2 i o K=>by
  obtain⟨q1,O,P,R⟩:=A.out;have f:=z.out w1 i;have E:(w1.setCell (Ad b 2) (Im (lJ c.jy g).kind)).heap[b]? =some (.cells #[Im a,Im 1,Im (lJ c.jy g).kind,.string g,Im l] 391):=aK _ _ _ _ _ _ f;have n:=(K.keep b O (je (bD _))).trans E;have aa:=i.size;have G:Lk w (w1.setCell (Ad b 2) (Im (lJ c.jy g).kind)) lo hi C:=((Lk.grown i V).all lo hi).trans (Lk.tree (mM w1 b 2 _) (by omega) P R O);exact⟨⟨(lJ c.jy g).kind,b,[],rfl,P,R,rfl,n⟩,jG n,o,G.trans (K.all lo hi)⟩
 have D:Hid (∀w1,w.grownBy w1 none->kV (w1.setCell (Ad b 2) (Im (lJ c.jy g).kind)) C c):=λw1 i=>(A.out.1.grow i).below A.out.2.1 (mM w1 b 2 _);generalize lJ c.jy g=r at *;obtain⟨S,I,U⟩:=r;simp only at B H D;by_cases o:I=0
 .subst o;have F:=Vj S 0 U;go_enter func378,ntmps378;go_wp2_with fail;refine B.out.mono ?_;rintro q w1 ⟨rfl,h⟩;have f:=z.out w1 h;have Y:=jJ 2 f rfl;have e4:=jJ 4 f rfl;have Z:=qV f;have m:=jA h;clear h f;go_wp2_with fail;refine(NC (D.out _ m.out) 2 l).mono ?_;rintro q w2 ⟨rfl,L,M⟩;have W:=jA (H.out w1 w2 m.out L M);clear L M;go_wp2_with fail;go_end0;exact⟨rfl,W.out⟩
 .have F:=Vj S I U;have hb:(I==0)=false:=by simp[o]
  go_enter func378,ntmps378;go_wp2_with fail;refine B.out.mono ?_;rintro q w1 ⟨rfl,h⟩;have f:=z.out w1 h;have Y:=jJ 2 f rfl;have Z:=qV f;have m:=jA h;clear h f;go_wp2_with fail;go_end0;refine⟨rfl,H.out w1 _ m.out ?_ (Lk.refl _ _ _ _)⟩;rw[jg o];exact D.out w1 m.out
end
end
section
open Go.RowKit Hx
section
variable {w w' w2 wy:jk}{C:Nat}{c:Co}{v nv u:jm}
def isRow(w:jk)(C g:Nat):Prop:=(∃v,w.cell? (Ad C 0)=some v/\v.ownBlock=some g)\/(∃v,w.cell? (Ad C 1)=some v/\v.ownBlock=some g)
theorem ad5(h:w'.heap[C]? =w.heap[C]?)(g:Nat):isRow w' C g↔isRow w C g:=by
 unfold isRow;rw[bQ (a:=(Ad C 0)) h,bQ (a:=(Ad C 1)) h]
structure Gk(w w':jk)(C:Nat):Prop where
 os:w'.os=w.os
 tape:w'.tape=w.tape
 output:w'.output=w.output
 size:w.heap.size<=w'.heap.size
 keep:∀k,k<C->w'.heap[k]? =w.heap[k]?
 pI:∀k,C<k->k<w.heap.size->¬isRow w C k->w'.heap[k]? =w.heap[k]?
 row:∀g,isRow w' C g->isRow w C g\/w.heap.size<=g
theorem Gk.refl(w:jk)(C:Nat):Gk w w C:=⟨rfl,rfl,rfl,aj _,λ_ _=>rfl,λ_ _ _ _=>rfl,λ_ h=>jf h⟩
theorem Gk.trans(h:Gk w w' C)(k:Gk w' w2 C):Gk w w2 C:=by
 have n:=h.size;have o:=k.size;refine⟨k.os.trans h.os,k.tape.trans h.tape,k.output.trans h.output,dH h.size k.size,λb f=>(k.keep b f).trans (h.keep b f),λb f l i=>(k.pI b f (by omega) (λe=>?_)).trans (h.pI b f l i),λg m=>?_⟩
 .rcases h.row b e with j|j
  .exact i j
  .omega
 .rcases k.row g m with e|e
  .exact h.row g e
  .exact je (by omega)
theorem Gk.grown(h:w.grownBy w' none)(i:C<w.heap.size):Gk w w' C:=
 ⟨h.os,h.tape,h.output,h.size,λb k=>h.block b (by omega) (by simp),λb _ f _=>h.block b f (by simp),λg j=>jf ((ad5 (h.block C i (by simp)) g).1 j)⟩
theorem Gk.free(w:jk)(u:jm)(C:Nat):Gk w (w.setCell (Ad C 2) u) C:=
 ⟨rfl,rfl,rfl,by simp,λb h=>bC _ _ _ _ (by show b≠C;omega),λb h _ _=>bC _ _ _ _ (by show b≠C;omega),λg f=>jf (by
   unfold isRow at f⊢
   rwa [bG _ _ _ _ (by simp),bG _ _ _ _ (by simp)]at f)⟩
theorem Gk.agJ(j:Nat)(y:j=0\/j=1)(h:w.grownBy w' v.ownBlock)(F:C<w.heap.size)(q:w.cell? (Ad C j)=some v)(p:∀k,v.ownBlock=some k->C<k)(G:∀k,u.ownBlock=some k->v.ownBlock=some k\/w.heap.size<=k):Gk w (w'.setCell (Ad C j) u) C:=by
 have r:=h.block C F (λe=>by have:=p C e.symm;omega);have A:∀k,v.ownBlock=some k->isRow w C k:=λk z=>by
  rcases y with rfl|rfl
  .exact jf ⟨v,q,z⟩
  .exact je ⟨v,q,z⟩
 refine⟨h.os,h.tape,h.output,by simpa using h.size,λb B=>?_,λb B D E=>?_,λg t=>?_⟩
 .rw[bC _ _ _ _ (by show b≠C;omega)];exact h.block b (by omega) (λe=>by have:=p b e.symm;omega)
 .rw[bC _ _ _ _ (by show b≠C;omega)];exact h.block b D (λe=>E (A b e.symm))
 .have m:∀i,i≠j->(w'.setCell (Ad C j) u).cell? (Ad C i)=w.cell? (Ad C i):=λi hi=>by
   rw[bG _ _ _ _ (by intro e;cases e;exact hi rfl)];exact bQ r
  have o:(w'.setCell (Ad C j) u).cell? (Ad C j)=some u:=dB _ _ _ ((bQ r).trans q);have n:∀x,(w'.setCell (Ad C j) u).cell? (Ad C j)=some x->x.ownBlock=some g->isRow w C g\/w.heap.size<=g:=λx f l=>by
   rw[o]at f;cases f;exact(G g l).imp (A g) id
  rcases y with rfl|rfl
  .rcases t with⟨x,f,l⟩|⟨x,f,l⟩
   .exact n x f l
   .rw[m 1 (by decide)]at f;exact jf (je ⟨x,f,l⟩)
  .rcases t with⟨x,f,l⟩|⟨x,f,l⟩
   .rw[m 0 (by decide)]at f;exact jf (jf ⟨x,f,l⟩)
   .exact n x f l
theorem Gk.cell(h:Gk w w' C){b j:Nat}(f:b<C):w'.cell? (Ad b j)=w.cell? (Ad b j):=bQ (h.keep b f)
theorem Hx.Lawful.gk{E:tk}(f:Lawful E){l m:Nat}(h:E w l m u)(k:Gk w w' C)(i:m<=C):E w' l m u:=
 f.loc _ _ _ _ _ h λb _ g=>k.keep b (by omega)
def wC(ns:List (ji×Int)):List jm:=ns.flatMap λk=>[.string k.1,Im k.2]
theorem ae6:∀(f:List (ji×Int))(i:Nat)(k:ji×Int),f[i]? =some k->(wC f)[i * 2]? =some (.string k.1)/\(wC f)[i * 2+1]? =some (Im k.2)
 |[],i,k,h=>by simp at h
 |k0::f,0,k,h=>by
  simp only[dw,bJ]at h;subst h;exact⟨rfl,rfl⟩
 |k0::f,i+1,k,h=>by
  have g:=ae6 f i k (by simpa using h);have e:∀j,(wC (k0::f))[j+2]? =(wC f)[j]? :=λj=>by simp[wC]
  have l:(i+1) * 2=i * 2+2:=by omega
  rw[l];exact⟨(e _).trans g.1,(e (i * 2+1)).trans g.2⟩
theorem apV(ns:List (ji×Int))(n:Nat):(wC ns).take (n * 2)=wC (ns.take n):=by
 induction ns generalizing n with
 |nil=>simp[wC]
 |cons k ns ih=>
  cases n with
  |zero=>simp[wC]
  |succ n=>
   have:=ih n;have e:(n+1) * 2=n * 2+1+1:=by omega
   rw[e];simp only[wC,c8,bZ,dP,aC]at this⊢;rw[this]
structure pJ(w:jk)(C:Nat)(v nv:jm)(c:Co):Prop where
 jM:w.heap[C]? =some (.cells #[v,nv,Im c.free] 197)
 code:w.ownsRow (C+1) 5 1 v c.code.length (uI c.code)
 jy:w.ownsRow (C+1) 448 2 nv c.jy.length (wC c.jy)
 ne:∀g,v.ownBlock=some g->nv.ownBlock≠some g
def kG(w:jk)(C:Nat)(c:Co):Prop:=∃v nv,pJ w C v nv c
theorem pJ.lt(h:pJ w C v nv c):C<w.heap.size:=lT h.jM
theorem kG.lt(h:kG w C c):C<w.heap.size:=by obtain⟨_,_,h⟩:=h;exact h.lt
theorem pJ.Ig(h:pJ w C v nv c)(k:Nat)(f:v.ownBlock=some k):C<k/\k<w.heap.size:=by have:=h.code.lt k f;omega
theorem pJ.Je(h:pJ w C v nv c)(k:Nat)(f:nv.ownBlock=some k):C<k/\k<w.heap.size:=by have:=h.jy.lt k f;omega
theorem pJ.apart(h:pJ w C v nv c):nv.ownBlock=none\/nv.ownBlock≠v.ownBlock:=by
 cases f:nv.ownBlock with
 |none=>exact jf rfl
 |some g=>exact je (λe=>h.ne g e.symm f)
theorem pJ.ajM(h:pJ w C v nv c):v.ownBlock=none\/v.ownBlock≠nv.ownBlock:=by
 cases f:v.ownBlock with
 |none=>exact jf rfl
 |some g=>exact je (λe=>h.ne g f e.symm)
theorem pJ.grow(h:pJ w C v nv c)(f:w.grownBy w' none):pJ w' C v nv c:=
 ⟨(f.block C h.lt (by simp)).trans h.jM,h.code.kept f (by cases v.ownBlock<;>simp),h.jy.kept f (by cases nv.ownBlock<;>simp),h.ne⟩
theorem kG.grow(h:kG w C c)(f:w.grownBy w' none):kG w' C c:=by obtain⟨v,nv,h⟩:=h;exact⟨v,nv,h.grow f⟩
theorem pJ.kC(h:pJ w C v nv c)(x:Int):pJ (w.setCell (Ad C 2) (Im x)) C v nv (c.kC x):=by
 refine⟨aK _ _ _ _ _ _ h.jM,h.code.kept (mM w C 2 _) (je λe=>?_),h.jy.kept (mM w C 2 _) (je λe=>?_),h.ne⟩
 .have:=h.Ig C e;omega
 .have:=h.Je C e;omega
theorem pJ.agT(h:pJ w C v nv c){bs:List Int}(i:w.grownBy w' v.ownBlock)(j:w'.ownsRow (C+1) 5 1 u bs.length (uI bs))(o:∀k,u.ownBlock=some k->v.ownBlock=some k\/w.heap.size<=k):pJ (w'.setCell (Ad C 0) u) C u nv ⟨bs,c.jy,c.free⟩:=by
 have m:=(i.block C h.lt (λe=>by have:=h.Ig C e.symm;omega)).trans h.jM;have n:=h.jy.kept i h.apart;refine⟨aK _ _ _ _ _ _ m,j.kept (mM w' C 0 u) (je λe=>?_),n.kept (mM w' C 0 u) (je λe=>?_),λg l f=>?_⟩
 .have:=(j.lt C e).1;omega
 .have:=h.Je C e;omega
 .rcases o g l with e|e
  .exact h.ne g e f
  .have:=h.Je g f;omega
theorem pJ.O9(h:pJ w C v nv c){ns:List (ji×Int)}(i:w.grownBy w' nv.ownBlock)(j:w'.ownsRow (C+1) 448 2 u ns.length (wC ns))(o:∀k,u.ownBlock=some k->nv.ownBlock=some k\/w.heap.size<=k):pJ (w'.setCell (Ad C 1) u) C v u ⟨c.code,ns,c.free⟩:=by
 have m:=(i.block C h.lt (λe=>by have:=h.Je C e.symm;omega)).trans h.jM;have n:=h.code.kept i h.ajM;refine⟨aK _ _ _ _ _ _ m,n.kept (mM w' C 1 u) (je λe=>?_),j.kept (mM w' C 1 u) (je λe=>?_),λg f l=>?_⟩
 .have:=h.Ig C e;omega
 .have:=(j.lt C e).1;omega
 .rcases o g l with e|e
  .exact h.ne g f e
  .have:=h.Ig g f;omega
theorem pJ.acZ(h:pJ w C v nv c)(f:w.grownBy w' v.ownBlock)(i:∀k,u.ownBlock=some k->v.ownBlock=some k\/w.heap.size<=k):Gk w (w'.setCell (Ad C 0) u) C:=
 Gk.agJ 0 (jf rfl) f h.lt (jG h.jM) (λk g=>(h.Ig k g).1) i
theorem pJ.ac0(h:pJ w C v nv c)(f:w.grownBy w' nv.ownBlock)(i:∀k,u.ownBlock=some k->nv.ownBlock=some k\/w.heap.size<=k):Gk w (w'.setCell (Ad C 1) u) C:=
 Gk.agJ 1 (je rfl) f h.lt (jG h.jM) (λk g=>(h.Je k g).1) i
theorem pJ.cut{a:Option Addr}{n cap m:Nat}(h:pJ w C v (.slice a n cap) c)(l:m<=n):pJ (w.setCell (Ad C 1) (.slice a m cap)) C v (.slice a m cap) (c.cut m)/\Gk w (w.setCell (Ad C 1) (.slice a m cap)) C:=by
 obtain⟨p,g,e⟩:=BG h.jy;have o:n=c.jy.length:=by cases e;rfl
 subst o;have i:=afP h.jy l;rw[apV]at i;have j:(c.jy.take m).length=m:=by rw[gI];omega
 have f:∀k,(Value.slice a m cap).ownBlock=some k->(Value.slice a c.jy.length cap).ownBlock=some k\/w.heap.size<=k:=λk f=>jf (by cases a with|none=>cases f|some ad=>exact f);refine⟨h.O9 (w':=w) (aN _ _) (ns:=c.jy.take m) ?_ f,h.ac0 (aN _ _) f⟩;rw[j];exact i
structure ED(w:jk)(C k:Nat)(o:Obj):Prop where
 at':w.heap[k]? =some o
 gt:C<k
 row:¬isRow w C k
theorem ED.gk{k:Nat}{o:Obj}(h:ED w C k o)(g:Gk w w' C):ED w' C k o:=
 ⟨(g.pI k h.gt (lT h.at') h.row).trans h.at',h.gt,λe=>by
   rcases g.row k e with f|f
   .exact h.row f
   .have:=lT h.at';omega⟩
theorem pJ.rows(h:pJ w C v nv c)(g:Nat)(l:isRow w C g):v.ownBlock=some g\/nv.ownBlock=some g:=by
 have j:=jJ 0 h.jM rfl;have k:=jJ 1 h.jM rfl;rcases l with⟨x,f,i⟩|⟨x,f,i⟩
 .rw[j]at f;cases f;exact jf i
 .rw[k]at f;cases f;exact je i
theorem ED.new(g:kG w C c)(o:Obj):ED (w.alloc o) C w.heap.size o:=by
 have f:=g.lt;refine⟨aY w o,f,λe=>?_⟩;have e:=(ad5 (fP w o C f) _).1 e;obtain⟨v,nv,h⟩:=g;rcases h.rows _ e with e|e
 .have:=h.Ig _ e;omega
 .have:=h.Je _ e;omega
theorem acn:∀(f r:Nat),(qH f r).length<=f+1
 |0,_=>by simp[qH]
 |f+1,r=>by
  unfold qH;split
  .have:=acn f (r/128);simp only[aF];omega
  .simp
theorem apZ(n:Int):(pY n).length<=10:=acn 9 _
theorem afg:∀f:List Int,(f.flatMap pY).length<=10 * f.length
 |[]=>by simp
 |n::f=>by
  have:=afg f;have:=apZ n;simp only[c8,aA,aF];omega
theorem oN(c:Co)(o:Int)(ns:List Int):(c.lay o ns).code.length<=c.code.length+1+10 * ns.length:=by
 have:=afg ns;simp only[Co.lay,aA,aF];omega
end
end
end Go.Proofs.YthllhabjfchgiaaGreatDoor
