import Derived.Test.YthllhabjfchgiaaGreatDoorHs02
import Derived.Laws.BitsAllLaws
set_option maxRecDepth 100000
set_option maxHeartbeats 8000000
set_option linter.unusedSimpArgs false
namespace Go.Proofs.YthllhabjfchgiaaGreatDoor
namespace Hx
open Go.RowKit
def Aq:Nat->Nat->Nat
 |0,_=>0
 |n+1,x=>x%2+Aq n (x/2)
theorem af2:∀(n a b:Nat),Aq n (a&&&b)<=Aq n b
 |0,_,_=>aj _
 |n+1,a,b=>by
  have c:(a&&&b)/2=a/2&&&b/2:=Nat.and_div_two;have d:(a&&&b)%2=(a%2)&&&(b%2):=by
   have:=Nat.and_mod_two_pow (a:=a) (b:=b) (n:=1);simpa using this
  have e:(a%2)&&&(b%2)<=b%2:=Nat.and_le_right;have:=af2 n (a/2) (b/2);simp only[Aq,c,d];omega
theorem af4:∀(n x:Nat),0<x->x<2^n->Aq n (x&&&(x-1))+1=Aq n x
 |0,x,h0,h1=>by simp at h1;omega
 |n+1,x,h0,h1=>by
  have e:(x&&&(x-1))/2=x/2&&&(x-1)/2:=Nat.and_div_two;have f:(x&&&(x-1))%2=(x%2)&&&((x-1)%2):=by
   have:=Nat.and_mod_two_pow (a:=x) (b:=x-1) (n:=1);simpa using this
  simp only[Aq,e,f];rcases Nat.mod_two_eq_zero_or_one x with h|h
  .have c:(x-1)/2=x/2-1:=by omega
   have d:=af4 n (x/2) (by omega) (by rw[iV]at h1;omega);rw[c,h];simp;omega
  .have c:(x-1)/2=x/2:=by omega
   have d:(x-1)%2=0:=by omega
   rw[c,d,h,Nat.and_self];simp;omega
def pop(x:Int):Nat:=Aq 64 x.toNat
theorem arf(x:Int)(a:0<=x)(b:x<18446744073709551616)(d:x≠0):pop (bits .and .u64 x (IntKind.u64.wrap (x-1)))+1=pop x:=by
 have e:IntKind.u64.wrap (x-1)=x-1:=by rw[IntKind.wrap_u64];omega
 rw[e,u64_and x (x-1) a b (by omega) (by omega)];have c:(x-1).toNat=x.toNat-1:=by omega
 rw[c];unfold pop;rw[bK];exact af4 64 x.toNat (by omega) (by omega)
theorem aoy(x y:Int):0<=bits .and .u64 x y/\bits .and .u64 x y<18446744073709551616:=⟨bits_lo_u64 _ _ _,by have:=bits_hi_u64 .and x y;omega⟩
theorem avj(a b:Int):nY (bits .and .i64 a b)=(((BitVec.ofInt 64 a).toNat&&&(BitVec.ofInt 64 b).toNat:Nat):Int):=by
 show IntKind.u64.wrap (IntKind.i64.wrap ((BitVec.ofInt 64 a&&&BitVec.ofInt 64 b).toNat:Int))=_;rw[BitVec.toNat_and];have h:(BitVec.ofInt 64 a).toNat&&&(BitVec.ofInt 64 b).toNat<2^64:=Nat.and_lt_two_pow _ (BitVec.isLt _);generalize (BitVec.ofInt 64 a).toNat&&&(BitVec.ofInt 64 b).toNat=X at *;rw[IntKind.wrap_u64];simp only[IntKind.wrap,IntKind.bits,IntKind.signed];omega
theorem XJ(k:Nat)(h:k<=16):Aq 64 (BitVec.ofInt 64 (pK k)).toNat=k/\Aq 64 (BitVec.ofInt 64 (wrap64 (pK k * 65536))).toNat=k:=by
 have:∀k:Fin 17,Aq 64 (BitVec.ofInt 64 (pK k.1)).toNat=k.1/\Aq 64 (BitVec.ofInt 64 (wrap64 (pK k.1 * 65536))).toNat=k.1:=by decide+kernel
 exact this ⟨k,by omega⟩
def Vw.small(v:Vw):Prop:=v.jU.length<=8/\v.kK.length<=16/\v.jW.length<=16
theorem ard(v:Vw)(e:v.small)(x l:Int):(pop (nY (bits .and .i64 x (v.all l))):Int)<=kQ l:=by
 rw[avj];unfold pop;rw[bK];have f:=af2 64 (BitVec.ofInt 64 x).toNat (BitVec.ofInt 64 (v.all l)).toNat;have g:(Aq 64 (BitVec.ofInt 64 (v.all l)).toNat:Int)<=kQ l:=by
  obtain⟨a,b,c⟩:=e;unfold Vw.all kQ;by_cases h:l=0
  .rw[jh h,jh h,(XJ _ (by omega)).1];omega
  .rw[jg h,jg h];by_cases d:l=1
   .rw[jh d,(XJ _ b).1];omega
   .rw[jg d,(XJ _ c).2];omega
 omega
theorem akh(x y:Int):0<=nY (bits .and .i64 x y)/\nY (bits .and .i64 x y)<18446744073709551616:=FT _
def yL(S:List St):Nat->Nat->Nat
 |0,_=>0
 |f+1,k=>match S[k]?with
  |none=>0
  |some s=>
   if s.op=0\/s.op=1 then 1
   else if s.op=2 then 1+max (yL S f (k+1)) (yL S f s.kD.toNat)
   else if s.op=3 then 1+yL S f s.kD.toNat
   else if s.op=4 then 1+(kQ s.a).toNat * yL S f (k+1)+yL S f s.kD.toNat
   else 1+yL S f (k+1)
def jw(S:List St)(k:Nat):Nat:=yL S (S.length-k) k
def LX(S:List St):Prop:=∀(k:Nat)(s:St),S[k]? =some s->(s.op=2\/s.op=3\/s.op=4)->k<s.kD.toNat
theorem Qk(S:List St)(f k:Nat)(h:S.length<=k):yL S f k=0:=by
 cases f with
 |zero=>rfl
 |succ f=>simp only[yL,bV h]
theorem Ql{S:List St}(c:LX S):∀(f g k:Nat),S.length-k<=f->S.length-k<=g->yL S f k=yL S g k
 |0,g,k,h1,_=>by rw[Qk S g k (by omega),Qk S 0 k (by omega)]
 |f+1,0,k,_,b=>by rw[Qk S _ k (by omega),Qk S 0 k (by omega)]
 |f+1,g+1,k,h1,b=>by
  cases d:S[k]?with
  |none=>simp only[yL,d]
  |some s=>
   have h:=Ql c f g (k+1) (by omega) (by omega);simp only[yL,d];by_cases a:s.op=2\/s.op=3\/s.op=4
   .have:=c k s d a;rw[h,Ql c f g s.kD.toNat (by omega) (by omega)]
   .have b:¬s.op=2:=λe=>a (jf e);have i:¬s.op=3:=λe=>a (je (jf e));have j:¬s.op=4:=λe=>a (je (je e));simp only[jg b,jg i,jg j,h]
theorem ER{S:List St}(d:LX S){k:Nat}{s:St}(c:S[k]? =some s):jw S k=
 if s.op=0\/s.op=1 then 1
 else if s.op=2 then 1+max (jw S (k+1)) (jw S s.kD.toNat)
 else if s.op=3 then 1+jw S s.kD.toNat
 else if s.op=4 then 1+(kQ s.a).toNat * jw S (k+1)+jw S s.kD.toNat
 else 1+jw S (k+1):=by
 have o:k<S.length:=by
  rcases dG k S.length with h|h
  .exact h
  .rw[bV h]at c;cases c
 obtain⟨f,n⟩:∃f,S.length-k=f+1:=⟨S.length-k-1,by omega⟩;have g:yL S f (k+1)=jw S (k+1):=Ql d _ _ _ (by omega) (aj _);unfold jw at *;rw[n];simp only[yL,c,g];by_cases b:s.op=2\/s.op=3\/s.op=4
 .have:=d k s c b;rw[Ql d f (S.length-s.kD.toNat) s.kD.toNat (by omega) (aj _)]
 .have i:¬s.op=2:=λe=>b (jf e);have j:¬s.op=3:=λe=>b (je (jf e));have m:¬s.op=4:=λe=>b (je (je e));simp only[jg i,jg j,jg m]
theorem ab9{S:List St}(a:LX S){k:Nat}{s:St}(b:S[k]? =some s):1<=jw S k:=by
 rw[ER a b];repeat' split
 all_goals omega
def kU(S:List St):Nat->List Nat
 |0=>[]
 |k+1=>match S[k]?with
  |none=>kU S k
  |some s=>if s.op=4 then k::kU S k else if s.op=0 then (kU S k).tail else kU S k
theorem ahu(S:List St)(k:Nat):∀(p:Nat)(r:List Nat),kU S k=p::r->∃s,S[p]? =some s/\s.op=4/\r=kU S p/\p<k:=by
 induction k using Nat.strongRecOn with
 |_ k ih=>
  intro p r h;cases k with
  |zero=>cases h
  |succ k=>
   simp only[kU]at h;cases e:S[k]?with
   |none=>
    rw[e]at h;obtain⟨s,b,c,a,d⟩:=ih k (by omega) p r h;exact⟨s,b,c,a,by omega⟩
   |some s=>
    rw[e]at h;simp only at h;by_cases d:s.op=4
    .rw[jh d]at h;cases h;exact⟨s,e,d,rfl,by omega⟩
    .rw[jg d]at h;by_cases g:s.op=0
     .rw[jh g]at h;cases f:kU S k with
      |nil=>rw[f]at h;cases h
      |cons q t=>
       rw[f]at h;obtain⟨i,b,c,a,o⟩:=ih k (by omega) q t f;rw[List.tail_cons,a]at h;obtain⟨u,j,m,n,v⟩:=ih q (by omega) p r h;exact⟨u,j,m,n,by omega⟩
     .rw[jg g]at h;obtain⟨i,b,c,a,o⟩:=ih k (by omega) p r h;exact⟨i,b,c,a,by omega⟩
def zx(S:List St)(left:List Int):List Nat->Nat
 |[]=>0
 |p::r=>(match S[p]?with|none=>0|some s=>pop (left.getD r.length 0) * jw S (p+1)+jw S s.kD.toNat)+zx S left r
theorem UG(S:List St)(left:List Int)(d:Nat)(x:Int):∀(r:List Nat),r.length<=d->zx S (left.set d x) r=zx S left r
 |[],_=>rfl
 |p::r,h=>by
  have a:r.length+1<=d:=by simpa using h
  have e:(left.set d x).getD r.length 0=left.getD r.length 0:=by
   rw[aU,aU,dQ (by omega)]
  simp only[zx,e,UG S left d x r (by omega)]
def wu(S:List St)(m:Mc)(k:Nat):Nat:=jw S k+zx S m.left (kU S k)
structure Sound(S:List St)(n:Nat):Prop where
 fits:Fits S n
 Qw:∀(k:Nat)(s:St),S[k]? =some s->(s.op=2\/s.op=3\/s.op=4)->k<s.kD.toNat/\kU S s.kD.toNat=kU S k
 depth:∀(k:Nat)(s:St),S[k]? =some s->s.op=4->s.depth=(kU S k).length
 back:∀(k:Nat)(s:St),S[k]? =some s->(s.op=0\/s.op=5)->(kU S k).head?=some s.kD.toNat
theorem Sound.ahead{S:List St}{n:Nat}(h:Sound S n):LX S:=λk s a b=>(h.Qw k s a b).1
structure xH(m:Mc):Prop where
 len:m.left.length=8
 bd:∀x∈m.left,0<=x/\x<18446744073709551616
theorem xH.at{m:Mc}(h:xH m)(i:Int):0<=m.ni i/\m.ni i<18446744073709551616:=by
 unfold Mc.ni;rw[aU];cases a:m.left[i.toNat]?with
 |none=>simp
 |some x=>exact h.bd x (bT a)
theorem xH.put{m:Mc}(h:xH m)(i x:Int)(b:0<=x)(c:x<18446744073709551616):xH (m.lY i x):=by
 refine⟨by simp[Mc.lY,h.len],λy d=>?_⟩;rcases List.mem_or_eq_of_mem_set d with a|a
 .exact h.bd y a
 .subst a;exact⟨b,c⟩
theorem xH.jD{m a:Mc}(h:xH m)(e:a.left=m.left):xH a:=⟨by rw[e];exact h.len,by rw[e];exact h.bd⟩
theorem agq(m:Mc)(i x:Int):(m.put i x).left=m.left:=rfl
theorem akZ(s:St)(b:Bool)(m:Mc):(choose s b m).left=m.left:=by
 unfold choose;split<;>rfl
theorem aiw(v:Vw)(s:St)(m:Mc):(work v s m).left=m.left:=by
 unfold work;repeat' split
 all_goals first|rfl|exact akZ _ _ _
theorem agh{v:Vw}{i j:Int}{m a:Mc}(h:push v i j m=some a):a.left=m.left:=by
 unfold push at h;split at h
 .split at h
  .cases h
  .cases h;rfl
 .cases h;rfl
theorem ah6{S:List St}{n:Nat}(h:Sound S n){p:Nat}{s:St}(a:S[p]? =some s)(g:s.op=4){m:Mc}(i:xH m):
 0<=(kR s p m).2/\(kR s p m).2<S.length/\xH (kR s p m).1/\
  wu S (kR s p m).1 (kR s p m).2.toNat<=pop (m.left.getD (kU S p).length 0) * jw S (p+1)+jw S s.kD.toNat+zx S m.left (kU S p):=by
 have F:=h.depth p s a g;obtain⟨u,v,A,B,C,D⟩:=(h.fits.each p s a).jY g;obtain⟨E,w⟩:=h.Qw p s a (je (je g));have z:=(h.fits.each p s a).next (by omega) (by omega) (by omega);have d:s.depth.toNat=(kU S p).length:=by omega
 have c:=i.at s.depth;unfold kR;by_cases k:m.ni s.depth=0
 .rw[jh k];refine⟨u,v,i,?_⟩;simp only[wu,w];omega
 .rw[jg k];have f:=arf (m.ni s.depth) c.1 c.2 k;have e:=aoy (m.ni s.depth) (IntKind.u64.wrap (m.ni s.depth-1));have j:kU S (p+1)=p::kU S p:=by
   simp only[kU,a,jh g]
  have o:m.left.getD (kU S p).length 0=m.ni s.depth:=by
   unfold Mc.ni;rw[d]
  generalize bits .and .u64 (m.ni s.depth) (IntKind.u64.wrap (m.ni s.depth-1))=y at *;refine⟨by show(0:Int)<=(p:Int)+1;omega,by show((p:Int)+1)<_;omega,(i.jD (agq m s.b _)).put _ _ e.1 e.2,?_⟩;have q:((p:Int)+1).toNat=p+1:=by omega
  rw[q,o];have x:∀L:List Int,zx S L (p::kU S p)=pop (L.getD (kU S p).length 0) * jw S (p+1)+jw S s.kD.toNat+zx S L (kU S p):=λL=>by
   simp only[zx,a]
  unfold wu;rw[j,x];have r:((m.put s.b (tz (m.ni s.depth))).lY s.depth y).left=m.left.set (kU S p).length y:=by
   simp[Mc.lY,agq,d]
  rw[r,UG _ _ _ _ _ (aj _)];have t:(m.left.set (kU S p).length y).getD (kU S p).length 0=y:=by
   rw[aU,dY (by rw[i.len];omega)]
   rfl
  rw[t,<-f,Nat.add_mul];omega
theorem auu{v:Vw}{S:List St}{n:Nat}(h:Sound S n)(hv:v.small){jF:List Int}{k:Nat}{s:St}(w:S[k]? =some s){m:Mc}(z:xH m):
 (∀o,step v S jF k s m=.inl o->o.status≠2)/\
 (∀f g,step v S jF k s m=.inr (f,g)->0<=f/\f<S.length/\xH g/\wu S g f.toNat+1<=wu S m k):=by
 have x:=h.fits.each k s w;have q:=ER h.ahead w;have L:¬s.op=4->¬s.op=0->kU S (k+1)=kU S k:=λa b=>by
  simp only[kU,w,jg a,jg b]
 have I:((k:Int)+1).toNat=k+1:=by omega
 have e:(s.op=0\/s.op=5)->∃l,S[s.kD.toNat]? =some l/\l.op=4/\0<=s.kD/\0<=(kR l s.kD m).2/\(kR l s.kD m).2<S.length/\xH (kR l s.kD m).1/\wu S (kR l s.kD m).1 (kR l s.kD m).2.toNat+1<=wu S m k:=by
  intro d;have A:=h.back k s w d;have i:0<=s.kD:=by
   rcases d with d|d
   .obtain⟨l,i,_⟩:=x.ends d;exact i
   .obtain⟨_,l,i,_⟩:=x.Js d;exact i
  cases J:kU S k with
  |nil=>rw[J]at A;cases A
  |cons p r=>
   rw[J]at A;simp only[List.head?_cons,bJ]at A;obtain⟨l,B,K,Q,l4⟩:=ahu S k p r J;obtain⟨C,D,E,F⟩:=ah6 h B K z;have P:s.kD=(p:Int):=by omega
   rw[P];refine⟨l,by simpa using B,K,by omega,C,D,E,?_⟩;have:wu S m k=jw S k+((pop (m.left.getD r.length 0) * jw S (p+1)+jw S l.kD.toNat)+zx S m.left r):=by
    unfold wu;rw[J];simp only[zx,B]
   have W:=ab9 h.ahead w;rw[this,Q];omega
 unfold step;by_cases G:s.op=1
 .rw[jh G];exact⟨λo d=>by cases d;simp,λf g d=>by cases d⟩
 rw[jg G];by_cases u:s.op=2
 .rw[jh u];clear e;obtain⟨_,T,U⟩:=x.ifs u;obtain⟨Z,M⟩:=h.Qw k s w (jf u);have V:=x.next G (by omega) (by omega);rw[jg (by omega),jh u]at q;refine⟨λo d=>(by cases d),λf g d=>?_⟩;cases d;refine⟨by split<;>omega,by split<;>omega,z,?_⟩;unfold wu;rw[q];split
  .rw[M];omega
  .rw[I,L (by omega) (by omega)];omega
 rw[jg u];by_cases t:s.op=3
 .rw[jh t];clear e;obtain⟨T,U⟩:=x.acj t;obtain⟨Z,M⟩:=h.Qw k s w (je (jf t));rw[jg (by omega),jg u,jh t]at q;refine⟨λo d=>(by cases d),λf g d=>?_⟩;cases d;refine⟨T,U,z,?_⟩;unfold wu;rw[q,M];omega
 rw[jg t];by_cases j:s.op=4
 .rw[jh j];clear e;rw[jg (by omega),jg u,jg t,jh j]at q;refine⟨λo d=>(by cases d),λf g d=>?_⟩;cases d;have A:=akh (m.get s.c) (v.all s.a);have hm':xH (rX v s m):=z.put _ _ A.1 A.2;obtain⟨C,D,E,F⟩:=ah6 h w j hm';refine⟨C,D,E,?_⟩;have hd:=h.depth k s w j;obtain⟨_,_,_,_,_,f5⟩:=x.jY j;have hdn:s.depth.toNat=(kU S k).length:=by omega
  have X:(rX v s m).left=m.left.set (kU S k).length (nY (bits .and .i64 (m.get s.c) (v.all s.a))):=by
   simp[rX,Mc.lY,hdn]
  rw[X,UG _ _ _ _ _ (aj _)]at F;have Y:∀y,(m.left.set (kU S k).length y).getD (kU S k).length 0=y:=λy=>by
   rw[aU,dY (by rw[z.len];omega)]
   rfl
  rw[Y]at F;have hp:=ard v hv (m.get s.c) s.a;have O:pop (nY (bits .and .i64 (m.get s.c) (v.all s.a)))<=(kQ s.a).toNat:=by omega
  have aa:=gQ (jw S (k+1)) O;have:wu S m k=jw S k+zx S m.left (kU S k):=rfl;rw[this,q];omega
 rw[jg j];by_cases N:s.op=5
 .rw[jh N];have V:=x.next G t (by omega);obtain⟨l,B,K,Q,C,D,E,F⟩:=e (je N);rw[jg (by omega),jg u,jg t,jg j]at q;rw[B];refine⟨λo d=>?_,λf g d=>?_⟩
  .split at d<;>cases d
  .split at d
   .cases d;exact⟨C,D,E,F⟩
   .cases d;refine⟨by omega,by omega,z,?_⟩;unfold wu;rw[q,I,L j (by omega)];omega
 rw[jg N];by_cases i:s.op=0
 .rw[jh i];obtain⟨l,B,K,Q,C,D,E,F⟩:=e (jf i);rw[B];refine⟨λo d=>(by cases d),λf g d=>?_⟩;cases d;exact⟨C,D,E,F⟩
 rw[jg i];have V:=x.next G t i;rw[jg (by omega),jg u,jg t,jg j]at q;by_cases R:s.op=36
 .rw[jh R];cases H:push v (m.get s.a) (m.get s.b) m with
  |none=>exact⟨λo d=>by cases d;simp,λf g d=>by cases d⟩
  |some m1=>
   refine⟨λo d=>(by cases d),λf g d=>?_⟩;cases d;refine⟨by omega,by omega,z.jD (agh H),?_⟩;unfold wu;rw[q,I,L j i,agh H];omega
 .rw[jg R];refine⟨λo d=>(by cases d),λf g d=>?_⟩;cases d;refine⟨by omega,by omega,z.jD (aiw _ _ _),?_⟩;unfold wu;rw[q,I,L j i,aiw];omega
theorem agL{v:Vw}{S:List St}{n:Nat}(h:Sound S n)(i:v.small){jF:List Int}:
 ∀(f:Nat)(k:Int)(m:Mc),0<=k->k<S.length->xH m->wu S m k.toNat<=f->(runs v S jF f k m).status≠2
 |0,k,m,h0,h1,hm,hf=>by
  have e:S[k.toNat]? =some S[k.toNat]:=bU (by omega);have:=ab9 h.ahead e;unfold wu at hf;omega
 |f+1,k,m,h0,h1,hm,hf=>by
  have e:S[k.toNat]? =some S[k.toNat]:=bU (by omega);obtain⟨r,s⟩:=auu (jF:=jF) h i e hm;simp only[runs,e];cases g:step v S jF k.toNat S[k.toNat] m with
  |inl o=>exact r o g
  |inr p=>
   obtain⟨j,q⟩:=p;obtain⟨a,b,c,d⟩:=s j q g;exact agL h i f j q a b c (by omega)
theorem SN{v:Vw}{S:List St}{jF:List Int}:∀(f g:Nat)(k:Int)(m:Mc),f<=g->(runs v S jF f k m).status≠2->runs v S jF g k m=runs v S jF f k m
 |0,_,_,_,_,h=>jl rfl h
 |f+1,0,_,_,hg,_=>by omega
 |f+1,g+1,k,m,hg,h=>by
  simp only[runs]at h⊢;cases a:S[k.toNat]?with
  |none=>rfl
  |some s=>
   rw[a]at h;simp only at h⊢;cases b:step v S jF k.toNat s m with
   |inl o=>rfl
   |inr p=>
    obtain⟨c,d⟩:=p;rw[b]at h;exact SN f g c d (by omega) h
def pW(S:List St)(a b c:Nat):Prop:=a<=b/\∀S':List St,LX S'->(∀k,a<=k->k<b->S'[k]? =S[k]?)->jw S' a<=c+jw S' b
theorem pW.nil(S:List St)(a:Nat):pW S a a 0:=⟨aj _,λ_ _ _=>by omega⟩
theorem pW.keep{S d:List St}{a b c:Nat}(h:pW S a b c)(m:∀k,a<=k->k<b->d[k]? =S[k]?):pW d a b c:=
 ⟨h.1,λg i j=>h.2 g i λk e f=>(j k e f).trans (m k e f)⟩
theorem pW.step{S:List St}{a b c:Nat}(h:pW S a b c){s:St}(o:S[b]? =some s)(i:¬s.op=2)(j:¬s.op=3)(m:¬s.op=4):pW S a (b+1) (c+1):=by
 refine⟨by have:=h.1;omega,λg e f=>?_⟩;have p:=h.2 g e λk n q=>f k n (by omega);have d:=ER e ((f b h.1 (by omega)).trans o);rw[jg i,jg j,jg m]at d;split at d<;>omega
theorem pW.ank{S:List St}{a o e c c1:Nat}(h:pW S a o c){s:St}(r:S[o]? =some s)(p:s.op=2)(g:s.kD=e)(b:pW S (o+1) e c1):pW S a e (c+(1+c1)):=by
 have q:=b.1;refine⟨by have:=h.1;omega,λi d f=>?_⟩;have t:=h.2 i d λk j m=>f k j (by omega);have n:=ER d ((f o h.1 (by omega)).trans r);have u:=b.2 i d λk j m=>f k (by have:=h.1;omega) m;rw[jg (by omega),jh p,g,bK]at n;omega
theorem pW.Fe{S:List St}{a o x e c c1 p:Nat}(h:pW S a o c){s t:St}(A:S[o]? =some s)(v:s.op=2)(C:s.kD=x+1)(g:pW S (o+1) x c1)(B:S[x]? =some t)(w:t.op=3)(n:t.kD=e)(b:pW S (x+1) e p):
 pW S a e (c+(1+max (c1+1) p)):=by
 have z:=g.1;have D:=b.1;have y:=h.1;refine⟨by omega,λi d f=>?_⟩;have E:=h.2 i d λk j m=>f k j (by omega);have r:=ER d ((f o h.1 (by omega)).trans A);have F:=g.2 i d λk j m=>f k (by omega) (by omega);have u:=ER d ((f x (by omega) (by omega)).trans B);have G:=b.2 i d λk j m=>f k (by omega) m;have q:s.kD.toNat=x+1:=by omega
 rw[jg (by omega),jh v,q]at r;rw[jg (by omega),jg (by omega),jh w,n,bK]at u;omega
theorem pW.loop{S:List St}{a o e c c1:Nat}(h:pW S a o c){s t:St}(w:S[o]? =some s)(q:s.op=4)(y:s.kD=(e:Int)+1)(b:pW S (o+1) e c1)(x:S[e]? =some t)(p:t.op=0):
 pW S a (e+1) (c+(1+(kQ s.a).toNat * (c1+1))):=by
 have v:=b.1;have r:=h.1;refine⟨by omega,λg d f=>?_⟩;have z:=h.2 g d λk i u=>f k i (by omega);have m:=ER d ((f o h.1 (by omega)).trans w);have A:=b.2 g d λk i u=>f k (by omega) (by omega);have n:=ER d ((f e (by omega) (by omega)).trans x);have j:s.kD.toNat=e+1:=by omega
 rw[jg (by omega),jg (by omega),jg (by omega),jh q,j]at m;rw[jh (jf p)]at n;have B:(kQ s.a).toNat * jw g (o+1)<=(kQ s.a).toNat * (c1+1):=Nat.mul_le_mul_left _ (by omega);omega
theorem LG{S a:List St}{e:Nat}(b:∀k,k<e->a[k]? =S[k]?):∀j,j<=e->kU a j=kU S j
 |0,_=>rfl
 |j+1,h=>by
  have c:=LG b j (by omega);simp only[kU,b j (by omega),c]
theorem H8{S:List St}{p:Nat}{s:St}(a:S[p]? =some s)(x:Int):∀j,kU (S.set p {s with kD:=x}) j=kU S j
 |0=>rfl
 |j+1=>by
  have c:=H8 a x j;have b:p<S.length:=by
   rcases dG p S.length with h|h
   .exact h
   .rw[bV h]at a;cases a
  by_cases d:p=j
  .subst d;simp only[kU,c,dY b,a]
  .simp only[kU,c,dQ d]
def BJ(S:List St):Nat->Nat->List Bk->Prop
 |_,_,[]=>False
 |d,e,[b]=>b.other=0/\kU S e=[]/\∃c:Nat,b.jC=c+d/\pW S 0 e c
 |d,e,b::b'::r=>(∃(o:Nat)(s:St),b.opener=o/\o<e/\S[o]? =some s/\
    ((s.op=4/\b.other=0/\b.before=0/\kU S e=o::kU S o/\∃c:Nat,b.jC=c+d/\pW S (o+1) e c)\/
     (s.op=2/\b.other=0/\b.before=0/\kU S e=kU S o/\∃c:Nat,b.jC=c+d/\pW S (o+1) e c)\/
     (s.op=2/\∃(x:Nat)(t:St),b.other=x/\o<x/\x<e/\S[x]? =some t/\t.op=3/\s.kD=(x:Int)+1/\kU S x=kU S o/\kU S e=kU S o/\
       (∃c1:Nat,b.before=(c1:Int)+1/\pW S (o+1) x c1)/\∃c:Nat,b.jC=c+d/\pW S (x+1) e c))/\
    BJ S 1 o (b'::r))
theorem BJ.keep{S u:List St}:∀{v:List Bk}{d e:Nat},BJ S d e v->(∀k,k<e->u[k]? =S[k]?)->BJ u d e v
 |[],_,_,h,_=>h.elim
 |[b],d,e,⟨h1,h2,c,h3,h4⟩,hk=>⟨h1,(LG hk e (aj _)).trans h2,c,h3,h4.keep λk _ a=>hk k a⟩
 |b::b'::r,d,e,⟨o,s,h1,h2,h3,h4,h5⟩,hk=>by
  have q:=LG hk e (aj _);have p:=LG hk o (by omega);refine⟨o,s,h1,h2,(hk o h2).trans h3,?_,h5.keep λk a=>hk k (by omega)⟩;rcases h4 with⟨g,i,j,f,c,m,n⟩|⟨g,i,j,f,c,m,n⟩|⟨g,x,t,i,j,f,m,n,w,y,z,⟨E,A,B⟩,c,C,D⟩
  .exact jf ⟨g,i,j,by rw[q,p];exact f,c,m,n.keep λk _ a=>hk k a⟩
  .exact je (jf ⟨g,i,j,by rw[q,p];exact f,c,m,n.keep λk _ a=>hk k a⟩)
  .refine je (je ⟨g,x,t,i,j,f,(hk x f).trans m,n,w,?_,by rw[q,p];exact z,⟨E,A,B.keep λk _ a=>hk k (by omega)⟩,c,C,D.keep λk _ a=>hk k a⟩);rw[LG hk x (by omega),p];exact y
theorem BJ.go{S j:List St}{d o:Nat}{b:Bk}{r:List Bk}(h:BJ S d o (b::r))(J:∀k,k<o->j[k]? =S[k]?){e w d':Nat}(K:o<=e)(i:kU j e=kU j o)
 (g:∀a c,pW j a o c->pW j a e (c+w)){f:Int}(N:f+d=b.jC+w+d'):BJ j d' e ({b with jC:=f}::r):=by
 have A:=h.keep J;cases r with
 |nil=>
  obtain⟨y,B,c,C,z⟩:=A;exact⟨y,i.trans B,c+w,by show f=_;push_cast;omega,g _ _ z⟩
 |cons b' r=>
  obtain⟨L,s,y,B,C,z,I⟩:=A;refine⟨L,s,y,by omega,C,?_,I⟩;rcases z with⟨m,n,p,u,c,v,q⟩|⟨m,n,p,u,c,v,q⟩|⟨m,x,t,n,p,u,v,q,D,E,F,G,c,M,H⟩
  .exact jf ⟨m,n,p,i.trans u,c+w,by show f=_;push_cast;omega,g _ _ q⟩
  .exact je (jf ⟨m,n,p,i.trans u,c+w,by show f=_;push_cast;omega,g _ _ q⟩)
  .exact je (je ⟨m,x,t,n,p,by omega,v,q,D,E,i.trans F,G,c+w,by show f=_;push_cast;omega,g _ _ H⟩)
def BD(b:Bk):Int:=if 0<b.other then b.other else b.opener
def opens:List Bk->List Int
 |[]=>[]
 |[_]=>[]
 |b::b'::r=>BD b::opens (b'::r)
theorem Sj(b:Bk)(r:List Bk)(x:Int):opens ({b with jC:=x}::r)=opens (b::r):=by
 cases r<;>rfl
structure yJ(n:Nat)(s:St):Prop where
 op:0<=s.op/\s.op<=36
 ifs:s.op=2->St.slot n s.a
 jY:s.op=4->St.slot n s.b/\St.slot n s.c/\0<=s.depth/\s.depth<8
 Js:s.op=5->St.slot n s.a
 Jl:s.op=36->St.slot n s.a/\St.slot n s.b
 works:¬s.op=1->¬s.op=2->¬s.op=3->¬s.op=4->¬s.op=5->¬s.op=0->¬s.op=36->s.TP n
theorem Ep{n m:Nat}(h:n<=m){x:Int}(a:St.slot n x):St.slot m x:=⟨a.1,by have:=a.2;omega⟩
theorem yJ.more{n m:Nat}(h:n<=m){s:St}(i:yJ n s):yJ m s:=by
 refine⟨i.op,λe=>Ep h (i.ifs e),λe=>⟨Ep h (i.jY e).1,Ep h (i.jY e).2.1,(i.jY e).2.2⟩,λe=>Ep h (i.Js e),λe=>⟨Ep h (i.Jl e).1,Ep h (i.Jl e).2⟩,λa b c d e f g=>?_⟩;obtain⟨o,p,j⟩:=i.works a b c d e f g;refine⟨o,Ep h p,?_⟩;rcases j with j|j|⟨j,k⟩
 .exact jf j
 .exact je (jf j)
 .refine je (je ⟨Ep h j,?_⟩);rcases k with k|⟨k,q⟩
  .exact jf k
  .exact je ⟨Ep h k,λe=>Ep h (q e)⟩
def Du(S:List St)(k:Nat)(s:St):Prop:=(s.op=2\/s.op=3\/s.op=4)->0<=s.kD/\k<s.kD.toNat/\s.kD<=S.length/\kU S s.kD.toNat=kU S k
structure Ii(S:List St)(k:Nat)(s:St):Prop where
 depth:s.op=4->s.depth=(kU S k).length
 back:(s.op=0\/s.op=5)->0<=s.kD/\(kU S k).head?=some s.kD.toNat
structure Inv(l:Ls):Prop where
 chain:BJ l.jB 0 l.jB.length l.jH.reverse
 jY:l.jY=(kU l.jB l.jB.length).reverse.map Int.ofNat
 eight:l.jY.length<=8
 each:∀(k:Nat)(s:St),l.jB[k]? =some s->yJ l.jD.toNat s/\Ii l.jB k s/\((k:Int)∉opens l.jH.reverse->Du l.jB k s)
 bound:∀b∈l.jH,0<=b.jC/\b.jC<=40000040/\0<=b.before/\b.before<=40000040
 jD:8<=l.jD/\l.jD<=2008
 bad:l.bad=false
section
theorem count_eq{l:Ls}{init:List Bk}{b:Bk}(h:l.jH=init++[b])(more:Int):
 l.count more={l with jH:=init++[{b with jC:=wrap64 (b.jC+more)}],bad:=l.bad||decide (40000040<wrap64 (b.jC+more))}:=by
 simp[Ls.count,Ls.top,h]
theorem add_eq{l:Ls}{init:List Bk}{b:Bk}(h:l.jH=init++[b])(st:St):
 mP l st={l with jB:=l.jB++[st],jH:=init++[{b with jC:=wrap64 (b.jC+1)}],bad:=l.bad||decide (40000040<wrap64 (b.jC+1))}:=by
 unfold mP;rw[count_eq (l:={l with jB:=l.jB++[st]}) h]
theorem TI{l:Ls}{init:List Bk}{b:Bk}(h:l.jH=init++[b]):l.top=b:=by simp[Ls.top,h]
theorem wrap_small{x:Int}(a:0<=x)(b:x<=9000000000):wrap64 x=x:=by unfold wrap64;omega
theorem Inv.split{l:Ls}(h:Inv l):∃a b,l.jH=a++[b]:=by
 have c:=h.chain;rcases List.eq_nil_or_concat l.jH with e|⟨a,b,e⟩
 .rw[e]at c;exact c.elim
 .exact⟨a,b,by rw[e,List.concat_eq_append]⟩
theorem Et(S:List St)(st:St):∀j,j<=S.length->kU (S++[st]) j=kU S j:=
 LG λ_ a=>aT a
theorem Po(S:List St)(st:St)(b:¬st.op=4)(a:¬st.op=0):kU (S++[st]) (S.length+1)=kU S S.length:=by
 simp only[kU,eu,jg b,jg a,Et S st _ (aj _)]
theorem Du.append{S:List St}{k:Nat}{s:St}(h:Du S k s)(f:k<S.length)(t:St):Du (S++[t]) k s:=λd=>by
 obtain⟨a,b,e,c⟩:=h d;refine⟨a,b,by simp;omega,?_⟩;rw[Et S t _ (by omega),Et S t _ (by omega)];exact c
theorem Ii.append{S:List St}{k:Nat}{s:St}(h:Ii S k s)(b:k<=S.length)(t:St):Ii (S++[t]) k s:=by
 have e:=Et S t k b;exact⟨λa=>by rw[e];exact h.depth a,λa=>by rw[e];exact h.back a⟩
theorem Du.FM{S:List St}{k:Nat}{s:St}(h:Du S k s){p:Nat}{b:St}(a:S[p]? =some b)(x:Int):Du (S.set p {b with kD:=x}) k s:=λg=>by
 obtain⟨c,d,e,f⟩:=h g;exact⟨c,d,by simpa using e,by rw[H8 a,H8 a];exact f⟩
theorem Ii.FM{S:List St}{k:Nat}{s:St}(h:Ii S k s){p:Nat}{c:St}(b:S[p]? =some c)(x:Int):Ii (S.set p {c with kD:=x}) k s:=
 ⟨λa=>by rw[H8 b];exact h.depth a,λa=>by rw[H8 b];exact h.back a⟩
theorem Nw{n:Nat}{s:St}(h:yJ n s)(x:Int):yJ n {s with kD:=x}:=⟨h.op,h.ifs,h.jY,h.Js,h.Jl,h.works⟩
theorem ajT{n:Nat}{s:St}(h:yJ n s)(x:Int)(a:0<=x)(b:x<8):yJ n {s with depth:=x}:=⟨h.op,h.ifs,λe=>⟨(h.jY e).1,(h.jY e).2.1,a,b⟩,h.Js,h.Jl,h.works⟩
theorem J6{S:List St}{k:Nat}{s:St}(h:S[k]? =some s):k<S.length:=by
 rcases dG k S.length with a|a
 .exact a
 .rw[bV a]at h;cases h
theorem get_append{S:List St}{t:St}{k:Nat}{s:St}(h:(S++[t])[k]? =some s):(k<S.length/\S[k]? =some s)\/(k=S.length/\s=t):=by
 have a:=J6 h;rw[aA,eG]at a;by_cases b:k<S.length
 .rw[aT b]at h;exact jf ⟨b,h⟩
 .have:k=S.length:=by omega
  subst this;rw[eu]at h;exact je ⟨rfl,(fZ h).symm⟩
variable {l:Ls}
theorem adU(h:Inv l)(st:St)(B:yJ l.jD.toNat st)(m:¬st.op=0)(z:¬st.op=2)(A:¬st.op=3)(i:¬st.op=4)(d:st.op=5->0<=st.kD/\(kU l.jB l.jB.length).head?=some st.kD.toNat)(p:(mP l st).bad=false):Inv (mP l st):=by
 obtain⟨t,b,e⟩:=h.split;have n:=h.bound b (by rw[e];simp);rw[add_eq e]at p⊢;rw[wrap_small (by omega) (by omega)]at p⊢;simp only[h.bad,gZ,decide_eq_false_iff_not]at p;have o:=h.chain;rw[e]at o;simp only[gq,fJ,ig,dP,fC]at o;refine⟨?_,?_,h.eight,?_,?_,h.jD,by simp[h.bad];omega⟩
 .simp only[gq,fJ,ig,dP,fC,aA,aF,bg];refine o.go (w:=1) (λk g=>aT g) (by omega) ?_ ?_ (by omega)
  .rw[Po _ _ i m,Et _ _ _ (aj _)]
  .exactλa c C=>C.step (eu ..) z A i
 .simp only[aA,aF,bg];rw[Po _ _ i m];exact h.jY
 .intro k s g;rcases get_append g with⟨g,q⟩|⟨rfl,rfl⟩
  .obtain⟨u,v,y⟩:=h.each k s q;refine⟨u,v.append (by omega) st,λr=>(y ?_).append g st⟩;rw[e];simp only[gq,fJ,ig,dP,fC]at r⊢
   rwa [Sj]at r
  .refine⟨B,⟨λj=>jl j i,λj=>?_⟩,λ_ j=>by omega⟩;rw[Et _ _ _ (aj _)];exact d (j.resolve_left m)
 .intro x f;rcases List.mem_append.1 f with f|f
  .exact h.bound x (by rw[e];exact eP _ f)
  .rw[cO]at f;subst f;exact⟨by show 0<=b.jC+1;omega,by show b.jC+1<=_;omega,n.2.2⟩
theorem adY(h:Inv l)(st:St)(C:yJ l.jD.toNat st)(d:st.op=2\/st.op=4)(D:st.op=4->st.depth=l.jY.length)(lo:List Int)(u:lo=if st.op=4 then l.jY++[(l.jB.length:Int)]else l.jY)(B:lo.length<=8)
 (o:(xR l st).bad=false):Inv {xR l st with jY:=lo}:=by
 obtain⟨n,b,e⟩:=h.split;have q:=h.bound b (by rw[e];simp);unfold xR at o⊢;rw[add_eq e]at o⊢;rw[wrap_small (by omega) (by omega)]at o⊢;simp only[h.bad,gZ,decide_eq_false_iff_not]at o;have r:=h.chain;rw[e]at r;simp only[gq,fJ,ig,dP,fC]at r;have p:=Et l.jB st _ (aj l.jB.length);have g:(l.jB++[st])[l.jB.length]? =some st:=eu ..;have m:BJ (l.jB++[st]) 1 l.jB.length ({b with jC:=b.jC+1}::n.reverse):=
  r.go (w:=0) (λk j=>aT j) (aj _) rfl (λa c F=>F) (by omega)
 refine⟨?_,?_,B,?_,?_,h.jD,by simp[h.bad];omega⟩
 .simp only[gq,fJ,ig,dP,aA,aF,bg,bZ];refine⟨l.jB.length,st,rfl,by omega,g,?_,m⟩;rcases d with d|d
  .refine je (jf ⟨d,rfl,rfl,?_,0,rfl,pW.nil _ _⟩);rw[Po _ _ (by omega) (by omega),p]
  .refine jf ⟨d,rfl,rfl,?_,0,rfl,pW.nil _ _⟩;simp only[kU,g,jh d]
 .simp only[aA,aF,bg];rw[u];rcases d with d|d
  .rw[jg (by omega),Po _ _ (by omega) (by omega)];exact h.jY
  .rw[jh d];simp only[kU,g,jh d,p,fJ,dF,<-h.jY]
   rfl
 .intro k s j;rcases get_append j with⟨j,t⟩|⟨rfl,rfl⟩
  .obtain⟨v,y,z⟩:=h.each k s t;refine⟨v,y.append (by omega) st,λi=>(z ?_).append j st⟩;rw[e];simp only[gq,fJ,ig,dP,bZ]at i⊢;simp only[opens,Sj]at i
   exactλE=>i (aI _ E)
  .refine⟨C,⟨λA=>?_,λG=>by omega⟩,λi=>?_⟩
   .rw[D A,p,h.jY];simp
   .simp only[gq,fJ,ig,dP,bZ,opens]at i;exact jl (by simp[BD]) i
 .intro x f;rcases List.mem_append.1 f with f|f
  .rcases List.mem_append.1 f with f|f
   .exact h.bound x (by rw[e];exact eP _ f)
   .rw[cO]at f;subst f;exact⟨by show 0<=b.jC+1;omega,by show b.jC+1<=_;omega,q.2.2⟩
  .rw[cO]at f;subst f;exact⟨by simp,by simp,by simp,by simp⟩
end
section
theorem Inv.split2{l:Ls}(h:Inv l)(f:¬l.jH.length=1):∃a c b,l.jH=a++[c]++[b]:=by
 obtain⟨g,b,e⟩:=h.split;rcases List.eq_nil_or_concat g with d|⟨a,c,d⟩
 .subst d;rw[e]at f;simp at f
 .exact⟨a,c,b,by rw[e,d,List.concat_eq_append]⟩
theorem Aw(init:List Bk)(a b:Bk):(init++[a]++[b]).reverse=b::a::init.reverse:=by simp
theorem SH(init:List Bk)(b:Bk):(init++[b]).reverse=b::init.reverse:=by simp
theorem Vy{S:List St}{p:Nat}{b:St}(c:S[p]? =some b){x:Int}{k:Nat}{s:St}(h:(S.set p {b with kD:=x})[k]? =some s):
 (k=p/\s={b with kD:=x})\/(k≠p/\S[k]? =some s):=by
 by_cases a:p=k
 .subst a;rw[dY (J6 c)]at h;exact jf ⟨rfl,(fZ h).symm⟩
 .rw[dQ a]at h;exact je ⟨λe=>a e.symm,h⟩
variable {l:Ls}
theorem adV(h:Inv l)(init:List Bk)(u b:Bk)(e:l.jH=init++[u]++[b])(o p:Nat)(so i:St)(ho:b.opener=o)(r:l.jB[o]? =some so)(E:¬so.op=4)(f:l.jB[p]? =some i)(d:BD b=p)
 (I:(uf l p i (init++[u]) b).bad=false):Inv (uf l p i (init++[u]) b):=by
 have ae:=h.bound b (by rw[e];simp);have zF:=h.bound u (by rw[e];simp);have hc:=h.chain;rw[e,Aw]at hc;obtain⟨z,s',c1,c2,Z,c4,c5⟩:=hc;have:z=o:=by omega
 subst this;rw[r]at Z;cases Z;unfold uf at I⊢;have q:=count_eq (l:={l with jB:=l.jB.set p {i with kD:=l.jB.length},jH:=init++[u]}) (init:=init) (b:=u) rfl (max b.jC b.before);rw[q]at I⊢;have af:0<=max b.jC b.before/\max b.jC b.before<=40000040:=by omega
 rw[wrap_small (by omega) (by omega)]at I⊢;simp only[h.bad,gZ,decide_eq_false_iff_not]at I;have R:=J6 f;have g:=H8 f (l.jB.length:Int);have m:(l.jB.set p {i with kD:=(l.jB.length:Int)})[p]? =some {i with kD:=(l.jB.length:Int)}:=dY R;have j:∀k,k≠p->(l.jB.set p {i with kD:=(l.jB.length:Int)})[k]? =l.jB[k]? :=λk y=>dQ (λe=>y e.symm);have F:z<=p/\(i.op=2\/i.op=3)/\kU l.jB l.jB.length=kU l.jB p/\kU l.jB l.jB.length=kU l.jB z:=by
  rcases c4 with⟨n,_⟩|⟨n,J,G,A,c,D,B⟩|⟨n,x,t,J,G,A,D,B,T,U,H,⟨L,V,W⟩,c,X,Y⟩
  .exact jl n E
  .have:p=z:=by unfold BD at d;rw[jg (by omega)]at d;omega
   subst this;rw[r]at f;cases f;exact⟨aj _,jf n,A,A⟩
  .have:p=x:=by unfold BD at d;rw[jh (by omega)]at d;omega
   subst this;rw[D]at f;cases f;exact⟨by omega,je B,H.trans U.symm,H⟩
 obtain⟨aa,ab,K,ac⟩:=F;refine⟨?_,?_,h.eight,?_,?_,h.jD,by simp[h.bad];omega⟩
 .rw[SH];simp only[iI];have v:=λk (y:k<z)=>j k (by omega);rcases c4 with⟨n,_⟩|⟨n,J,G,A,c,D,B⟩|⟨n,x,t,J,G,A,D,B,T,U,H,⟨L,V,W⟩,c,X,Y⟩
  .exact jl n E
  .have:p=z:=by unfold BD at d;rw[jg (by omega)]at d;omega
   subst this;rw[r]at f;cases f;refine c5.go (w:=1+c) v (by omega) (by rw[g,g];exact A) (λa L S=>S.ank m n rfl (B.keep λk y _=>j k (by omega))) ?_;rw[G];omega
  .have:p=x:=by unfold BD at d;rw[jh (by omega)]at d;omega
   subst this;refine c5.go (w:=1+max (L+1) c) v (by omega) (by rw[g,g];exact H) (λa c' S=>S.Fe ((j z (by omega)).trans r) n T (W.keep λk y _=>j k (by omega)) m (by rw[D]at f;cases f;exact B) rfl (Y.keep λk y _=>j k (by omega))) ?_;rw[V,X];omega
 .simp only[iI];rw[g];exact h.jY
 .intro k s y;have O:Du (l.jB.set p {i with kD:=(l.jB.length:Int)}) p {i with kD:=(l.jB.length:Int)}:=λ_=>by
   refine⟨by show(0:Int)<=l.jB.length;omega,by show p<((l.jB.length:Int)).toNat;omega,by simp,?_⟩;rw[g,g];rw[bK];exact K
  rcases Vy f y with⟨rfl,rfl⟩|⟨P,Q⟩
  .obtain⟨M,N,g3⟩:=h.each k i f;have ad:=N.FM f (l.jB.length:Int);refine⟨Nw M _,⟨λh4=>by have:i.op=4:=h4;omega,λh0=>by have:i.op=0\/i.op=5:=h0;omega⟩,λ_=>O⟩
  .obtain⟨M,N,g3⟩:=h.each k s Q;refine⟨M,N.FM f _,λhn=>(g3 ?_).FM f _⟩;rw[e,Aw];rw[SH,Sj]at hn;simp only[opens,d]
   exactλhm=>(dh.1 hm).elim (λe=>P (by omega)) hn
 .intro x C;rcases List.mem_append.1 C with C|C
  .exact h.bound x (by rw[e];simp[C])
  .rw[cO]at C;subst C;exact⟨by show 0<=u.jC+_;omega,by show u.jC+_<=_;omega,zF.2.2⟩
theorem anJ(h:Inv l)(init:List Bk)(t b:Bk)(e:l.jH=init++[t]++[b])(o:Nat)(so st:St)(Y:b.opener=o)(r:l.jB[o]? =some so)(Q:so.op=4)(C:st.op=0)(hb:yJ l.jD.toNat st)
 (n:(Bc l st o so).bad=false):Inv (Bc l st o so):=by
 have aa:=h.bound b (by rw[e];simp);have zF:=h.bound t (by rw[e];simp);have V:=h.chain;rw[e,Aw]at V;obtain⟨d,s',c1,c2,S,c4,c5⟩:=V;have:d=o:=by omega
 subst this;rw[r]at S;cases S;rcases c4 with⟨R,Z,a3,E,c,a5,a6⟩|⟨R,_⟩|⟨R,_⟩
 rotate_left
 .omega
 .omega
 unfold Bc GK at n⊢;have A:=add_eq e {st with kD:=d};rw[A]at n⊢;rw[wrap_small (x:=b.jC+1) (by omega) (by omega)]at n⊢;have O:(kQ so.a).toNat=kQ so.a:=by unfold kQ;split<;>rfl
 have N:kQ so.a=8\/kQ so.a=16:=by unfold kQ;split<;>simp
 have D:Ls.top {l with jB:=l.jB++[{st with kD:=(d:Int)}],jH:=init++[t]++[{b with jC:=b.jC+1}],bad:=l.bad||decide (40000040<b.jC+1)}={b with jC:=b.jC+1}:=by simp[Ls.top]
 rw[D]at n⊢;simp only[List.dropLast_concat]at n⊢;have q:=count_eq (l:={l with jB:=(l.jB++[{st with kD:=(d:Int)}]).set d {so with kD:=((l.jB++[{st with kD:=(d:Int)}]).length:Int)},jH:=init++[t],jY:=l.jY.dropLast,bad:=l.bad||decide (40000040<b.jC+1)}) (init:=init) (b:=t) rfl (wrap64 (kQ so.a * (b.jC+1)));have W:0<=kQ so.a * (b.jC+1)/\kQ so.a * (b.jC+1)<=1000000000:=by
  rcases N with U|U<;>rw[U]<;>omega
 rw[q]at n⊢;rw[wrap_small (x:=kQ so.a * (b.jC+1)) (by omega) (by omega)]at n⊢;rw[wrap_small (x:=t.jC+_) (by omega) (by omega)]at n⊢;simp only[h.bad,gZ,Bool.or_eq_false_iff,decide_eq_false_iff_not]at n;obtain⟨ab,ac⟩:=n;have P:=J6 r;have i:(l.jB++[{st with kD:=(d:Int)}]).length=l.jB.length+1:=by simp
 have z:(l.jB++[{st with kD:=(d:Int)}])[d]? =some so:=by rw[aT P];exact r
 have f:=H8 z ((l.jB++[{st with kD:=(d:Int)}]).length:Int);have p:=Et l.jB {st with kD:=(d:Int)};have m:((l.jB++[{st with kD:=(d:Int)}]).set d {so with kD:=((l.jB++[{st with kD:=(d:Int)}]).length:Int)})[d]? =some {so with kD:=((l.jB++[{st with kD:=(d:Int)}]).length:Int)}:=dY (by omega);have v:∀k,k≠d->k<l.jB.length->((l.jB++[{st with kD:=(d:Int)}]).set d {so with kD:=((l.jB++[{st with kD:=(d:Int)}]).length:Int)})[k]? =l.jB[k]? :=λk B hl=>by
  rw[dQ (λe=>B e.symm),aT hl]
 have j:((l.jB++[{st with kD:=(d:Int)}]).set d {so with kD:=((l.jB++[{st with kD:=(d:Int)}]).length:Int)})[l.jB.length]? =some {st with kD:=(d:Int)}:=by
  rw[dQ (by omega),eu]
 have g:kU (l.jB++[{st with kD:=(d:Int)}]) (l.jB.length+1)=kU l.jB d:=by
  simp only[kU,eu,p _ (aj _),E,jh C,List.tail_cons];rw[jg (by omega)]
 refine⟨?_,?_,?_,?_,?_,h.jD,by simp[h.bad];omega⟩
 .rw[SH];simp only[iI,i]at m j v⊢;refine c5.go (w:=1+(kQ so.a).toNat * (c+1)) (λk B=>v k (by omega) (by omega)) (by omega) ?_ (λa c' hs=>pW.loop (s:={so with kD:=((l.jB.length+1:Nat):Int)}) hs m Q (by show((l.jB.length+1:Nat):Int)=_;omega) (a6.keep λk B K=>v k (by omega) K) j C) ?_
  .rw[i]at f;rw[f,f,g,p d (by omega)]
  .have F:b.jC=c:=by omega
   rw[F]
   push_cast
   rw[O];omega
 .simp only[iI,i]at f⊢;rw[f,g,h.jY,E];simp
 .have:=h.eight;simp only[List.length_dropLast];omega
 .intro k s B;have J:Du ((l.jB++[{st with kD:=(d:Int)}]).set d {so with kD:=((l.jB++[{st with kD:=(d:Int)}]).length:Int)}) d {so with kD:=((l.jB++[{st with kD:=(d:Int)}]).length:Int)}:=λ_=>by
   refine⟨by show(0:Int)<=((l.jB++[{st with kD:=(d:Int)}]).length:Int);omega,by show d<((l.jB++[{st with kD:=(d:Int)}]).length:Int).toNat;omega,by simp,?_⟩;rw[f,f];rw[bK,i,g,p d (by omega)]
  rcases Vy z B with⟨rfl,rfl⟩|⟨M,u⟩
  .obtain⟨G,H,T⟩:=h.each k so r;have I:=(H.append (by omega) {st with kD:=(k:Int)}).FM z ((l.jB++[{st with kD:=(k:Int)}]).length:Int);exact⟨Nw G _,⟨I.depth,λh0=>by have:so.op=0\/so.op=5:=h0;omega⟩,λ_=>J⟩
  .rcases get_append u with⟨L,u⟩|⟨rfl,rfl⟩
   .obtain⟨G,H,T⟩:=h.each k s u;refine⟨G,(H.append (by omega) _).FM z _,λX=>((T ?_).append L _).FM z _⟩;rw[e,Aw];rw[SH,Sj]at X;simp only[opens,BD,Z,c1]
    exactλhm=>(dh.1 hm).elim (λe=>M (by simp at e;omega)) X
   .refine⟨Nw hb _,⟨λh4=>by have:st.op=4:=h4;omega,λ_=>⟨by show(0:Int)<=d;omega,?_⟩⟩,λ_ Y=>by have:st.op=2\/st.op=3\/st.op=4:=Y;omega⟩;rw[f,p _ (aj _),E];simp
 .intro x y;rcases List.mem_append.1 y with y|y
  .exact h.bound x (by rw[e];simp[y])
  .rw[cO]at y;subst y;exact⟨by show 0<=t.jC+_;omega,by show t.jC+_<=_;omega,zF.2.2⟩
end
end Hx
end Go.Proofs.YthllhabjfchgiaaGreatDoor
