import Derived.Test.YthllhabjfchgiaaGreatDoorHb02
import Derived.Laws.BitsAllLaws
set_option maxRecDepth 100000
set_option maxHeartbeats 8000000
set_option linter.unusedSimpArgs false
namespace Go.Proofs.YthllhabjfchgiaaGreatDoor
namespace Hx
open Go.RowKit
def zK:Nat->Nat->Nat
 |0,_=>0
 |n+1,x=>x%2+zK n (x/2)
theorem aek:∀(n a b:Nat),zK n (a&&&b)<=zK n b
 |0,_,_=>aj _
 |n+1,a,b=>by
  have h1:(a&&&b)/2=a/2&&&b/2:=Nat.and_div_two;have h2:(a&&&b)%2=(a%2)&&&(b%2):=by
   have:=Nat.and_mod_two_pow (a:=a) (b:=b) (n:=1);simpa using this
  have h3:(a%2)&&&(b%2)<=b%2:=Nat.and_le_right;have:=aek n (a/2) (b/2);simp only[zK,h1,h2];omega
theorem ael:∀(n x:Nat),0<x->x<2^n->zK n (x&&&(x-1))+1=zK n x
 |0,x,h0,h1=>by simp at h1;omega
 |n+1,x,h0,h1=>by
  have e1:(x&&&(x-1))/2=x/2&&&(x-1)/2:=Nat.and_div_two;have e2:(x&&&(x-1))%2=(x%2)&&&((x-1)%2):=by
   have:=Nat.and_mod_two_pow (a:=x) (b:=x-1) (n:=1);simpa using this
  simp only[zK,e1,e2];rcases Nat.mod_two_eq_zero_or_one x with h|h
  .have h2:(x-1)/2=x/2-1:=by omega
   have h3:=ael n (x/2) (by omega) (by rw[iY]at h1;omega);rw[h2,h];simp;omega
  .have h2:(x-1)/2=x/2:=by omega
   have h3:(x-1)%2=0:=by omega
   rw[h2,h3,h,Nat.and_self];simp;omega
def pop(x:Int):Nat:=zK 64 x.toNat
theorem aoH(x:Int)(h0:0<=x)(h1:x<18446744073709551616)(hx:x≠0):pop (bits .and .u64 x (IntKind.u64.wrap (x-1)))+1=pop x:=by
 have e:IntKind.u64.wrap (x-1)=x-1:=by rw[IntKind.wrap_u64];omega
 rw[e,u64_and x (x-1) h0 h1 (by omega) (by omega)];have h2:(x-1).toNat=x.toNat-1:=by omega
 rw[h2];unfold pop;rw[bK];exact ael 64 x.toNat (by omega) (by omega)
theorem al7(x y:Int):0<=bits .and .u64 x y/\bits .and .u64 x y<18446744073709551616:=⟨bits_lo_u64 _ _ _,by have:=bits_hi_u64 .and x y;omega⟩
theorem arI(a b:Int):pU (bits .and .i64 a b)=(((BitVec.ofInt 64 a).toNat&&&(BitVec.ofInt 64 b).toNat:Nat):Int):=by
 show IntKind.u64.wrap (IntKind.i64.wrap ((BitVec.ofInt 64 a&&&BitVec.ofInt 64 b).toNat:Int))=_;rw[BitVec.toNat_and];have h:(BitVec.ofInt 64 a).toNat&&&(BitVec.ofInt 64 b).toNat<2^64:=Nat.and_lt_two_pow _ (BitVec.isLt _);generalize (BitVec.ofInt 64 a).toNat&&&(BitVec.ofInt 64 b).toNat=X at *;rw[IntKind.wrap_u64];simp only[IntKind.wrap,IntKind.bits,IntKind.signed];omega
theorem V8(k:Nat)(h:k<=16):zK 64 (BitVec.ofInt 64 (tk k)).toNat=k/\zK 64 (BitVec.ofInt 64 (wrap64 (tk k * 65536))).toNat=k:=by
 have:∀k:Fin 17,zK 64 (BitVec.ofInt 64 (tk k.1)).toNat=k.1/\zK 64 (BitVec.ofInt 64 (wrap64 (tk k.1 * 65536))).toNat=k.1:=by decide+kernel
 exact this ⟨k,by omega⟩
def Vw.small(v:Vw):Prop:=v.pO.length<=8/\v.qB.length<=16/\v.qy.length<=16
theorem aoG(v:Vw)(hv:v.small)(x l:Int):(pop (pU (bits .and .i64 x (v.all l))):Int)<=kQ l:=by
 rw[arI];unfold pop;rw[bK];have h1:=aek 64 (BitVec.ofInt 64 x).toNat (BitVec.ofInt 64 (v.all l)).toNat;have h2:(zK 64 (BitVec.ofInt 64 (v.all l)).toNat:Int)<=kQ l:=by
  obtain⟨a,b,c⟩:=hv;unfold Vw.all kQ;by_cases h:l=0
  .rw[jl h,jl h,(V8 _ (by omega)).1];omega
  .rw[jk h,jk h];by_cases h':l=1
   .rw[jl h',(V8 _ b).1];omega
   .rw[jk h',(V8 _ c).2];omega
 omega
theorem ahX(x y:Int):0<=pU (bits .and .i64 x y)/\pU (bits .and .i64 x y)<18446744073709551616:=EU _
def x9(S:List St):Nat->Nat->Nat
 |0,_=>0
 |f+1,k=>match S[k]?with
  |none=>0
  |some s=>
   if s.op=0\/s.op=1 then 1
   else if s.op=2 then 1+max (x9 S f (k+1)) (x9 S f s.ku.toNat)
   else if s.op=3 then 1+x9 S f s.ku.toNat
   else if s.op=4 then 1+(kQ s.a).toNat * x9 S f (k+1)+x9 S f s.ku.toNat
   else 1+x9 S f (k+1)
def jy(S:List St)(k:Nat):Nat:=x9 S (S.length-k) k
def J9(S:List St):Prop:=∀(k:Nat)(s:St),S[k]? =some s->(s.op=2\/s.op=3\/s.op=4)->k<s.ku.toNat
theorem OH(S:List St)(f k:Nat)(h:S.length<=k):x9 S f k=0:=by
 cases f with
 |zero=>rfl
 |succ f=>simp only[x9,bV h]
theorem OI{S:List St}(hS:J9 S):∀(f g k:Nat),S.length-k<=f->S.length-k<=g->x9 S f k=x9 S g k
 |0,g,k,h1,_=>by rw[OH S g k (by omega),OH S 0 k (by omega)]
 |f+1,0,k,_,h2=>by rw[OH S _ k (by omega),OH S 0 k (by omega)]
 |f+1,g+1,k,h1,h2=>by
  cases hk:S[k]?with
  |none=>simp only[x9,hk]
  |some s=>
   have e1:=OI hS f g (k+1) (by omega) (by omega);simp only[x9,hk];by_cases hj:s.op=2\/s.op=3\/s.op=4
   .have:=hS k s hk hj;rw[e1,OI hS f g s.ku.toNat (by omega) (by omega)]
   .have h2:¬s.op=2:=λe=>hj (ji e);have h3:¬s.op=3:=λe=>hj (jh (ji e));have h4:¬s.op=4:=λe=>hj (jh (jh e));simp only[jk h2,jk h3,jk h4,e1]
theorem D9{S:List St}(hS:J9 S){k:Nat}{s:St}(hk:S[k]? =some s):jy S k=
 if s.op=0\/s.op=1 then 1
 else if s.op=2 then 1+max (jy S (k+1)) (jy S s.ku.toNat)
 else if s.op=3 then 1+jy S s.ku.toNat
 else if s.op=4 then 1+(kQ s.a).toNat * jy S (k+1)+jy S s.ku.toNat
 else 1+jy S (k+1):=by
 have hlt:k<S.length:=by
  rcases dG k S.length with h|h
  .exact h
  .rw[bV h]at hk;cases hk
 obtain⟨f,hf⟩:∃f,S.length-k=f+1:=⟨S.length-k-1,by omega⟩;have e1:x9 S f (k+1)=jy S (k+1):=OI hS _ _ _ (by omega) (aj _);unfold jy at *;rw[hf];simp only[x9,hk,e1];by_cases hj:s.op=2\/s.op=3\/s.op=4
 .have:=hS k s hk hj;rw[OI hS f (S.length-s.ku.toNat) s.ku.toNat (by omega) (aj _)]
 .have h2:¬s.op=2:=λe=>hj (ji e);have h3:¬s.op=3:=λe=>hj (jh (ji e));have h4:¬s.op=4:=λe=>hj (jh (jh e));simp only[jk h2,jk h3,jk h4]
theorem aav{S:List St}(hS:J9 S){k:Nat}{s:St}(hk:S[k]? =some s):1<=jy S k:=by
 rw[D9 hS hk];repeat' split
 all_goals omega
def kW(S:List St):Nat->List Nat
 |0=>[]
 |k+1=>match S[k]?with
  |none=>kW S k
  |some s=>if s.op=4 then k::kW S k else if s.op=0 then (kW S k).tail else kW S k
theorem afE(S:List St)(k:Nat):∀(p:Nat)(r:List Nat),kW S k=p::r->∃s,S[p]? =some s/\s.op=4/\r=kW S p/\p<k:=by
 induction k using Nat.strongRecOn with
 |_ k ih=>
  intro p r h;cases k with
  |zero=>cases h
  |succ k=>
   simp only[kW]at h;cases hk:S[k]?with
   |none=>
    rw[hk]at h;obtain⟨s,h1,h2,h3,h4⟩:=ih k (by omega) p r h;exact⟨s,h1,h2,h3,by omega⟩
   |some s=>
    rw[hk]at h;simp only at h;by_cases h4:s.op=4
    .rw[jl h4]at h;cases h;exact⟨s,hk,h4,rfl,by omega⟩
    .rw[jk h4]at h;by_cases h0:s.op=0
     .rw[jl h0]at h;cases hq:kW S k with
      |nil=>rw[hq]at h;cases h
      |cons q t=>
       rw[hq]at h;obtain⟨s',h1,h2,h3,h5⟩:=ih k (by omega) q t hq;rw[List.tail_cons,h3]at h;obtain⟨s2,g1,g2,g3,g4⟩:=ih q (by omega) p r h;exact⟨s2,g1,g2,g3,by omega⟩
     .rw[jk h0]at h;obtain⟨s',h1,h2,h3,h5⟩:=ih k (by omega) p r h;exact⟨s',h1,h2,h3,by omega⟩
def yN(S:List St)(left:List Int):List Nat->Nat
 |[]=>0
 |p::r=>(match S[p]?with|none=>0|some s=>pop (left.getD r.length 0) * jy S (p+1)+jy S s.ku.toNat)+yN S left r
theorem Ti(S:List St)(left:List Int)(d:Nat)(x:Int):∀(r:List Nat),r.length<=d->yN S (left.set d x) r=yN S left r
 |[],_=>rfl
 |p::r,h=>by
  have h':r.length+1<=d:=by simpa using h
  have e:(left.set d x).getD r.length 0=left.getD r.length 0:=by
   rw[aU,aU,dQ (by omega)]
  simp only[yN,e,Ti S left d x r (by omega)]
def vM(S:List St)(m:Mc)(k:Nat):Nat:=jy S k+yN S m.left (kW S k)
structure Sound(S:List St)(n:Nat):Prop where
 fits:Fits S n
 OX:∀(k:Nat)(s:St),S[k]? =some s->(s.op=2\/s.op=3\/s.op=4)->k<s.ku.toNat/\kW S s.ku.toNat=kW S k
 depth:∀(k:Nat)(s:St),S[k]? =some s->s.op=4->s.depth=(kW S k).length
 back:∀(k:Nat)(s:St),S[k]? =some s->(s.op=0\/s.op=5)->(kW S k).head?=some s.ku.toNat
theorem Sound.ahead{S:List St}{n:Nat}(h:Sound S n):J9 S:=λk s hk ho=>(h.OX k s hk ho).1
structure wQ(m:Mc):Prop where
 len:m.left.length=8
 bd:∀x∈m.left,0<=x/\x<18446744073709551616
theorem wQ.at{m:Mc}(h:wQ m)(i:Int):0<=m.mV i/\m.mV i<18446744073709551616:=by
 unfold Mc.mV;rw[aU];cases he:m.left[i.toNat]?with
 |none=>simp
 |some x=>exact h.bd x (bT he)
theorem wQ.put{m:Mc}(h:wQ m)(i x:Int)(h0:0<=x)(h1:x<18446744073709551616):wQ (m.lU i x):=by
 refine⟨by simp[Mc.lU,h.len],λy hy=>?_⟩;rcases List.mem_or_eq_of_mem_set hy with h2|h2
 .exact h.bd y h2
 .subst h2;exact⟨h0,h1⟩
theorem wQ.jE{m m':Mc}(h:wQ m)(e:m'.left=m.left):wQ m':=⟨by rw[e];exact h.len,by rw[e];exact h.bd⟩
theorem aeC(m:Mc)(i x:Int):(m.put i x).left=m.left:=rfl
theorem aiT(s:St)(b:Bool)(m:Mc):(choose s b m).left=m.left:=by
 unfold choose;split<;>rfl
theorem agz(v:Vw)(s:St)(m:Mc):(work v s m).left=m.left:=by
 unfold work;repeat' split
 all_goals first|rfl|exact aiT _ _ _
theorem aeu{v:Vw}{i j:Int}{m m':Mc}(h:push v i j m=some m'):m'.left=m.left:=by
 unfold push at h;split at h
 .split at h
  .cases h
  .cases h;rfl
 .cases h;rfl
theorem agc{S:List St}{n:Nat}(h:Sound S n){p:Nat}{s:St}(hp:S[p]? =some s)(h4:s.op=4){m:Mc}(hm:wQ m):
 0<=(kR s p m).2/\(kR s p m).2<S.length/\wQ (kR s p m).1/\
  vM S (kR s p m).1 (kR s p m).2.toNat<=pop (m.left.getD (kW S p).length 0) * jy S (p+1)+jy S s.ku.toNat+yN S m.left (kW S p):=by
 have hd:=h.depth p s hp h4;obtain⟨f0,f1,f2,f3,f4,f5⟩:=(h.fits.each p s hp).jY h4;obtain⟨g1,g2⟩:=h.OX p s hp (jh (jh h4));have hnx:=(h.fits.each p s hp).next (by omega) (by omega) (by omega);have hdn:s.depth.toNat=(kW S p).length:=by omega
 have hbd:=hm.at s.depth;unfold kR;by_cases hz:m.mV s.depth=0
 .rw[jl hz];refine⟨f0,f1,hm,?_⟩;simp only[vM,g2];omega
 .rw[jk hz];have hpop:=aoH (m.mV s.depth) hbd.1 hbd.2 hz;have hlt:=al7 (m.mV s.depth) (IntKind.u64.wrap (m.mV s.depth-1));have akJ:kW S (p+1)=p::kW S p:=by
   simp only[kW,hp,jl h4]
  have e0:m.left.getD (kW S p).length 0=m.mV s.depth:=by
   unfold Mc.mV;rw[hdn]
  generalize bits .and .u64 (m.mV s.depth) (IntKind.u64.wrap (m.mV s.depth-1))=y at *;refine⟨by show(0:Int)<=(p:Int)+1;omega,by show((p:Int)+1)<_;omega,(hm.jE (aeC m s.b _)).put _ _ hlt.1 hlt.2,?_⟩;have e1:((p:Int)+1).toNat=p+1:=by omega
  rw[e1,e0];have ha:∀L:List Int,yN S L (p::kW S p)=pop (L.getD (kW S p).length 0) * jy S (p+1)+jy S s.ku.toNat+yN S L (kW S p):=λL=>by
   simp only[yN,hp]
  unfold vM;rw[akJ,ha];have e2:((m.put s.b (tz (m.mV s.depth))).lU s.depth y).left=m.left.set (kW S p).length y:=by
   simp[Mc.lU,aeC,hdn]
  rw[e2,Ti _ _ _ _ _ (aj _)];have e3:(m.left.set (kW S p).length y).getD (kW S p).length 0=y:=by
   rw[aU,dY (by rw[hm.len];omega)]
   rfl
  rw[e3,<-hpop,Nat.add_mul];omega
theorem aqQ{v:Vw}{S:List St}{n:Nat}(h:Sound S n)(hv:v.small){jG:List Int}{k:Nat}{s:St}(hk:S[k]? =some s){m:Mc}(hm:wQ m):
 (∀o,step v S jG k s m=.inl o->o.status≠2)/\
 (∀k' m',step v S jG k s m=.inr (k',m')->0<=k'/\k'<S.length/\wQ m'/\vM S m' k'.toNat+1<=vM S m k):=by
 have hf:=h.fits.each k s hk;have hc:=D9 h.ahead hk;have nx:¬s.op=4->¬s.op=0->kW S (k+1)=kW S k:=λa b=>by
  simp only[kW,hk,jk a,jk b]
 have ek:((k:Int)+1).toNat=k+1:=by omega
 have hback:(s.op=0\/s.op=5)->∃l,S[s.ku.toNat]? =some l/\l.op=4/\0<=s.ku/\0<=(kR l s.ku m).2/\(kR l s.ku m).2<S.length/\wQ (kR l s.ku m).1/\vM S (kR l s.ku m).1 (kR l s.ku m).2.toNat+1<=vM S m k:=by
  intro ho;have hb:=h.back k s hk ho;have h0:0<=s.ku:=by
   rcases ho with ho|ho
   .obtain⟨l,h0,_⟩:=hf.ends ho;exact h0
   .obtain⟨_,l,h0,_⟩:=hf.IC ho;exact h0
  cases hs:kW S k with
  |nil=>rw[hs]at hb;cases hb
  |cons p r=>
   rw[hs]at hb;simp only[List.head?_cons,bJ]at hb;obtain⟨l,l1,l2,l3,l4⟩:=afE S k p r hs;obtain⟨t1,t2,t3,t4⟩:=agc h l1 l2 hm;have hto:s.ku=(p:Int):=by omega
   rw[hto];refine⟨l,by simpa using l1,l2,by omega,t1,t2,t3,?_⟩;have:vM S m k=jy S k+((pop (m.left.getD r.length 0) * jy S (p+1)+jy S l.ku.toNat)+yN S m.left r):=by
    unfold vM;rw[hs];simp only[yN,l1]
   have hpos:=aav h.ahead hk;rw[this,l3];omega
 unfold step;by_cases h1:s.op=1
 .rw[jl h1];exact⟨λo ho=>by cases ho;simp,λk' m' ho=>by cases ho⟩
 rw[jk h1];by_cases h2:s.op=2
 .rw[jl h2];clear hback;obtain⟨_,f1,f2⟩:=hf.ifs h2;obtain⟨g1,g2⟩:=h.OX k s hk (ji h2);have hn:=hf.next h1 (by omega) (by omega);rw[jk (by omega),jl h2]at hc;refine⟨λo ho=>(by cases ho),λk' m' ho=>?_⟩;cases ho;refine⟨by split<;>omega,by split<;>omega,hm,?_⟩;unfold vM;rw[hc];split
  .rw[g2];omega
  .rw[ek,nx (by omega) (by omega)];omega
 rw[jk h2];by_cases h3:s.op=3
 .rw[jl h3];clear hback;obtain⟨f1,f2⟩:=hf.aaD h3;obtain⟨g1,g2⟩:=h.OX k s hk (jh (ji h3));rw[jk (by omega),jk h2,jl h3]at hc;refine⟨λo ho=>(by cases ho),λk' m' ho=>?_⟩;cases ho;refine⟨f1,f2,hm,?_⟩;unfold vM;rw[hc,g2];omega
 rw[jk h3];by_cases h4:s.op=4
 .rw[jl h4];clear hback;rw[jk (by omega),jk h2,jk h3,jl h4]at hc;refine⟨λo ho=>(by cases ho),λk' m' ho=>?_⟩;cases ho;have hb:=ahX (m.get s.c) (v.all s.a);have hm':wQ (rG v s m):=hm.put _ _ hb.1 hb.2;obtain⟨t1,t2,t3,t4⟩:=agc h hk h4 hm';refine⟨t1,t2,t3,?_⟩;have hd:=h.depth k s hk h4;obtain⟨_,_,_,_,_,f5⟩:=hf.jY h4;have hdn:s.depth.toNat=(kW S k).length:=by omega
  have e1:(rG v s m).left=m.left.set (kW S k).length (pU (bits .and .i64 (m.get s.c) (v.all s.a))):=by
   simp[rG,Mc.lU,hdn]
  rw[e1,Ti _ _ _ _ _ (aj _)]at t4;have e3:∀y,(m.left.set (kW S k).length y).getD (kW S k).length 0=y:=λy=>by
   rw[aU,dY (by rw[hm.len];omega)]
   rfl
  rw[e3]at t4;have hp:=aoG v hv (m.get s.c) s.a;have hp2:pop (pU (bits .and .i64 (m.get s.c) (v.all s.a)))<=(kQ s.a).toNat:=by omega
  have hp3:=gQ (jy S (k+1)) hp2;have:vM S m k=jy S k+yN S m.left (kW S k):=rfl;rw[this,hc];omega
 rw[jk h4];by_cases h5:s.op=5
 .rw[jl h5];have hn:=hf.next h1 h3 (by omega);obtain⟨l,l1,l2,l3,t1,t2,t3,t4⟩:=hback (jh h5);rw[jk (by omega),jk h2,jk h3,jk h4]at hc;rw[l1];refine⟨λo ho=>?_,λk' m' ho=>?_⟩
  .split at ho<;>cases ho
  .split at ho
   .cases ho;exact⟨t1,t2,t3,t4⟩
   .cases ho;refine⟨by omega,by omega,hm,?_⟩;unfold vM;rw[hc,ek,nx h4 (by omega)];omega
 rw[jk h5];by_cases h0:s.op=0
 .rw[jl h0];obtain⟨l,l1,l2,l3,t1,t2,t3,t4⟩:=hback (ji h0);rw[l1];refine⟨λo ho=>(by cases ho),λk' m' ho=>?_⟩;cases ho;exact⟨t1,t2,t3,t4⟩
 rw[jk h0];have hn:=hf.next h1 h3 h0;rw[jk (by omega),jk h2,jk h3,jk h4]at hc;by_cases Ht:s.op=36
 .rw[jl Ht];cases hpu:push v (m.get s.a) (m.get s.b) m with
  |none=>exact⟨λo ho=>by cases ho;simp,λk' m' ho=>by cases ho⟩
  |some m1=>
   refine⟨λo ho=>(by cases ho),λk' m' ho=>?_⟩;cases ho;refine⟨by omega,by omega,hm.jE (aeu hpu),?_⟩;unfold vM;rw[hc,ek,nx h4 h0,aeu hpu];omega
 .rw[jk Ht];refine⟨λo ho=>(by cases ho),λk' m' ho=>?_⟩;cases ho;refine⟨by omega,by omega,hm.jE (agz _ _ _),?_⟩;unfold vM;rw[hc,ek,nx h4 h0,agz];omega
theorem aeW{v:Vw}{S:List St}{n:Nat}(h:Sound S n)(hv:v.small){jG:List Int}:
 ∀(f:Nat)(k:Int)(m:Mc),0<=k->k<S.length->wQ m->vM S m k.toNat<=f->(runs v S jG f k m).status≠2
 |0,k,m,h0,h1,hm,hf=>by
  have hk:S[k.toNat]? =some S[k.toNat]:=bU (by omega);have:=aav h.ahead hk;unfold vM at hf;omega
 |f+1,k,m,h0,h1,hm,hf=>by
  have hk:S[k.toNat]? =some S[k.toNat]:=bU (by omega);obtain⟨g1,g2⟩:=aqQ (jG:=jG) h hv hk hm;simp only[runs,hk];cases hs:step v S jG k.toNat S[k.toNat] m with
  |inl o=>exact g1 o hs
  |inr p=>
   obtain⟨k',m'⟩:=p;obtain⟨a,b,c,d⟩:=g2 k' m' hs;exact aeW h hv f k' m' a b c (by omega)
theorem QV{v:Vw}{S:List St}{jG:List Int}:∀(f g:Nat)(k:Int)(m:Mc),f<=g->(runs v S jG f k m).status≠2->runs v S jG g k m=runs v S jG f k m
 |0,_,_,_,_,h=>jq rfl h
 |f+1,0,_,_,hg,_=>by omega
 |f+1,g+1,k,m,hg,h=>by
  simp only[runs]at h⊢;cases hk:S[k.toNat]?with
  |none=>rfl
  |some s=>
   rw[hk]at h;simp only at h⊢;cases hs:step v S jG k.toNat s m with
   |inl o=>rfl
   |inr p=>
    obtain⟨k',m'⟩:=p;rw[hs]at h;exact QV f g k' m' (by omega) h
def pI(S:List St)(a b c:Nat):Prop:=a<=b/\∀S':List St,J9 S'->(∀k,a<=k->k<b->S'[k]? =S[k]?)->jy S' a<=c+jy S' b
theorem pI.nil(S:List St)(a:Nat):pI S a a 0:=⟨aj _,λ_ _ _=>by omega⟩
theorem pI.keep{S S2:List St}{a b c:Nat}(h:pI S a b c)(hk:∀k,a<=k->k<b->S2[k]? =S[k]?):pI S2 a b c:=
 ⟨h.1,λS' h1 h2=>h.2 S' h1 λk ha hb=>(h2 k ha hb).trans (hk k ha hb)⟩
theorem pI.step{S:List St}{a b c:Nat}(h:pI S a b c){s:St}(hs:S[b]? =some s)(h2:¬s.op=2)(h3:¬s.op=3)(h4:¬s.op=4):pI S a (b+1) (c+1):=by
 refine⟨by have:=h.1;omega,λS' h1 hS=>?_⟩;have e1:=h.2 S' h1 λk ha hb=>hS k ha (by omega);have e2:=D9 h1 ((hS b h.1 (by omega)).trans hs);rw[jk h2,jk h3,jk h4]at e2;split at e2<;>omega
theorem pI.akT{S:List St}{a o e c c1:Nat}(h:pI S a o c){s:St}(hs:S[o]? =some s)(h2:s.op=2)(hto:s.ku=e)(hin:pI S (o+1) e c1):pI S a e (c+(1+c1)):=by
 have hoe:=hin.1;refine⟨by have:=h.1;omega,λS' h1 hS=>?_⟩;have e1:=h.2 S' h1 λk ha hb=>hS k ha (by omega);have e2:=D9 h1 ((hS o h.1 (by omega)).trans hs);have e3:=hin.2 S' h1 λk ha hb=>hS k (by have:=h.1;omega) hb;rw[jk (by omega),jl h2,hto,bK]at e2;omega
theorem pI.Es{S:List St}{a o x e c c1 c2:Nat}(h:pI S a o c){s t:St}(hs:S[o]? =some s)(h2:s.op=2)(hto:s.ku=x+1)(hin:pI S (o+1) x c1)(ht:S[x]? =some t)(h3:t.op=3)(htt:t.ku=e)(hin2:pI S (x+1) e c2):
 pI S a e (c+(1+max (c1+1) c2)):=by
 have hox:=hin.1;have hxe:=hin2.1;have hao:=h.1;refine⟨by omega,λS' h1 hS=>?_⟩;have e1:=h.2 S' h1 λk ha hb=>hS k ha (by omega);have e2:=D9 h1 ((hS o h.1 (by omega)).trans hs);have e3:=hin.2 S' h1 λk ha hb=>hS k (by omega) (by omega);have e4:=D9 h1 ((hS x (by omega) (by omega)).trans ht);have e5:=hin2.2 S' h1 λk ha hb=>hS k (by omega) hb;have UK:s.ku.toNat=x+1:=by omega
 rw[jk (by omega),jl h2,UK]at e2;rw[jk (by omega),jk (by omega),jl h3,htt,bK]at e4;omega
theorem pI.loop{S:List St}{a o e c c1:Nat}(h:pI S a o c){s t:St}(hs:S[o]? =some s)(h4:s.op=4)(hto:s.ku=(e:Int)+1)(hin:pI S (o+1) e c1)(ht:S[e]? =some t)(h0:t.op=0):
 pI S a (e+1) (c+(1+(kQ s.a).toNat * (c1+1))):=by
 have hoe:=hin.1;have hao:=h.1;refine⟨by omega,λS' h1 hS=>?_⟩;have e1:=h.2 S' h1 λk ha hb=>hS k ha (by omega);have e2:=D9 h1 ((hS o h.1 (by omega)).trans hs);have e3:=hin.2 S' h1 λk ha hb=>hS k (by omega) (by omega);have e4:=D9 h1 ((hS e (by omega) (by omega)).trans ht);have UK:s.ku.toNat=e+1:=by omega
 rw[jk (by omega),jk (by omega),jk (by omega),jl h4,UK]at e2;rw[jl (ji h0)]at e4;have e5:(kQ s.a).toNat * jy S' (o+1)<=(kQ s.a).toNat * (c1+1):=Nat.mul_le_mul_left _ (by omega);omega
theorem JZ{S S2:List St}{e:Nat}(hk:∀k,k<e->S2[k]? =S[k]?):∀j,j<=e->kW S2 j=kW S j
 |0,_=>rfl
 |j+1,h=>by
  have h1:=JZ hk j (by omega);simp only[kW,hk j (by omega),h1]
theorem Gt{S:List St}{p:Nat}{s:St}(hp:S[p]? =some s)(x:Int):∀j,kW (S.set p {s with ku:=x}) j=kW S j
 |0=>rfl
 |j+1=>by
  have h1:=Gt hp x j;have hlt:p<S.length:=by
   rcases dG p S.length with h|h
   .exact h
   .rw[bV h]at hp;cases hp
  by_cases hj:p=j
  .subst hj;simp only[kW,h1,dY hlt,hp]
  .simp only[kW,h1,dQ hj]
def AP(S:List St):Nat->Nat->List Bk->Prop
 |_,_,[]=>False
 |d,e,[b]=>b.other=0/\kW S e=[]/\∃c:Nat,b.jD=c+d/\pI S 0 e c
 |d,e,b::b'::r=>(∃(o:Nat)(s:St),b.opener=o/\o<e/\S[o]? =some s/\
    ((s.op=4/\b.other=0/\b.before=0/\kW S e=o::kW S o/\∃c:Nat,b.jD=c+d/\pI S (o+1) e c)\/
     (s.op=2/\b.other=0/\b.before=0/\kW S e=kW S o/\∃c:Nat,b.jD=c+d/\pI S (o+1) e c)\/
     (s.op=2/\∃(x:Nat)(t:St),b.other=x/\o<x/\x<e/\S[x]? =some t/\t.op=3/\s.ku=(x:Int)+1/\kW S x=kW S o/\kW S e=kW S o/\
       (∃c1:Nat,b.before=(c1:Int)+1/\pI S (o+1) x c1)/\∃c:Nat,b.jD=c+d/\pI S (x+1) e c))/\
    AP S 1 o (b'::r))
theorem AP.keep{S S2:List St}:∀{bs:List Bk}{d e:Nat},AP S d e bs->(∀k,k<e->S2[k]? =S[k]?)->AP S2 d e bs
 |[],_,_,h,_=>h.elim
 |[b],d,e,⟨h1,h2,c,h3,h4⟩,hk=>⟨h1,(JZ hk e (aj _)).trans h2,c,h3,h4.keep λk _ hb=>hk k hb⟩
 |b::b'::r,d,e,⟨o,s,h1,h2,h3,h4,h5⟩,hk=>by
  have ke:=JZ hk e (aj _);have ko:=JZ hk o (by omega);refine⟨o,s,h1,h2,(hk o h2).trans h3,?_,h5.keep λk hb=>hk k (by omega)⟩;rcases h4 with⟨a1,a2,a3,a4,c,a5,a6⟩|⟨a1,a2,a3,a4,c,a5,a6⟩|⟨a1,x,t,a2,a3,a4,a5,a6,a7,a8,a9,⟨c1,b1,b2⟩,c,b3,b4⟩
  .exact ji ⟨a1,a2,a3,by rw[ke,ko];exact a4,c,a5,a6.keep λk _ hb=>hk k hb⟩
  .exact jh (ji ⟨a1,a2,a3,by rw[ke,ko];exact a4,c,a5,a6.keep λk _ hb=>hk k hb⟩)
  .refine jh (jh ⟨a1,x,t,a2,a3,a4,(hk x a4).trans a5,a6,a7,?_,by rw[ke,ko];exact a9,⟨c1,b1,b2.keep λk _ hb=>hk k (by omega)⟩,c,b3,b4.keep λk _ hb=>hk k hb⟩);rw[JZ hk x (by omega),ko];exact a8
theorem AP.go{S S2:List St}{d o:Nat}{b:Bk}{r:List Bk}(h:AP S d o (b::r))(hk:∀k,k<o->S2[k]? =S[k]?){e w d':Nat}(hoe:o<=e)(hst:kW S2 e=kW S2 o)
 (hseg:∀a c,pI S2 a o c->pI S2 a e (c+w)){need':Int}(hn:need'+d=b.jD+w+d'):AP S2 d' e ({b with jD:=need'}::r):=by
 have h':=h.keep hk;cases r with
 |nil=>
  obtain⟨h1,h2,c,h3,h4⟩:=h';exact⟨h1,hst.trans h2,c+w,by show need'=_;push_cast;omega,hseg _ _ h4⟩
 |cons b' r=>
  obtain⟨o',s,h1,h2,h3,h4,h5⟩:=h';refine⟨o',s,h1,by omega,h3,?_,h5⟩;rcases h4 with⟨a1,a2,a3,a4,c,a5,a6⟩|⟨a1,a2,a3,a4,c,a5,a6⟩|⟨a1,x,t,a2,a3,a4,a5,a6,a7,a8,a9,b1,c,b3,b4⟩
  .exact ji ⟨a1,a2,a3,hst.trans a4,c+w,by show need'=_;push_cast;omega,hseg _ _ a6⟩
  .exact jh (ji ⟨a1,a2,a3,hst.trans a4,c+w,by show need'=_;push_cast;omega,hseg _ _ a6⟩)
  .exact jh (jh ⟨a1,x,t,a2,a3,by omega,a5,a6,a7,a8,hst.trans a9,b1,c+w,by show need'=_;push_cast;omega,hseg _ _ b4⟩)
def Aq(b:Bk):Int:=if 0<b.other then b.other else b.opener
def opens:List Bk->List Int
 |[]=>[]
 |[_]=>[]
 |b::b'::r=>Aq b::opens (b'::r)
theorem Qz(b:Bk)(r:List Bk)(x:Int):opens ({b with jD:=x}::r)=opens (b::r):=by
 cases r<;>rfl
structure xR(n:Nat)(s:St):Prop where
 op:0<=s.op/\s.op<=36
 ifs:s.op=2->St.slot n s.a
 jY:s.op=4->St.slot n s.b/\St.slot n s.c/\0<=s.depth/\s.depth<8
 IC:s.op=5->St.slot n s.a
 Iq:s.op=36->St.slot n s.a/\St.slot n s.b
 works:¬s.op=1->¬s.op=2->¬s.op=3->¬s.op=4->¬s.op=5->¬s.op=0->¬s.op=36->s.RJ n
theorem Dz{n m:Nat}(h:n<=m){x:Int}(hx:St.slot n x):St.slot m x:=⟨hx.1,by have:=hx.2;omega⟩
theorem xR.more{n m:Nat}(h:n<=m){s:St}(hb:xR n s):xR m s:=by
 refine⟨hb.op,λe=>Dz h (hb.ifs e),λe=>⟨Dz h (hb.jY e).1,Dz h (hb.jY e).2.1,(hb.jY e).2.2⟩,λe=>Dz h (hb.IC e),λe=>⟨Dz h (hb.Iq e).1,Dz h (hb.Iq e).2⟩,λa b c d e f g=>?_⟩;obtain⟨w1,w2,w3⟩:=hb.works a b c d e f g;refine⟨w1,Dz h w2,?_⟩;rcases w3 with w3|w3|⟨w3,w4⟩
 .exact ji w3
 .exact jh (ji w3)
 .refine jh (jh ⟨Dz h w3,?_⟩);rcases w4 with w4|⟨w4,w5⟩
  .exact ji w4
  .exact jh ⟨Dz h w4,λe=>Dz h (w5 e)⟩
def Cc(S:List St)(k:Nat)(s:St):Prop:=(s.op=2\/s.op=3\/s.op=4)->0<=s.ku/\k<s.ku.toNat/\s.ku<=S.length/\kW S s.ku.toNat=kW S k
structure GH(S:List St)(k:Nat)(s:St):Prop where
 depth:s.op=4->s.depth=(kW S k).length
 back:(s.op=0\/s.op=5)->0<=s.ku/\(kW S k).head?=some s.ku.toNat
structure Inv(l:Ls):Prop where
 chain:AP l.jC 0 l.jC.length l.jI.reverse
 jY:l.jY=(kW l.jC l.jC.length).reverse.map Int.ofNat
 eight:l.jY.length<=8
 each:∀(k:Nat)(s:St),l.jC[k]? =some s->xR l.jE.toNat s/\GH l.jC k s/\((k:Int)∉opens l.jI.reverse->Cc l.jC k s)
 bound:∀b∈l.jI,0<=b.jD/\b.jD<=40000040/\0<=b.before/\b.before<=40000040
 jE:8<=l.jE/\l.jE<=2008
 bad:l.bad=false
section
theorem count_eq{l:Ls}{init:List Bk}{b:Bk}(h:l.jI=init++[b])(more:Int):
 l.count more={l with jI:=init++[{b with jD:=wrap64 (b.jD+more)}],bad:=l.bad||decide (40000040<wrap64 (b.jD+more))}:=by
 simp[Ls.count,Ls.top,h]
theorem add_eq{l:Ls}{init:List Bk}{b:Bk}(h:l.jI=init++[b])(st:St):
 mF l st={l with jC:=l.jC++[st],jI:=init++[{b with jD:=wrap64 (b.jD+1)}],bad:=l.bad||decide (40000040<wrap64 (b.jD+1))}:=by
 unfold mF;rw[count_eq (l:={l with jC:=l.jC++[st]}) h]
theorem Rz{l:Ls}{init:List Bk}{b:Bk}(h:l.jI=init++[b]):l.top=b:=by simp[Ls.top,h]
theorem wrap_small{x:Int}(h0:0<=x)(h1:x<=9000000000):wrap64 x=x:=by unfold wrap64;omega
theorem Inv.split{l:Ls}(h:Inv l):∃init b,l.jI=init++[b]:=by
 have hc:=h.chain;rcases List.eq_nil_or_concat l.jI with e|⟨init,b,e⟩
 .rw[e]at hc;exact hc.elim
 .exact⟨init,b,by rw[e,List.concat_eq_append]⟩
theorem DC(S:List St)(st:St):∀j,j<=S.length->kW (S++[st]) j=kW S j:=
 JZ λ_ hk=>aT hk
theorem NS(S:List St)(st:St)(h4:¬st.op=4)(h0:¬st.op=0):kW (S++[st]) (S.length+1)=kW S S.length:=by
 simp only[kW,eu,jk h4,jk h0,DC S st _ (aj _)]
theorem Cc.append{S:List St}{k:Nat}{s:St}(h:Cc S k s)(hk:k<S.length)(t:St):Cc (S++[t]) k s:=λho=>by
 obtain⟨h0,h1,h2,h3⟩:=h ho;refine⟨h0,h1,by simp;omega,?_⟩;rw[DC S t _ (by omega),DC S t _ (by omega)];exact h3
theorem GH.append{S:List St}{k:Nat}{s:St}(h:GH S k s)(hk:k<=S.length)(t:St):GH (S++[t]) k s:=by
 have e:=DC S t k hk;exact⟨λho=>by rw[e];exact h.depth ho,λho=>by rw[e];exact h.back ho⟩
theorem Cc.EN{S:List St}{k:Nat}{s:St}(h:Cc S k s){p:Nat}{sp:St}(hp:S[p]? =some sp)(x:Int):Cc (S.set p {sp with ku:=x}) k s:=λho=>by
 obtain⟨h0,h1,h2,h3⟩:=h ho;exact⟨h0,h1,by simpa using h2,by rw[Gt hp,Gt hp];exact h3⟩
theorem GH.EN{S:List St}{k:Nat}{s:St}(h:GH S k s){p:Nat}{sp:St}(hp:S[p]? =some sp)(x:Int):GH (S.set p {sp with ku:=x}) k s:=
 ⟨λho=>by rw[Gt hp];exact h.depth ho,λho=>by rw[Gt hp];exact h.back ho⟩
theorem Le{n:Nat}{s:St}(h:xR n s)(x:Int):xR n {s with ku:=x}:=⟨h.op,h.ifs,h.jY,h.IC,h.Iq,h.works⟩
theorem ahB{n:Nat}{s:St}(h:xR n s)(x:Int)(h0:0<=x)(h1:x<8):xR n {s with depth:=x}:=⟨h.op,h.ifs,λe=>⟨(h.jY e).1,(h.jY e).2.1,h0,h1⟩,h.IC,h.Iq,h.works⟩
theorem Jj{S:List St}{k:Nat}{s:St}(h:S[k]? =some s):k<S.length:=by
 rcases dG k S.length with h'|h'
 .exact h'
 .rw[bV h']at h;cases h
theorem get_append{S:List St}{t:St}{k:Nat}{s:St}(h:(S++[t])[k]? =some s):(k<S.length/\S[k]? =some s)\/(k=S.length/\s=t):=by
 have hlt:=Jj h;rw[aA,eG]at hlt;by_cases hk:k<S.length
 .rw[aT hk]at h;exact ji ⟨hk,h⟩
 .have:k=S.length:=by omega
  subst this;rw[eu]at h;exact jh ⟨rfl,(fZ h).symm⟩
variable {l:Ls}
theorem ab9(h:Inv l)(st:St)(hb:xR l.jE.toNat st)(h0:¬st.op=0)(h2:¬st.op=2)(h3:¬st.op=3)(h4:¬st.op=4)(hback:st.op=5->0<=st.ku/\(kW l.jC l.jC.length).head?=some st.ku.toNat)(hg:(mF l st).bad=false):Inv (mF l st):=by
 obtain⟨init,b,e⟩:=h.split;have hbd:=h.bound b (by rw[e];simp);rw[add_eq e]at hg⊢;rw[wrap_small (by omega) (by omega)]at hg⊢;simp only[h.bad,ig,decide_eq_false_iff_not]at hg;have hc:=h.chain;rw[e]at hc;simp only[gq,fJ,iq,dP,fC]at hc;refine⟨?_,?_,h.eight,?_,?_,h.jE,by simp[h.bad];omega⟩
 .simp only[gq,fJ,iq,dP,fC,aA,aF,bg];refine hc.go (w:=1) (λk hk=>aT hk) (by omega) ?_ ?_ (by omega)
  .rw[NS _ _ h4 h0,DC _ _ _ (aj _)]
  .exactλa c hs=>hs.step (eu ..) h2 h3 h4
 .simp only[aA,aF,bg];rw[NS _ _ h4 h0];exact h.jY
 .intro k s hk;rcases get_append hk with⟨hk,hks⟩|⟨rfl,rfl⟩
  .obtain⟨g1,g2,g3⟩:=h.each k s hks;refine⟨g1,g2.append (by omega) st,λhn=>(g3 ?_).append hk st⟩;rw[e];simp only[gq,fJ,iq,dP,fC]at hn⊢
   rwa [Qz]at hn
  .refine⟨hb,⟨λho=>jq ho h4,λho=>?_⟩,λ_ ho=>by omega⟩;rw[DC _ _ _ (aj _)];exact hback (ho.resolve_left h0)
 .intro x hx;rcases List.mem_append.1 hx with hx|hx
  .exact h.bound x (by rw[e];exact eP _ hx)
  .rw[cO]at hx;subst hx;exact⟨by show 0<=b.jD+1;omega,by show b.jD+1<=_;omega,hbd.2.2⟩
theorem acg(h:Inv l)(st:St)(hb:xR l.jE.toNat st)(ho:st.op=2\/st.op=4)(hd:st.op=4->st.depth=l.jY.length)(lo:List Int)(hlo:lo=if st.op=4 then l.jY++[(l.jC.length:Int)]else l.jY)(h8:lo.length<=8)
 (hg:(wZ l st).bad=false):Inv {wZ l st with jY:=lo}:=by
 obtain⟨init,b,e⟩:=h.split;have hbd:=h.bound b (by rw[e];simp);unfold wZ at hg⊢;rw[add_eq e]at hg⊢;rw[wrap_small (by omega) (by omega)]at hg⊢;simp only[h.bad,ig,decide_eq_false_iff_not]at hg;have hc:=h.chain;rw[e]at hc;simp only[gq,fJ,iq,dP,fC]at hc;have ha:=DC l.jC st _ (aj l.jC.length);have hgn:(l.jC++[st])[l.jC.length]? =some st:=eu ..;have hout:AP (l.jC++[st]) 1 l.jC.length ({b with jD:=b.jD+1}::init.reverse):=
  hc.go (w:=0) (λk hk=>aT hk) (aj _) rfl (λa c hs=>hs) (by omega)
 refine⟨?_,?_,h8,?_,?_,h.jE,by simp[h.bad];omega⟩
 .simp only[gq,fJ,iq,dP,aA,aF,bg,bZ];refine⟨l.jC.length,st,rfl,by omega,hgn,?_,hout⟩;rcases ho with ho|ho
  .refine jh (ji ⟨ho,rfl,rfl,?_,0,rfl,pI.nil _ _⟩);rw[NS _ _ (by omega) (by omega),ha]
  .refine ji ⟨ho,rfl,rfl,?_,0,rfl,pI.nil _ _⟩;simp only[kW,hgn,jl ho]
 .simp only[aA,aF,bg];rw[hlo];rcases ho with ho|ho
  .rw[jk (by omega),NS _ _ (by omega) (by omega)];exact h.jY
  .rw[jl ho];simp only[kW,hgn,jl ho,ha,fJ,dF,<-h.jY]
   rfl
 .intro k s hk;rcases get_append hk with⟨hk,hks⟩|⟨rfl,rfl⟩
  .obtain⟨g1,g2,g3⟩:=h.each k s hks;refine⟨g1,g2.append (by omega) st,λhn=>(g3 ?_).append hk st⟩;rw[e];simp only[gq,fJ,iq,dP,bZ]at hn⊢;simp only[opens,Qz]at hn
   exactλhm=>hn (aI _ hm)
  .refine⟨hb,⟨λh4=>?_,λh0=>by omega⟩,λhn=>?_⟩
   .rw[hd h4,ha,h.jY];simp
   .simp only[gq,fJ,iq,dP,bZ,opens]at hn;exact jq (by simp[Aq]) hn
 .intro x hx;rcases List.mem_append.1 hx with hx|hx
  .rcases List.mem_append.1 hx with hx|hx
   .exact h.bound x (by rw[e];exact eP _ hx)
   .rw[cO]at hx;subst hx;exact⟨by show 0<=b.jD+1;omega,by show b.jD+1<=_;omega,hbd.2.2⟩
  .rw[cO]at hx;subst hx;exact⟨by simp,by simp,by simp,by simp⟩
end
section
theorem Inv.split2{l:Ls}(h:Inv l)(h2:¬l.jI.length=1):∃init bo b,l.jI=init++[bo]++[b]:=by
 obtain⟨i1,b,e⟩:=h.split;rcases List.eq_nil_or_concat i1 with e1|⟨init,bo,e1⟩
 .subst e1;rw[e]at h2;simp at h2
 .exact⟨init,bo,b,by rw[e,e1,List.concat_eq_append]⟩
theorem zM(init:List Bk)(bo b:Bk):(init++[bo]++[b]).reverse=b::bo::init.reverse:=by simp
theorem QL(init:List Bk)(b:Bk):(init++[b]).reverse=b::init.reverse:=by simp
theorem Ug{S:List St}{p:Nat}{sp:St}(hp:S[p]? =some sp){x:Int}{k:Nat}{s:St}(h:(S.set p {sp with ku:=x})[k]? =some s):
 (k=p/\s={sp with ku:=x})\/(k≠p/\S[k]? =some s):=by
 by_cases hk:p=k
 .subst hk;rw[dY (Jj hp)]at h;exact ji ⟨rfl,(fZ h).symm⟩
 .rw[dQ hk]at h;exact jh ⟨λe=>hk e.symm,h⟩
variable {l:Ls}
theorem acd(h:Inv l)(init:List Bk)(bo b:Bk)(e:l.jI=init++[bo]++[b])(o p:Nat)(so sp:St)(ho:b.opener=o)(hso:l.jC[o]? =some so)(hop:¬so.op=4)(hp:l.jC[p]? =some sp)(hpe:Aq b=p)
 (hg:(tu l p sp (init++[bo]) b).bad=false):Inv (tu l p sp (init++[bo]) b):=by
 have hbd:=h.bound b (by rw[e];simp);have Jp:=h.bound bo (by rw[e];simp);have hc:=h.chain;rw[e,zM]at hc;obtain⟨o',s',c1,c2,c3,c4,c5⟩:=hc;have:o'=o:=by omega
 subst this;rw[hso]at c3;cases c3;unfold tu at hg⊢;have hcount:=count_eq (l:={l with jC:=l.jC.set p {sp with ku:=l.jC.length},jI:=init++[bo]}) (init:=init) (b:=bo) rfl (max b.jD b.before);rw[hcount]at hg⊢;have hmx:0<=max b.jD b.before/\max b.jD b.before<=40000040:=by omega
 rw[wrap_small (by omega) (by omega)]at hg⊢;simp only[h.bad,ig,decide_eq_false_iff_not]at hg;have hpl:=Jj hp;have hst:=Gt hp (l.jC.length:Int);have hself:(l.jC.set p {sp with ku:=(l.jC.length:Int)})[p]? =some {sp with ku:=(l.jC.length:Int)}:=dY hpl;have hne:∀k,k≠p->(l.jC.set p {sp with ku:=(l.jC.length:Int)})[k]? =l.jC[k]? :=λk hk=>dQ (λe=>hk e.symm);have hop0:o'<=p/\(sp.op=2\/sp.op=3)/\kW l.jC l.jC.length=kW l.jC p/\kW l.jC l.jC.length=kW l.jC o':=by
  rcases c4 with⟨a1,_⟩|⟨a1,a2,a3,a4,c,a5,a6⟩|⟨a1,x,t,a2,a3,a4,a5,a6,a7,a8,a9,⟨cc,b1,b2⟩,c,b3,b4⟩
  .exact jq a1 hop
  .have:p=o':=by unfold Aq at hpe;rw[jk (by omega)]at hpe;omega
   subst this;rw[hso]at hp;cases hp;exact⟨aj _,ji a1,a4,a4⟩
  .have:p=x:=by unfold Aq at hpe;rw[jl (by omega)]at hpe;omega
   subst this;rw[a5]at hp;cases hp;exact⟨by omega,jh a6,a9.trans a8.symm,a9⟩
 obtain⟨hop1,hop2,akD,asy⟩:=hop0;refine⟨?_,?_,h.eight,?_,?_,h.jE,by simp[h.bad];omega⟩
 .rw[QL];simp only[iK];have hlow:=λk (hk:k<o')=>hne k (by omega);rcases c4 with⟨a1,_⟩|⟨a1,a2,a3,a4,c,a5,a6⟩|⟨a1,x,t,a2,a3,a4,a5,a6,a7,a8,a9,⟨cc,b1,b2⟩,c,b3,b4⟩
  .exact jq a1 hop
  .have:p=o':=by unfold Aq at hpe;rw[jk (by omega)]at hpe;omega
   subst this;rw[hso]at hp;cases hp;refine c5.go (w:=1+c) hlow (by omega) (by rw[hst,hst];exact a4) (λa cc hs=>hs.akT hself a1 rfl (a6.keep λk hk _=>hne k (by omega))) ?_;rw[a3];omega
  .have:p=x:=by unfold Aq at hpe;rw[jl (by omega)]at hpe;omega
   subst this;refine c5.go (w:=1+max (cc+1) c) hlow (by omega) (by rw[hst,hst];exact a9) (λa c' hs=>hs.Es ((hne o' (by omega)).trans hso) a1 a7 (b2.keep λk hk _=>hne k (by omega)) hself (by rw[a5]at hp;cases hp;exact a6) rfl (b4.keep λk hk _=>hne k (by omega))) ?_;rw[b1,b3];omega
 .simp only[iK];rw[hst];exact h.jY
 .intro k s hk;have hcl:Cc (l.jC.set p {sp with ku:=(l.jC.length:Int)}) p {sp with ku:=(l.jC.length:Int)}:=λ_=>by
   refine⟨by show(0:Int)<=l.jC.length;omega,by show p<((l.jC.length:Int)).toNat;omega,by simp,?_⟩;rw[hst,hst];rw[bK];exact akD
  rcases Ug hp hk with⟨rfl,rfl⟩|⟨hkp,hks⟩
  .obtain⟨g1,g2,g3⟩:=h.each k sp hp;have g2':=g2.EN hp (l.jC.length:Int);refine⟨Le g1 _,⟨λh4=>by have:sp.op=4:=h4;omega,λh0=>by have:sp.op=0\/sp.op=5:=h0;omega⟩,λ_=>hcl⟩
  .obtain⟨g1,g2,g3⟩:=h.each k s hks;refine⟨g1,g2.EN hp _,λhn=>(g3 ?_).EN hp _⟩;rw[e,zM];rw[QL,Qz]at hn;simp only[opens,hpe]
   exactλhm=>(dh.1 hm).elim (λe=>hkp (by omega)) hn
 .intro x hx;rcases List.mem_append.1 hx with hx|hx
  .exact h.bound x (by rw[e];simp[hx])
  .rw[cO]at hx;subst hx;exact⟨by show 0<=bo.jD+_;omega,by show bo.jD+_<=_;omega,Jp.2.2⟩
theorem alg(h:Inv l)(init:List Bk)(bo b:Bk)(e:l.jI=init++[bo]++[b])(o:Nat)(so st:St)(ho:b.opener=o)(hso:l.jC[o]? =some so)(hop:so.op=4)(hs0:st.op=0)(hb:xR l.jE.toNat st)
 (hg:(zY l st o so).bad=false):Inv (zY l st o so):=by
 have hbd:=h.bound b (by rw[e];simp);have Jp:=h.bound bo (by rw[e];simp);have hc:=h.chain;rw[e,zM]at hc;obtain⟨o',s',c1,c2,c3,c4,c5⟩:=hc;have:o'=o:=by omega
 subst this;rw[hso]at c3;cases c3;rcases c4 with⟨a1,a2,a3,a4,c,a5,a6⟩|⟨a1,_⟩|⟨a1,_⟩
 rotate_left
 .omega
 .omega
 unfold zY FQ at hg⊢;have hadd:=add_eq e {st with ku:=o'};rw[hadd]at hg⊢;rw[wrap_small (x:=b.jD+1) (by omega) (by omega)]at hg⊢;have hn1:(kQ so.a).toNat=kQ so.a:=by unfold kQ;split<;>rfl
 have hls:kQ so.a=8\/kQ so.a=16:=by unfold kQ;split<;>simp
 have htop:Ls.top {l with jC:=l.jC++[{st with ku:=(o':Int)}],jI:=init++[bo]++[{b with jD:=b.jD+1}],bad:=l.bad||decide (40000040<b.jD+1)}={b with jD:=b.jD+1}:=by simp[Ls.top]
 rw[htop]at hg⊢;simp only[List.dropLast_concat]at hg⊢;have hcount:=count_eq (l:={l with jC:=(l.jC++[{st with ku:=(o':Int)}]).set o' {so with ku:=((l.jC++[{st with ku:=(o':Int)}]).length:Int)},jI:=init++[bo],jY:=l.jY.dropLast,bad:=l.bad||decide (40000040<b.jD+1)}) (init:=init) (b:=bo) rfl (wrap64 (kQ so.a * (b.jD+1)));have hmul:0<=kQ so.a * (b.jD+1)/\kQ so.a * (b.jD+1)<=1000000000:=by
  rcases hls with h'|h'<;>rw[h']<;>omega
 rw[hcount]at hg⊢;rw[wrap_small (x:=kQ so.a * (b.jD+1)) (by omega) (by omega)]at hg⊢;rw[wrap_small (x:=bo.jD+_) (by omega) (by omega)]at hg⊢;simp only[h.bad,ig,Bool.or_eq_false_iff,decide_eq_false_iff_not]at hg;obtain⟨hg1,hg2⟩:=hg;have hol:=Jj hso;have hlen:(l.jC++[{st with ku:=(o':Int)}]).length=l.jC.length+1:=by simp
 have Dc:(l.jC++[{st with ku:=(o':Int)}])[o']? =some so:=by rw[aT hol];exact hso
 have hst:=Gt Dc ((l.jC++[{st with ku:=(o':Int)}]).length:Int);have hap:=DC l.jC {st with ku:=(o':Int)};have hself:((l.jC++[{st with ku:=(o':Int)}]).set o' {so with ku:=((l.jC++[{st with ku:=(o':Int)}]).length:Int)})[o']? =some {so with ku:=((l.jC++[{st with ku:=(o':Int)}]).length:Int)}:=dY (by omega);have hne:∀k,k≠o'->k<l.jC.length->((l.jC++[{st with ku:=(o':Int)}]).set o' {so with ku:=((l.jC++[{st with ku:=(o':Int)}]).length:Int)})[k]? =l.jC[k]? :=λk hk hl=>by
  rw[dQ (λe=>hk e.symm),aT hl]
 have hlast:((l.jC++[{st with ku:=(o':Int)}]).set o' {so with ku:=((l.jC++[{st with ku:=(o':Int)}]).length:Int)})[l.jC.length]? =some {st with ku:=(o':Int)}:=by
  rw[dQ (by omega),eu]
 have hnext:kW (l.jC++[{st with ku:=(o':Int)}]) (l.jC.length+1)=kW l.jC o':=by
  simp only[kW,eu,hap _ (aj _),a4,jl hs0,List.tail_cons];rw[jk (by omega)]
 refine⟨?_,?_,?_,?_,?_,h.jE,by simp[h.bad];omega⟩
 .rw[QL];simp only[iK,hlen]at hself hlast hne⊢;refine c5.go (w:=1+(kQ so.a).toNat * (c+1)) (λk hk=>hne k (by omega) (by omega)) (by omega) ?_ (λa c' hs=>pI.loop (s:={so with ku:=((l.jC.length+1:Nat):Int)}) hs hself hop (by show((l.jC.length+1:Nat):Int)=_;omega) (a6.keep λk hk hk2=>hne k (by omega) hk2) hlast hs0) ?_
  .rw[hlen]at hst;rw[hst,hst,hnext,hap o' (by omega)]
  .have a5':b.jD=c:=by omega
   rw[a5']
   push_cast
   rw[hn1];omega
 .simp only[iK,hlen]at hst⊢;rw[hst,hnext,h.jY,a4];simp
 .have:=h.eight;simp only[List.length_dropLast];omega
 .intro k s hk;have hcl:Cc ((l.jC++[{st with ku:=(o':Int)}]).set o' {so with ku:=((l.jC++[{st with ku:=(o':Int)}]).length:Int)}) o' {so with ku:=((l.jC++[{st with ku:=(o':Int)}]).length:Int)}:=λ_=>by
   refine⟨by show(0:Int)<=((l.jC++[{st with ku:=(o':Int)}]).length:Int);omega,by show o'<((l.jC++[{st with ku:=(o':Int)}]).length:Int).toNat;omega,by simp,?_⟩;rw[hst,hst];rw[bK,hlen,hnext,hap o' (by omega)]
  rcases Ug Dc hk with⟨rfl,rfl⟩|⟨hkp,hks⟩
  .obtain⟨g1,g2,g3⟩:=h.each k so hso;have g2':=(g2.append (by omega) {st with ku:=(k:Int)}).EN Dc ((l.jC++[{st with ku:=(k:Int)}]).length:Int);exact⟨Le g1 _,⟨g2'.depth,λh0=>by have:so.op=0\/so.op=5:=h0;omega⟩,λ_=>hcl⟩
  .rcases get_append hks with⟨hkl,hks⟩|⟨rfl,rfl⟩
   .obtain⟨g1,g2,g3⟩:=h.each k s hks;refine⟨g1,(g2.append (by omega) _).EN Dc _,λhn=>((g3 ?_).append hkl _).EN Dc _⟩;rw[e,zM];rw[QL,Qz]at hn;simp only[opens,Aq,a2,c1]
    exactλhm=>(dh.1 hm).elim (λe=>hkp (by simp at e;omega)) hn
   .refine⟨Le hb _,⟨λh4=>by have:st.op=4:=h4;omega,λ_=>⟨by show(0:Int)<=o';omega,?_⟩⟩,λ_ ho=>by have:st.op=2\/st.op=3\/st.op=4:=ho;omega⟩;rw[hst,hap _ (aj _),a4];simp
 .intro x hx;rcases List.mem_append.1 hx with hx|hx
  .exact h.bound x (by rw[e];simp[hx])
  .rw[cO]at hx;subst hx;exact⟨by show 0<=bo.jD+_;omega,by show bo.jD+_<=_;omega,Jp.2.2⟩
end
end Hx
end Go.Proofs.YthllhabjfchgiaaGreatDoor
