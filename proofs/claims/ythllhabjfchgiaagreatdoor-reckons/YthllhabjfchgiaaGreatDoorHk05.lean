import Derived.Test.YthllhabjfchgiaaGreatDoorHk04
set_option maxRecDepth 100000
set_option maxHeartbeats 8000000
set_option linter.unusedSimpArgs false
namespace Go.Proofs.YthllhabjfchgiaaGreatDoor
namespace Hx
open Go.RowKit
def yA(S:List St):Nat->Nat->Nat
 |0,_=>0
 |f+1,k=>match S[k]?with
  |none=>0
  |some s=>
   if s.op=0\/s.op=1 then 1
   else if s.op=2 then 1+max (yA S f (k+1)) (yA S f s.jY.toNat)
   else if s.op=3 then 1+yA S f s.jY.toNat
   else if s.op=4 then 1+(kR s.a).toNat * yA S f (k+1)+yA S f s.jY.toNat
   else 1+yA S f (k+1)
def jw(S:List St)(k:Nat):Nat:=yA S (S.length-k) k
def Kt(S:List St):Prop:=∀(k:Nat)(s:St),S[k]? =some s->(s.op=2\/s.op=3\/s.op=4)->k<s.jY.toNat
theorem OB(S:List St)(f k:Nat)(h:S.length<=k):yA S f k=0:=by
 cases f with
 |zero=>rfl
 |succ f=>simp only[yA,bV h]
theorem OC{S:List St}(hS:Kt S):∀(f g k:Nat),S.length-k<=f->S.length-k<=g->yA S f k=yA S g k
 |0,g,k,h1,_=>by rw[OB S g k (by omega),OB S 0 k (by omega)]
 |f+1,0,k,_,h2=>by rw[OB S _ k (by omega),OB S 0 k (by omega)]
 |f+1,g+1,k,h1,h2=>by
  cases hk:S[k]?with
  |none=>simp only[yA,hk]
  |some s=>
   have e1:=OC hS f g (k+1) (by omega) (by omega);simp only[yA,hk];by_cases hj:s.op=2\/s.op=3\/s.op=4
   .have:=hS k s hk hj;rw[e1,OC hS f g s.jY.toNat (by omega) (by omega)]
   .have h2:¬s.op=2:=λe=>hj (jf e);have h3:¬s.op=3:=λe=>hj (je (jf e));have h4:¬s.op=4:=λe=>hj (je (je e));simp only[jg h2,jg h3,jg h4,e1]
theorem Eb{S:List St}(hS:Kt S){k:Nat}{s:St}(hk:S[k]? =some s):jw S k=
 if s.op=0\/s.op=1 then 1
 else if s.op=2 then 1+max (jw S (k+1)) (jw S s.jY.toNat)
 else if s.op=3 then 1+jw S s.jY.toNat
 else if s.op=4 then 1+(kR s.a).toNat * jw S (k+1)+jw S s.jY.toNat
 else 1+jw S (k+1):=by
 have hlt:k<S.length:=by
  rcases dG k S.length with h|h
  .exact h
  .rw[bV h]at hk;cases hk
 obtain⟨f,hf⟩:∃f,S.length-k=f+1:=⟨S.length-k-1,by omega⟩;have e1:yA S f (k+1)=jw S (k+1):=OC hS _ _ _ (by omega) (aj _);unfold jw at *;rw[hf];simp only[yA,hk,e1];by_cases hj:s.op=2\/s.op=3\/s.op=4
 .have:=hS k s hk hj;rw[OC hS f (S.length-s.jY.toNat) s.jY.toNat (by omega) (aj _)]
 .have h2:¬s.op=2:=λe=>hj (jf e);have h3:¬s.op=3:=λe=>hj (je (jf e));have h4:¬s.op=4:=λe=>hj (je (je e));simp only[jg h2,jg h3,jg h4]
theorem aaF{S:List St}(hS:Kt S){k:Nat}{s:St}(hk:S[k]? =some s):1<=jw S k:=by
 rw[Eb hS hk];repeat' split
 all_goals omega
def kX(S:List St):Nat->List Nat
 |0=>[]
 |k+1=>match S[k]?with
  |none=>kX S k
  |some s=>if s.op=4 then k::kX S k else if s.op=0 then (kX S k).tail else kX S k
theorem agd(S:List St)(k:Nat):∀(p:Nat)(r:List Nat),kX S k=p::r->∃s,S[p]? =some s/\s.op=4/\r=kX S p/\p<k:=by
 induction k using Nat.strongRecOn with
 |_ k ih=>
  intro p r h;cases k with
  |zero=>cases h
  |succ k=>
   simp only[kX]at h;cases hk:S[k]?with
   |none=>
    rw[hk]at h;obtain⟨s,h1,h2,h3,h4⟩:=ih k (by omega) p r h;exact⟨s,h1,h2,h3,by omega⟩
   |some s=>
    rw[hk]at h;simp only at h;by_cases h4:s.op=4
    .rw[jh h4]at h;cases h;exact⟨s,hk,h4,rfl,by omega⟩
    .rw[jg h4]at h;by_cases h0:s.op=0
     .rw[jh h0]at h;cases hq:kX S k with
      |nil=>rw[hq]at h;cases h
      |cons q t=>
       rw[hq]at h;obtain⟨s',h1,h2,h3,h5⟩:=ih k (by omega) q t hq;rw[List.tail_cons,h3]at h;obtain⟨s2,g1,g2,g3,g4⟩:=ih q (by omega) p r h;exact⟨s2,g1,g2,g3,by omega⟩
     .rw[jg h0]at h;obtain⟨s',h1,h2,h3,h5⟩:=ih k (by omega) p r h;exact⟨s',h1,h2,h3,by omega⟩
def yQ(S:List St)(left:List Int):List Nat->Nat
 |[]=>0
 |p::r=>(match S[p]?with|none=>0|some s=>pop (left.getD r.length 0) * jw S (p+1)+jw S s.jY.toNat)+yQ S left r
theorem SG(S:List St)(left:List Int)(d:Nat)(x:Int):∀(r:List Nat),r.length<=d->yQ S (left.set d x) r=yQ S left r
 |[],_=>rfl
 |p::r,h=>by
  have h':r.length+1<=d:=by simpa using h
  have e:(left.set d x).getD r.length 0=left.getD r.length 0:=by
   rw[aU,aU,dQ (by omega)]
  simp only[yQ,e,SG S left d x r (by omega)]
def vS(S:List St)(m:Mc)(k:Nat):Nat:=jw S k+yQ S m.left (kX S k)
structure Sound(S:List St)(n:Nat):Prop where
 fits:Fits S n
 OQ:∀(k:Nat)(s:St),S[k]? =some s->(s.op=2\/s.op=3\/s.op=4)->k<s.jY.toNat/\kX S s.jY.toNat=kX S k
 depth:∀(k:Nat)(s:St),S[k]? =some s->s.op=4->s.depth=(kX S k).length
 back:∀(k:Nat)(s:St),S[k]? =some s->(s.op=0\/s.op=5)->(kX S k).head?=some s.jY.toNat
theorem Sound.ahead{S:List St}{n:Nat}(h:Sound S n):Kt S:=λk s hk ho=>(h.OQ k s hk ho).1
structure wZ(m:Mc):Prop where
 len:m.left.length=8
 bd:∀x∈m.left,0<=x/\x<18446744073709551616
theorem wZ.at{m:Mc}(h:wZ m)(i:Int):0<=m.ni i/\m.ni i<18446744073709551616:=by
 unfold Mc.ni;rw[aU];cases he:m.left[i.toNat]?with
 |none=>simp
 |some x=>exact h.bd x (bT he)
theorem wZ.put{m:Mc}(h:wZ m)(i x:Int)(h0:0<=x)(h1:x<18446744073709551616):wZ (m.lX i x):=by
 refine⟨by simp[Mc.lX,h.len],λy hy=>?_⟩;rcases List.mem_or_eq_of_mem_set hy with h2|h2
 .exact h.bd y h2
 .subst h2;exact⟨h0,h1⟩
theorem wZ.jD{m m':Mc}(h:wZ m)(e:m'.left=m.left):wZ m':=⟨by rw[e];exact h.len,by rw[e];exact h.bd⟩
theorem aeZ(m:Mc)(i x:Int):(m.put i x).left=m.left:=rfl
theorem ajN(s:St)(b:Bool)(m:Mc):(choose s b m).left=m.left:=by
 unfold choose;split<;>rfl
theorem ahc(v:Vw)(s:St)(m:Mc):(work v s m).left=m.left:=by
 unfold work;repeat' split
 all_goals first|rfl|exact ajN _ _ _
theorem aeR{v:Vw}{i j:Int}{m m':Mc}(h:push v i j m=some m'):m'.left=m.left:=by
 unfold push at h;split at h
 .split at h
  .cases h
  .cases h;rfl
 .cases h;rfl
theorem agM{S:List St}{n:Nat}(h:Sound S n){p:Nat}{s:St}(hp:S[p]? =some s)(h4:s.op=4){m:Mc}(hm:wZ m):
 0<=(kS s p m).2/\(kS s p m).2<S.length/\wZ (kS s p m).1/\
  vS S (kS s p m).1 (kS s p m).2.toNat<=pop (m.left.getD (kX S p).length 0) * jw S (p+1)+jw S s.jY.toNat+yQ S m.left (kX S p):=by
 have hd:=h.depth p s hp h4;obtain⟨f0,f1,f2,f3,f4,f5⟩:=(h.fits.each p s hp).jV h4;obtain⟨g1,g2⟩:=h.OQ p s hp (je (je h4));have hnx:=(h.fits.each p s hp).next (by omega) (by omega) (by omega);have hdn:s.depth.toNat=(kX S p).length:=by omega
 have hbd:=hm.at s.depth;unfold kS;by_cases hz:m.ni s.depth=0
 .rw[jh hz];refine⟨f0,f1,hm,?_⟩;simp only[vS,g2];omega
 .rw[jg hz];have hpop:=apD (m.ni s.depth) hbd.1 hbd.2 hz;have hlt:=amL (m.ni s.depth) (IntKind.u64.wrap (m.ni s.depth-1));have alM:kX S (p+1)=p::kX S p:=by
   simp only[kX,hp,jh h4]
  have e0:m.left.getD (kX S p).length 0=m.ni s.depth:=by
   unfold Mc.ni;rw[hdn]
  generalize bits .and .u64 (m.ni s.depth) (IntKind.u64.wrap (m.ni s.depth-1))=y at *;refine⟨by show(0:Int)<=(p:Int)+1;omega,by show((p:Int)+1)<_;omega,(hm.jD (aeZ m s.b _)).put _ _ hlt.1 hlt.2,?_⟩;have e1:((p:Int)+1).toNat=p+1:=by omega
  rw[e1,e0];have ha:∀L:List Int,yQ S L (p::kX S p)=pop (L.getD (kX S p).length 0) * jw S (p+1)+jw S s.jY.toNat+yQ S L (kX S p):=λL=>by
   simp only[yQ,hp]
  unfold vS;rw[alM,ha];have e2:((m.put s.b (tz (m.ni s.depth))).lX s.depth y).left=m.left.set (kX S p).length y:=by
   simp[Mc.lX,aeZ,hdn]
  rw[e2,SG _ _ _ _ _ (aj _)];have e3:(m.left.set (kX S p).length y).getD (kX S p).length 0=y:=by
   rw[aU,dY (by rw[hm.len];omega)]
   rfl
  rw[e3,<-hpop,Nat.add_mul];omega
theorem asY{v:Vw}{S:List St}{n:Nat}(h:Sound S n)(hv:v.small){jF:List Int}{k:Nat}{s:St}(hk:S[k]? =some s){m:Mc}(hm:wZ m):
 (∀o,step v S jF k s m=.inl o->o.status≠2)/\
 (∀k' m',step v S jF k s m=.inr (k',m')->0<=k'/\k'<S.length/\wZ m'/\vS S m' k'.toNat+1<=vS S m k):=by
 have hf:=h.fits.each k s hk;have hc:=Eb h.ahead hk;have nx:¬s.op=4->¬s.op=0->kX S (k+1)=kX S k:=λa b=>by
  simp only[kX,hk,jg a,jg b]
 have ek:((k:Int)+1).toNat=k+1:=by omega
 have hback:(s.op=0\/s.op=5)->∃l,S[s.jY.toNat]? =some l/\l.op=4/\0<=s.jY/\0<=(kS l s.jY m).2/\(kS l s.jY m).2<S.length/\wZ (kS l s.jY m).1/\vS S (kS l s.jY m).1 (kS l s.jY m).2.toNat+1<=vS S m k:=by
  intro ho;have hb:=h.back k s hk ho;have h0:0<=s.jY:=by
   rcases ho with ho|ho
   .obtain⟨l,h0,_⟩:=hf.ends ho;exact h0
   .obtain⟨_,l,h0,_⟩:=hf.Iq ho;exact h0
  cases hs:kX S k with
  |nil=>rw[hs]at hb;cases hb
  |cons p r=>
   rw[hs]at hb;simp only[List.head?_cons,bJ]at hb;obtain⟨l,l1,l2,l3,l4⟩:=agd S k p r hs;obtain⟨t1,t2,t3,t4⟩:=agM h l1 l2 hm;have hto:s.jY=(p:Int):=by omega
   rw[hto];refine⟨l,by simpa using l1,l2,by omega,t1,t2,t3,?_⟩;have:vS S m k=jw S k+((pop (m.left.getD r.length 0) * jw S (p+1)+jw S l.jY.toNat)+yQ S m.left r):=by
    unfold vS;rw[hs];simp only[yQ,l1]
   have hpos:=aaF h.ahead hk;rw[this,l3];omega
 unfold step;by_cases h1:s.op=1
 .rw[jh h1];exact⟨λo ho=>by cases ho;simp,λk' m' ho=>by cases ho⟩
 rw[jg h1];by_cases h2:s.op=2
 .rw[jh h2];clear hback;obtain⟨_,f1,f2⟩:=hf.ifs h2;obtain⟨g1,g2⟩:=h.OQ k s hk (jf h2);have hn:=hf.next h1 (by omega) (by omega);rw[jg (by omega),jh h2]at hc;refine⟨λo ho=>(by cases ho),λk' m' ho=>?_⟩;cases ho;refine⟨by split<;>omega,by split<;>omega,hm,?_⟩;unfold vS;rw[hc];split
  .rw[g2];omega
  .rw[ek,nx (by omega) (by omega)];omega
 rw[jg h2];by_cases h3:s.op=3
 .rw[jh h3];clear hback;obtain⟨f1,f2⟩:=hf.aaO h3;obtain⟨g1,g2⟩:=h.OQ k s hk (je (jf h3));rw[jg (by omega),jg h2,jh h3]at hc;refine⟨λo ho=>(by cases ho),λk' m' ho=>?_⟩;cases ho;refine⟨f1,f2,hm,?_⟩;unfold vS;rw[hc,g2];omega
 rw[jg h3];by_cases h4:s.op=4
 .rw[jh h4];clear hback;rw[jg (by omega),jg h2,jg h3,jh h4]at hc;refine⟨λo ho=>(by cases ho),λk' m' ho=>?_⟩;cases ho;have hb:=ajb (m.get s.c) (v.all s.a);have hm':wZ (rP v s m):=hm.put _ _ hb.1 hb.2;obtain⟨t1,t2,t3,t4⟩:=agM h hk h4 hm';refine⟨t1,t2,t3,?_⟩;have hd:=h.depth k s hk h4;obtain⟨_,_,_,_,_,f5⟩:=hf.jV h4;have hdn:s.depth.toNat=(kX S k).length:=by omega
  have e1:(rP v s m).left=m.left.set (kX S k).length (pY (bits .and .i64 (m.get s.c) (v.all s.a))):=by
   simp[rP,Mc.lX,hdn]
  rw[e1,SG _ _ _ _ _ (aj _)]at t4;have e3:∀y,(m.left.set (kX S k).length y).getD (kX S k).length 0=y:=λy=>by
   rw[aU,dY (by rw[hm.len];omega)]
   rfl
  rw[e3]at t4;have hp:=apC v hv (m.get s.c) s.a;have hp2:pop (pY (bits .and .i64 (m.get s.c) (v.all s.a)))<=(kR s.a).toNat:=by omega
  have hp3:=gQ (jw S (k+1)) hp2;have:vS S m k=jw S k+yQ S m.left (kX S k):=rfl;rw[this,hc];omega
 rw[jg h4];by_cases h5:s.op=5
 .rw[jh h5];have hn:=hf.next h1 h3 (by omega);obtain⟨l,l1,l2,l3,t1,t2,t3,t4⟩:=hback (je h5);rw[jg (by omega),jg h2,jg h3,jg h4]at hc;rw[l1];refine⟨λo ho=>?_,λk' m' ho=>?_⟩
  .split at ho<;>cases ho
  .split at ho
   .cases ho;exact⟨t1,t2,t3,t4⟩
   .cases ho;refine⟨by omega,by omega,hm,?_⟩;unfold vS;rw[hc,ek,nx h4 (by omega)];omega
 rw[jg h5];by_cases h0:s.op=0
 .rw[jh h0];obtain⟨l,l1,l2,l3,t1,t2,t3,t4⟩:=hback (jf h0);rw[l1];refine⟨λo ho=>(by cases ho),λk' m' ho=>?_⟩;cases ho;exact⟨t1,t2,t3,t4⟩
 rw[jg h0];have hn:=hf.next h1 h3 h0;rw[jg (by omega),jg h2,jg h3,jg h4]at hc;by_cases G5:s.op=36
 .rw[jh G5];cases hpu:push v (m.get s.a) (m.get s.b) m with
  |none=>exact⟨λo ho=>by cases ho;simp,λk' m' ho=>by cases ho⟩
  |some m1=>
   refine⟨λo ho=>(by cases ho),λk' m' ho=>?_⟩;cases ho;refine⟨by omega,by omega,hm.jD (aeR hpu),?_⟩;unfold vS;rw[hc,ek,nx h4 h0,aeR hpu];omega
 .rw[jg G5];refine⟨λo ho=>(by cases ho),λk' m' ho=>?_⟩;cases ho;refine⟨by omega,by omega,hm.jD (ahc _ _ _),?_⟩;unfold vS;rw[hc,ek,nx h4 h0,ahc];omega
theorem afz{v:Vw}{S:List St}{n:Nat}(h:Sound S n)(hv:v.small){jF:List Int}:
 ∀(f:Nat)(k:Int)(m:Mc),0<=k->k<S.length->wZ m->vS S m k.toNat<=f->(runs v S jF f k m).status≠2
 |0,k,m,h0,h1,hm,hf=>by
  have hk:S[k.toNat]? =some S[k.toNat]:=bU (by omega);have:=aaF h.ahead hk;unfold vS at hf;omega
 |f+1,k,m,h0,h1,hm,hf=>by
  have hk:S[k.toNat]? =some S[k.toNat]:=bU (by omega);obtain⟨g1,g2⟩:=asY (jF:=jF) h hv hk hm;simp only[runs,hk];cases hs:step v S jF k.toNat S[k.toNat] m with
  |inl o=>exact g1 o hs
  |inr p=>
   obtain⟨k',m'⟩:=p;obtain⟨a,b,c,d⟩:=g2 k' m' hs;exact afz h hv f k' m' a b c (by omega)
theorem QM{v:Vw}{S:List St}{jF:List Int}:∀(f g:Nat)(k:Int)(m:Mc),f<=g->(runs v S jF f k m).status≠2->runs v S jF g k m=runs v S jF f k m
 |0,_,_,_,_,h=>jl rfl h
 |f+1,0,_,_,hg,_=>by omega
 |f+1,g+1,k,m,hg,h=>by
  simp only[runs]at h⊢;cases hk:S[k.toNat]?with
  |none=>rfl
  |some s=>
   rw[hk]at h;simp only at h⊢;cases hs:step v S jF k.toNat s m with
   |inl o=>rfl
   |inr p=>
    obtain⟨k',m'⟩:=p;rw[hs]at h;exact QM f g k' m' (by omega) h
def pU(S:List St)(a b c:Nat):Prop:=a<=b/\∀S':List St,Kt S'->(∀k,a<=k->k<b->S'[k]? =S[k]?)->jw S' a<=c+jw S' b
theorem pU.nil(S:List St)(a:Nat):pU S a a 0:=⟨aj _,λ_ _ _=>by omega⟩
theorem pU.keep{S S2:List St}{a b c:Nat}(h:pU S a b c)(hk:∀k,a<=k->k<b->S2[k]? =S[k]?):pU S2 a b c:=
 ⟨h.1,λS' h1 h2=>h.2 S' h1 λk ha hb=>(h2 k ha hb).trans (hk k ha hb)⟩
theorem pU.step{S:List St}{a b c:Nat}(h:pU S a b c){s:St}(hs:S[b]? =some s)(h2:¬s.op=2)(h3:¬s.op=3)(h4:¬s.op=4):pU S a (b+1) (c+1):=by
 refine⟨by have:=h.1;omega,λS' h1 hS=>?_⟩;have e1:=h.2 S' h1 λk ha hb=>hS k ha (by omega);have e2:=Eb h1 ((hS b h.1 (by omega)).trans hs);rw[jg h2,jg h3,jg h4]at e2;split at e2<;>omega
theorem pU.alW{S:List St}{a o e c c1:Nat}(h:pU S a o c){s:St}(hs:S[o]? =some s)(h2:s.op=2)(hto:s.jY=e)(hin:pU S (o+1) e c1):pU S a e (c+(1+c1)):=by
 have hoe:=hin.1;refine⟨by have:=h.1;omega,λS' h1 hS=>?_⟩;have e1:=h.2 S' h1 λk ha hb=>hS k ha (by omega);have e2:=Eb h1 ((hS o h.1 (by omega)).trans hs);have e3:=hin.2 S' h1 λk ha hb=>hS k (by have:=h.1;omega) hb;rw[jg (by omega),jh h2,hto,bK]at e2;omega
theorem pU.Es{S:List St}{a o x e c c1 c2:Nat}(h:pU S a o c){s t:St}(hs:S[o]? =some s)(h2:s.op=2)(hto:s.jY=x+1)(hin:pU S (o+1) x c1)(ht:S[x]? =some t)(h3:t.op=3)(htt:t.jY=e)(hin2:pU S (x+1) e c2):
 pU S a e (c+(1+max (c1+1) c2)):=by
 have hox:=hin.1;have hxe:=hin2.1;have hao:=h.1;refine⟨by omega,λS' h1 hS=>?_⟩;have e1:=h.2 S' h1 λk ha hb=>hS k ha (by omega);have e2:=Eb h1 ((hS o h.1 (by omega)).trans hs);have e3:=hin.2 S' h1 λk ha hb=>hS k (by omega) (by omega);have e4:=Eb h1 ((hS x (by omega) (by omega)).trans ht);have e5:=hin2.2 S' h1 λk ha hb=>hS k (by omega) hb;have Ut:s.jY.toNat=x+1:=by omega
 rw[jg (by omega),jh h2,Ut]at e2;rw[jg (by omega),jg (by omega),jh h3,htt,bK]at e4;omega
theorem pU.loop{S:List St}{a o e c c1:Nat}(h:pU S a o c){s t:St}(hs:S[o]? =some s)(h4:s.op=4)(hto:s.jY=(e:Int)+1)(hin:pU S (o+1) e c1)(ht:S[e]? =some t)(h0:t.op=0):
 pU S a (e+1) (c+(1+(kR s.a).toNat * (c1+1))):=by
 have hoe:=hin.1;have hao:=h.1;refine⟨by omega,λS' h1 hS=>?_⟩;have e1:=h.2 S' h1 λk ha hb=>hS k ha (by omega);have e2:=Eb h1 ((hS o h.1 (by omega)).trans hs);have e3:=hin.2 S' h1 λk ha hb=>hS k (by omega) (by omega);have e4:=Eb h1 ((hS e (by omega) (by omega)).trans ht);have Ut:s.jY.toNat=e+1:=by omega
 rw[jg (by omega),jg (by omega),jg (by omega),jh h4,Ut]at e2;rw[jh (jf h0)]at e4;have e5:(kR s.a).toNat * jw S' (o+1)<=(kR s.a).toNat * (c1+1):=Nat.mul_le_mul_left _ (by omega);omega
theorem J6{S S2:List St}{e:Nat}(hk:∀k,k<e->S2[k]? =S[k]?):∀j,j<=e->kX S2 j=kX S j
 |0,_=>rfl
 |j+1,h=>by
  have h1:=J6 hk j (by omega);simp only[kX,hk j (by omega),h1]
theorem Gi{S:List St}{p:Nat}{s:St}(hp:S[p]? =some s)(x:Int):∀j,kX (S.set p {s with jY:=x}) j=kX S j
 |0=>rfl
 |j+1=>by
  have h1:=Gi hp x j;have hlt:p<S.length:=by
   rcases dG p S.length with h|h
   .exact h
   .rw[bV h]at hp;cases hp
  by_cases hj:p=j
  .subst hj;simp only[kX,h1,dY hlt,hp]
  .simp only[kX,h1,dQ hj]
def Bf(S:List St):Nat->Nat->List Bk->Prop
 |_,_,[]=>False
 |d,e,[b]=>b.other=0/\kX S e=[]/\∃c:Nat,b.jC=c+d/\pU S 0 e c
 |d,e,b::b'::r=>(∃(o:Nat)(s:St),b.opener=o/\o<e/\S[o]? =some s/\
    ((s.op=4/\b.other=0/\b.before=0/\kX S e=o::kX S o/\∃c:Nat,b.jC=c+d/\pU S (o+1) e c)\/
     (s.op=2/\b.other=0/\b.before=0/\kX S e=kX S o/\∃c:Nat,b.jC=c+d/\pU S (o+1) e c)\/
     (s.op=2/\∃(x:Nat)(t:St),b.other=x/\o<x/\x<e/\S[x]? =some t/\t.op=3/\s.jY=(x:Int)+1/\kX S x=kX S o/\kX S e=kX S o/\
       (∃c1:Nat,b.before=(c1:Int)+1/\pU S (o+1) x c1)/\∃c:Nat,b.jC=c+d/\pU S (x+1) e c))/\
    Bf S 1 o (b'::r))
theorem Bf.keep{S S2:List St}:∀{bs:List Bk}{d e:Nat},Bf S d e bs->(∀k,k<e->S2[k]? =S[k]?)->Bf S2 d e bs
 |[],_,_,h,_=>h.elim
 |[b],d,e,⟨h1,h2,c,h3,h4⟩,hk=>⟨h1,(J6 hk e (aj _)).trans h2,c,h3,h4.keep λk _ hb=>hk k hb⟩
 |b::b'::r,d,e,⟨o,s,h1,h2,h3,h4,h5⟩,hk=>by
  have ke:=J6 hk e (aj _);have ko:=J6 hk o (by omega);refine⟨o,s,h1,h2,(hk o h2).trans h3,?_,h5.keep λk hb=>hk k (by omega)⟩;rcases h4 with⟨a1,a2,a3,a4,c,a5,a6⟩|⟨a1,a2,a3,a4,c,a5,a6⟩|⟨a1,x,t,a2,a3,a4,a5,a6,a7,a8,a9,⟨c1,b1,b2⟩,c,b3,b4⟩
  .exact jf ⟨a1,a2,a3,by rw[ke,ko];exact a4,c,a5,a6.keep λk _ hb=>hk k hb⟩
  .exact je (jf ⟨a1,a2,a3,by rw[ke,ko];exact a4,c,a5,a6.keep λk _ hb=>hk k hb⟩)
  .refine je (je ⟨a1,x,t,a2,a3,a4,(hk x a4).trans a5,a6,a7,?_,by rw[ke,ko];exact a9,⟨c1,b1,b2.keep λk _ hb=>hk k (by omega)⟩,c,b3,b4.keep λk _ hb=>hk k hb⟩);rw[J6 hk x (by omega),ko];exact a8
theorem Bf.go{S S2:List St}{d o:Nat}{b:Bk}{r:List Bk}(h:Bf S d o (b::r))(hk:∀k,k<o->S2[k]? =S[k]?){e w d':Nat}(hoe:o<=e)(hst:kX S2 e=kX S2 o)
 (hseg:∀a c,pU S2 a o c->pU S2 a e (c+w)){need':Int}(hn:need'+d=b.jC+w+d'):Bf S2 d' e ({b with jC:=need'}::r):=by
 have h':=h.keep hk;cases r with
 |nil=>
  obtain⟨h1,h2,c,h3,h4⟩:=h';exact⟨h1,hst.trans h2,c+w,by show need'=_;push_cast;omega,hseg _ _ h4⟩
 |cons b' r=>
  obtain⟨o',s,h1,h2,h3,h4,h5⟩:=h';refine⟨o',s,h1,by omega,h3,?_,h5⟩;rcases h4 with⟨a1,a2,a3,a4,c,a5,a6⟩|⟨a1,a2,a3,a4,c,a5,a6⟩|⟨a1,x,t,a2,a3,a4,a5,a6,a7,a8,a9,b1,c,b3,b4⟩
  .exact jf ⟨a1,a2,a3,hst.trans a4,c+w,by show need'=_;push_cast;omega,hseg _ _ a6⟩
  .exact je (jf ⟨a1,a2,a3,hst.trans a4,c+w,by show need'=_;push_cast;omega,hseg _ _ a6⟩)
  .exact je (je ⟨a1,x,t,a2,a3,by omega,a5,a6,a7,a8,hst.trans a9,b1,c+w,by show need'=_;push_cast;omega,hseg _ _ b4⟩)
def AX(b:Bk):Int:=if 0<b.other then b.other else b.opener
def opens:List Bk->List Int
 |[]=>[]
 |[_]=>[]
 |b::b'::r=>AX b::opens (b'::r)
theorem Qu(b:Bk)(r:List Bk)(x:Int):opens ({b with jC:=x}::r)=opens (b::r):=by
 cases r<;>rfl
structure yw(n:Nat)(s:St):Prop where
 op:0<=s.op/\s.op<=36
 ifs:s.op=2->St.slot n s.a
 jV:s.op=4->St.slot n s.b/\St.slot n s.c/\0<=s.depth/\s.depth<8
 Iq:s.op=5->St.slot n s.a
 Ie:s.op=36->St.slot n s.a/\St.slot n s.b
 works:¬s.op=1->¬s.op=2->¬s.op=3->¬s.op=4->¬s.op=5->¬s.op=0->¬s.op=36->s.Rw n
theorem DF{n m:Nat}(h:n<=m){x:Int}(hx:St.slot n x):St.slot m x:=⟨hx.1,by have:=hx.2;omega⟩
theorem yw.more{n m:Nat}(h:n<=m){s:St}(hb:yw n s):yw m s:=by
 refine⟨hb.op,λe=>DF h (hb.ifs e),λe=>⟨DF h (hb.jV e).1,DF h (hb.jV e).2.1,(hb.jV e).2.2⟩,λe=>DF h (hb.Iq e),λe=>⟨DF h (hb.Ie e).1,DF h (hb.Ie e).2⟩,λa b c d e f g=>?_⟩;obtain⟨w1,w2,w3⟩:=hb.works a b c d e f g;refine⟨w1,DF h w2,?_⟩;rcases w3 with w3|w3|⟨w3,w4⟩
 .exact jf w3
 .exact je (jf w3)
 .refine je (je ⟨DF h w3,?_⟩);rcases w4 with w4|⟨w4,w5⟩
  .exact jf w4
  .exact je ⟨DF h w4,λe=>DF h (w5 e)⟩
def CS(S:List St)(k:Nat)(s:St):Prop:=(s.op=2\/s.op=3\/s.op=4)->0<=s.jY/\k<s.jY.toNat/\s.jY<=S.length/\kX S s.jY.toNat=kX S k
structure Gt(S:List St)(k:Nat)(s:St):Prop where
 depth:s.op=4->s.depth=(kX S k).length
 back:(s.op=0\/s.op=5)->0<=s.jY/\(kX S k).head?=some s.jY.toNat
structure Inv(l:Ls):Prop where
 chain:Bf l.jB 0 l.jB.length l.jH.reverse
 jV:l.jV=(kX l.jB l.jB.length).reverse.map Int.ofNat
 eight:l.jV.length<=8
 each:∀(k:Nat)(s:St),l.jB[k]? =some s->yw l.jD.toNat s/\Gt l.jB k s/\((k:Int)∉opens l.jH.reverse->CS l.jB k s)
 bound:∀b∈l.jH,0<=b.jC/\b.jC<=40000040/\0<=b.before/\b.before<=40000040
 jD:8<=l.jD/\l.jD<=2008
 bad:l.bad=false
section
theorem count_eq{l:Ls}{init:List Bk}{b:Bk}(h:l.jH=init++[b])(more:Int):
 l.count more={l with jH:=init++[{b with jC:=wrap64 (b.jC+more)}],bad:=l.bad||decide (40000040<wrap64 (b.jC+more))}:=by
 simp[Ls.count,Ls.top,h]
theorem add_eq{l:Ls}{init:List Bk}{b:Bk}(h:l.jH=init++[b])(st:St):
 mM l st={l with jB:=l.jB++[st],jH:=init++[{b with jC:=wrap64 (b.jC+1)}],bad:=l.bad||decide (40000040<wrap64 (b.jC+1))}:=by
 unfold mM;rw[count_eq (l:={l with jB:=l.jB++[st]}) h]
theorem Rl{l:Ls}{init:List Bk}{b:Bk}(h:l.jH=init++[b]):l.top=b:=by simp[Ls.top,h]
theorem wrap_small{x:Int}(h0:0<=x)(h1:x<=9000000000):wrap64 x=x:=by unfold wrap64;omega
theorem Inv.split{l:Ls}(h:Inv l):∃init b,l.jH=init++[b]:=by
 have hc:=h.chain;rcases List.eq_nil_or_concat l.jH with e|⟨init,b,e⟩
 .rw[e]at hc;exact hc.elim
 .exact⟨init,b,by rw[e,List.concat_eq_append]⟩
theorem DI(S:List St)(st:St):∀j,j<=S.length->kX (S++[st]) j=kX S j:=
 J6 λ_ hk=>aT hk
theorem NP(S:List St)(st:St)(h4:¬st.op=4)(h0:¬st.op=0):kX (S++[st]) (S.length+1)=kX S S.length:=by
 simp only[kX,eu,jg h4,jg h0,DI S st _ (aj _)]
theorem CS.append{S:List St}{k:Nat}{s:St}(h:CS S k s)(hk:k<S.length)(t:St):CS (S++[t]) k s:=λho=>by
 obtain⟨h0,h1,h2,h3⟩:=h ho;refine⟨h0,h1,by simp;omega,?_⟩;rw[DI S t _ (by omega),DI S t _ (by omega)];exact h3
theorem Gt.append{S:List St}{k:Nat}{s:St}(h:Gt S k s)(hk:k<=S.length)(t:St):Gt (S++[t]) k s:=by
 have e:=DI S t k hk;exact⟨λho=>by rw[e];exact h.depth ho,λho=>by rw[e];exact h.back ho⟩
theorem CS.EI{S:List St}{k:Nat}{s:St}(h:CS S k s){p:Nat}{sp:St}(hp:S[p]? =some sp)(x:Int):CS (S.set p {sp with jY:=x}) k s:=λho=>by
 obtain⟨h0,h1,h2,h3⟩:=h ho;exact⟨h0,h1,by simpa using h2,by rw[Gi hp,Gi hp];exact h3⟩
theorem Gt.EI{S:List St}{k:Nat}{s:St}(h:Gt S k s){p:Nat}{sp:St}(hp:S[p]? =some sp)(x:Int):Gt (S.set p {sp with jY:=x}) k s:=
 ⟨λho=>by rw[Gi hp];exact h.depth ho,λho=>by rw[Gi hp];exact h.back ho⟩
theorem Lh{n:Nat}{s:St}(h:yw n s)(x:Int):yw n {s with jY:=x}:=⟨h.op,h.ifs,h.jV,h.Iq,h.Ie,h.works⟩
theorem aiQ{n:Nat}{s:St}(h:yw n s)(x:Int)(h0:0<=x)(h1:x<8):yw n {s with depth:=x}:=⟨h.op,h.ifs,λe=>⟨(h.jV e).1,(h.jV e).2.1,h0,h1⟩,h.Iq,h.Ie,h.works⟩
theorem Ji{S:List St}{k:Nat}{s:St}(h:S[k]? =some s):k<S.length:=by
 rcases dG k S.length with h'|h'
 .exact h'
 .rw[bV h']at h;cases h
theorem get_append{S:List St}{t:St}{k:Nat}{s:St}(h:(S++[t])[k]? =some s):(k<S.length/\S[k]? =some s)\/(k=S.length/\s=t):=by
 have hlt:=Ji h;rw[aA,eG]at hlt;by_cases hk:k<S.length
 .rw[aT hk]at h;exact jf ⟨hk,h⟩
 .have:k=S.length:=by omega
  subst this;rw[eu]at h;exact je ⟨rfl,(fZ h).symm⟩
variable {l:Ls}
theorem acp(h:Inv l)(st:St)(hb:yw l.jD.toNat st)(h0:¬st.op=0)(h2:¬st.op=2)(h3:¬st.op=3)(h4:¬st.op=4)(hback:st.op=5->0<=st.jY/\(kX l.jB l.jB.length).head?=some st.jY.toNat)(hg:(mM l st).bad=false):Inv (mM l st):=by
 obtain⟨init,b,e⟩:=h.split;have hbd:=h.bound b (by rw[e];simp);rw[add_eq e]at hg⊢;rw[wrap_small (by omega) (by omega)]at hg⊢;simp only[h.bad,gZ,decide_eq_false_iff_not]at hg;have hc:=h.chain;rw[e]at hc;simp only[gq,fJ,ig,dP,fC]at hc;refine⟨?_,?_,h.eight,?_,?_,h.jD,by simp[h.bad];omega⟩
 .simp only[gq,fJ,ig,dP,fC,aA,aF,bg];refine hc.go (w:=1) (λk hk=>aT hk) (by omega) ?_ ?_ (by omega)
  .rw[NP _ _ h4 h0,DI _ _ _ (aj _)]
  .exactλa c hs=>hs.step (eu ..) h2 h3 h4
 .simp only[aA,aF,bg];rw[NP _ _ h4 h0];exact h.jV
 .intro k s hk;rcases get_append hk with⟨hk,hks⟩|⟨rfl,rfl⟩
  .obtain⟨g1,g2,g3⟩:=h.each k s hks;refine⟨g1,g2.append (by omega) st,λhn=>(g3 ?_).append hk st⟩;rw[e];simp only[gq,fJ,ig,dP,fC]at hn⊢
   rwa [Qu]at hn
  .refine⟨hb,⟨λho=>jl ho h4,λho=>?_⟩,λ_ ho=>by omega⟩;rw[DI _ _ _ (aj _)];exact hback (ho.resolve_left h0)
 .intro x hx;rcases List.mem_append.1 hx with hx|hx
  .exact h.bound x (by rw[e];exact eP _ hx)
  .rw[cO]at hx;subst hx;exact⟨by show 0<=b.jC+1;omega,by show b.jC+1<=_;omega,hbd.2.2⟩
theorem acw(h:Inv l)(st:St)(hb:yw l.jD.toNat st)(ho:st.op=2\/st.op=4)(hd:st.op=4->st.depth=l.jV.length)(lo:List Int)(hlo:lo=if st.op=4 then l.jV++[(l.jB.length:Int)]else l.jV)(h8:lo.length<=8)
 (hg:(xA l st).bad=false):Inv {xA l st with jV:=lo}:=by
 obtain⟨init,b,e⟩:=h.split;have hbd:=h.bound b (by rw[e];simp);unfold xA at hg⊢;rw[add_eq e]at hg⊢;rw[wrap_small (by omega) (by omega)]at hg⊢;simp only[h.bad,gZ,decide_eq_false_iff_not]at hg;have hc:=h.chain;rw[e]at hc;simp only[gq,fJ,ig,dP,fC]at hc;have ha:=DI l.jB st _ (aj l.jB.length);have hgn:(l.jB++[st])[l.jB.length]? =some st:=eu ..;have hout:Bf (l.jB++[st]) 1 l.jB.length ({b with jC:=b.jC+1}::init.reverse):=
  hc.go (w:=0) (λk hk=>aT hk) (aj _) rfl (λa c hs=>hs) (by omega)
 refine⟨?_,?_,h8,?_,?_,h.jD,by simp[h.bad];omega⟩
 .simp only[gq,fJ,ig,dP,aA,aF,bg,bZ];refine⟨l.jB.length,st,rfl,by omega,hgn,?_,hout⟩;rcases ho with ho|ho
  .refine je (jf ⟨ho,rfl,rfl,?_,0,rfl,pU.nil _ _⟩);rw[NP _ _ (by omega) (by omega),ha]
  .refine jf ⟨ho,rfl,rfl,?_,0,rfl,pU.nil _ _⟩;simp only[kX,hgn,jh ho]
 .simp only[aA,aF,bg];rw[hlo];rcases ho with ho|ho
  .rw[jg (by omega),NP _ _ (by omega) (by omega)];exact h.jV
  .rw[jh ho];simp only[kX,hgn,jh ho,ha,fJ,dF,<-h.jV]
   rfl
 .intro k s hk;rcases get_append hk with⟨hk,hks⟩|⟨rfl,rfl⟩
  .obtain⟨g1,g2,g3⟩:=h.each k s hks;refine⟨g1,g2.append (by omega) st,λhn=>(g3 ?_).append hk st⟩;rw[e];simp only[gq,fJ,ig,dP,bZ]at hn⊢;simp only[opens,Qu]at hn
   exactλhm=>hn (aI _ hm)
  .refine⟨hb,⟨λh4=>?_,λh0=>by omega⟩,λhn=>?_⟩
   .rw[hd h4,ha,h.jV];simp
   .simp only[gq,fJ,ig,dP,bZ,opens]at hn;exact jl (by simp[AX]) hn
 .intro x hx;rcases List.mem_append.1 hx with hx|hx
  .rcases List.mem_append.1 hx with hx|hx
   .exact h.bound x (by rw[e];exact eP _ hx)
   .rw[cO]at hx;subst hx;exact⟨by show 0<=b.jC+1;omega,by show b.jC+1<=_;omega,hbd.2.2⟩
  .rw[cO]at hx;subst hx;exact⟨by simp,by simp,by simp,by simp⟩
end
section
theorem Inv.split2{l:Ls}(h:Inv l)(h2:¬l.jH.length=1):∃init bo b,l.jH=init++[bo]++[b]:=by
 obtain⟨i1,b,e⟩:=h.split;rcases List.eq_nil_or_concat i1 with e1|⟨init,bo,e1⟩
 .subst e1;rw[e]at h2;simp at h2
 .exact⟨init,bo,b,by rw[e,e1,List.concat_eq_append]⟩
theorem zW(init:List Bk)(bo b:Bk):(init++[bo]++[b]).reverse=b::bo::init.reverse:=by simp
theorem QH(init:List Bk)(b:Bk):(init++[b]).reverse=b::init.reverse:=by simp
theorem TS{S:List St}{p:Nat}{sp:St}(hp:S[p]? =some sp){x:Int}{k:Nat}{s:St}(h:(S.set p {sp with jY:=x})[k]? =some s):
 (k=p/\s={sp with jY:=x})\/(k≠p/\S[k]? =some s):=by
 by_cases hk:p=k
 .subst hk;rw[dY (Ji hp)]at h;exact jf ⟨rfl,(fZ h).symm⟩
 .rw[dQ hk]at h;exact je ⟨λe=>hk e.symm,h⟩
variable {l:Ls}
theorem acr(h:Inv l)(init:List Bk)(bo b:Bk)(e:l.jH=init++[bo]++[b])(o p:Nat)(so sp:St)(ho:b.opener=o)(hso:l.jB[o]? =some so)(hop:¬so.op=4)(hp:l.jB[p]? =some sp)(hpe:AX b=p)
 (hg:(tX l p sp (init++[bo]) b).bad=false):Inv (tX l p sp (init++[bo]) b):=by
 have hbd:=h.bound b (by rw[e];simp);have Jo:=h.bound bo (by rw[e];simp);have hc:=h.chain;rw[e,zW]at hc;obtain⟨o',s',c1,c2,c3,c4,c5⟩:=hc;have:o'=o:=by omega
 subst this;rw[hso]at c3;cases c3;unfold tX at hg⊢;have hcount:=count_eq (l:={l with jB:=l.jB.set p {sp with jY:=l.jB.length},jH:=init++[bo]}) (init:=init) (b:=bo) rfl (max b.jC b.before);rw[hcount]at hg⊢;have hmx:0<=max b.jC b.before/\max b.jC b.before<=40000040:=by omega
 rw[wrap_small (by omega) (by omega)]at hg⊢;simp only[h.bad,gZ,decide_eq_false_iff_not]at hg;have hpl:=Ji hp;have hst:=Gi hp (l.jB.length:Int);have hself:(l.jB.set p {sp with jY:=(l.jB.length:Int)})[p]? =some {sp with jY:=(l.jB.length:Int)}:=dY hpl;have hne:∀k,k≠p->(l.jB.set p {sp with jY:=(l.jB.length:Int)})[k]? =l.jB[k]? :=λk hk=>dQ (λe=>hk e.symm);have hop0:o'<=p/\(sp.op=2\/sp.op=3)/\kX l.jB l.jB.length=kX l.jB p/\kX l.jB l.jB.length=kX l.jB o':=by
  rcases c4 with⟨a1,_⟩|⟨a1,a2,a3,a4,c,a5,a6⟩|⟨a1,x,t,a2,a3,a4,a5,a6,a7,a8,a9,⟨cc,b1,b2⟩,c,b3,b4⟩
  .exact jl a1 hop
  .have:p=o':=by unfold AX at hpe;rw[jg (by omega)]at hpe;omega
   subst this;rw[hso]at hp;cases hp;exact⟨aj _,jf a1,a4,a4⟩
  .have:p=x:=by unfold AX at hpe;rw[jh (by omega)]at hpe;omega
   subst this;rw[a5]at hp;cases hp;exact⟨by omega,je a6,a9.trans a8.symm,a9⟩
 obtain⟨hop1,hop2,alG,auN⟩:=hop0;refine⟨?_,?_,h.eight,?_,?_,h.jD,by simp[h.bad];omega⟩
 .rw[QH];simp only[iI];have hlow:=λk (hk:k<o')=>hne k (by omega);rcases c4 with⟨a1,_⟩|⟨a1,a2,a3,a4,c,a5,a6⟩|⟨a1,x,t,a2,a3,a4,a5,a6,a7,a8,a9,⟨cc,b1,b2⟩,c,b3,b4⟩
  .exact jl a1 hop
  .have:p=o':=by unfold AX at hpe;rw[jg (by omega)]at hpe;omega
   subst this;rw[hso]at hp;cases hp;refine c5.go (w:=1+c) hlow (by omega) (by rw[hst,hst];exact a4) (λa cc hs=>hs.alW hself a1 rfl (a6.keep λk hk _=>hne k (by omega))) ?_;rw[a3];omega
  .have:p=x:=by unfold AX at hpe;rw[jh (by omega)]at hpe;omega
   subst this;refine c5.go (w:=1+max (cc+1) c) hlow (by omega) (by rw[hst,hst];exact a9) (λa c' hs=>hs.Es ((hne o' (by omega)).trans hso) a1 a7 (b2.keep λk hk _=>hne k (by omega)) hself (by rw[a5]at hp;cases hp;exact a6) rfl (b4.keep λk hk _=>hne k (by omega))) ?_;rw[b1,b3];omega
 .simp only[iI];rw[hst];exact h.jV
 .intro k s hk;have hcl:CS (l.jB.set p {sp with jY:=(l.jB.length:Int)}) p {sp with jY:=(l.jB.length:Int)}:=λ_=>by
   refine⟨by show(0:Int)<=l.jB.length;omega,by show p<((l.jB.length:Int)).toNat;omega,by simp,?_⟩;rw[hst,hst];rw[bK];exact alG
  rcases TS hp hk with⟨rfl,rfl⟩|⟨hkp,hks⟩
  .obtain⟨g1,g2,g3⟩:=h.each k sp hp;have g2':=g2.EI hp (l.jB.length:Int);refine⟨Lh g1 _,⟨λh4=>by have:sp.op=4:=h4;omega,λh0=>by have:sp.op=0\/sp.op=5:=h0;omega⟩,λ_=>hcl⟩
  .obtain⟨g1,g2,g3⟩:=h.each k s hks;refine⟨g1,g2.EI hp _,λhn=>(g3 ?_).EI hp _⟩;rw[e,zW];rw[QH,Qu]at hn;simp only[opens,hpe]
   exactλhm=>(dh.1 hm).elim (λe=>hkp (by omega)) hn
 .intro x hx;rcases List.mem_append.1 hx with hx|hx
  .exact h.bound x (by rw[e];simp[hx])
  .rw[cO]at hx;subst hx;exact⟨by show 0<=bo.jC+_;omega,by show bo.jC+_<=_;omega,Jo.2.2⟩
theorem ami(h:Inv l)(init:List Bk)(bo b:Bk)(e:l.jH=init++[bo]++[b])(o:Nat)(so st:St)(ho:b.opener=o)(hso:l.jB[o]? =some so)(hop:so.op=4)(hs0:st.op=0)(hb:yw l.jD.toNat st)
 (hg:(Ap l st o so).bad=false):Inv (Ap l st o so):=by
 have hbd:=h.bound b (by rw[e];simp);have Jo:=h.bound bo (by rw[e];simp);have hc:=h.chain;rw[e,zW]at hc;obtain⟨o',s',c1,c2,c3,c4,c5⟩:=hc;have:o'=o:=by omega
 subst this;rw[hso]at c3;cases c3;rcases c4 with⟨a1,a2,a3,a4,c,a5,a6⟩|⟨a1,_⟩|⟨a1,_⟩
 rotate_left
 .omega
 .omega
 unfold Ap FD at hg⊢;have hadd:=add_eq e {st with jY:=o'};rw[hadd]at hg⊢;rw[wrap_small (x:=b.jC+1) (by omega) (by omega)]at hg⊢;have hn1:(kR so.a).toNat=kR so.a:=by unfold kR;split<;>rfl
 have hls:kR so.a=8\/kR so.a=16:=by unfold kR;split<;>simp
 have htop:Ls.top {l with jB:=l.jB++[{st with jY:=(o':Int)}],jH:=init++[bo]++[{b with jC:=b.jC+1}],bad:=l.bad||decide (40000040<b.jC+1)}={b with jC:=b.jC+1}:=by simp[Ls.top]
 rw[htop]at hg⊢;simp only[List.dropLast_concat]at hg⊢;have hcount:=count_eq (l:={l with jB:=(l.jB++[{st with jY:=(o':Int)}]).set o' {so with jY:=((l.jB++[{st with jY:=(o':Int)}]).length:Int)},jH:=init++[bo],jV:=l.jV.dropLast,bad:=l.bad||decide (40000040<b.jC+1)}) (init:=init) (b:=bo) rfl (wrap64 (kR so.a * (b.jC+1)));have hmul:0<=kR so.a * (b.jC+1)/\kR so.a * (b.jC+1)<=1000000000:=by
  rcases hls with h'|h'<;>rw[h']<;>omega
 rw[hcount]at hg⊢;rw[wrap_small (x:=kR so.a * (b.jC+1)) (by omega) (by omega)]at hg⊢;rw[wrap_small (x:=bo.jC+_) (by omega) (by omega)]at hg⊢;simp only[h.bad,gZ,Bool.or_eq_false_iff,decide_eq_false_iff_not]at hg;obtain⟨hg1,hg2⟩:=hg;have hol:=Ji hso;have hlen:(l.jB++[{st with jY:=(o':Int)}]).length=l.jB.length+1:=by simp
 have Dp:(l.jB++[{st with jY:=(o':Int)}])[o']? =some so:=by rw[aT hol];exact hso
 have hst:=Gi Dp ((l.jB++[{st with jY:=(o':Int)}]).length:Int);have hap:=DI l.jB {st with jY:=(o':Int)};have hself:((l.jB++[{st with jY:=(o':Int)}]).set o' {so with jY:=((l.jB++[{st with jY:=(o':Int)}]).length:Int)})[o']? =some {so with jY:=((l.jB++[{st with jY:=(o':Int)}]).length:Int)}:=dY (by omega);have hne:∀k,k≠o'->k<l.jB.length->((l.jB++[{st with jY:=(o':Int)}]).set o' {so with jY:=((l.jB++[{st with jY:=(o':Int)}]).length:Int)})[k]? =l.jB[k]? :=λk hk hl=>by
  rw[dQ (λe=>hk e.symm),aT hl]
 have hlast:((l.jB++[{st with jY:=(o':Int)}]).set o' {so with jY:=((l.jB++[{st with jY:=(o':Int)}]).length:Int)})[l.jB.length]? =some {st with jY:=(o':Int)}:=by
  rw[dQ (by omega),eu]
 have hnext:kX (l.jB++[{st with jY:=(o':Int)}]) (l.jB.length+1)=kX l.jB o':=by
  simp only[kX,eu,hap _ (aj _),a4,jh hs0,List.tail_cons];rw[jg (by omega)]
 refine⟨?_,?_,?_,?_,?_,h.jD,by simp[h.bad];omega⟩
 .rw[QH];simp only[iI,hlen]at hself hlast hne⊢;refine c5.go (w:=1+(kR so.a).toNat * (c+1)) (λk hk=>hne k (by omega) (by omega)) (by omega) ?_ (λa c' hs=>pU.loop (s:={so with jY:=((l.jB.length+1:Nat):Int)}) hs hself hop (by show((l.jB.length+1:Nat):Int)=_;omega) (a6.keep λk hk hk2=>hne k (by omega) hk2) hlast hs0) ?_
  .rw[hlen]at hst;rw[hst,hst,hnext,hap o' (by omega)]
  .have a5':b.jC=c:=by omega
   rw[a5']
   push_cast
   rw[hn1];omega
 .simp only[iI,hlen]at hst⊢;rw[hst,hnext,h.jV,a4];simp
 .have:=h.eight;simp only[List.length_dropLast];omega
 .intro k s hk;have hcl:CS ((l.jB++[{st with jY:=(o':Int)}]).set o' {so with jY:=((l.jB++[{st with jY:=(o':Int)}]).length:Int)}) o' {so with jY:=((l.jB++[{st with jY:=(o':Int)}]).length:Int)}:=λ_=>by
   refine⟨by show(0:Int)<=((l.jB++[{st with jY:=(o':Int)}]).length:Int);omega,by show o'<((l.jB++[{st with jY:=(o':Int)}]).length:Int).toNat;omega,by simp,?_⟩;rw[hst,hst];rw[bK,hlen,hnext,hap o' (by omega)]
  rcases TS Dp hk with⟨rfl,rfl⟩|⟨hkp,hks⟩
  .obtain⟨g1,g2,g3⟩:=h.each k so hso;have g2':=(g2.append (by omega) {st with jY:=(k:Int)}).EI Dp ((l.jB++[{st with jY:=(k:Int)}]).length:Int);exact⟨Lh g1 _,⟨g2'.depth,λh0=>by have:so.op=0\/so.op=5:=h0;omega⟩,λ_=>hcl⟩
  .rcases get_append hks with⟨hkl,hks⟩|⟨rfl,rfl⟩
   .obtain⟨g1,g2,g3⟩:=h.each k s hks;refine⟨g1,(g2.append (by omega) _).EI Dp _,λhn=>((g3 ?_).append hkl _).EI Dp _⟩;rw[e,zW];rw[QH,Qu]at hn;simp only[opens,AX,a2,c1]
    exactλhm=>(dh.1 hm).elim (λe=>hkp (by simp at e;omega)) hn
   .refine⟨Lh hb _,⟨λh4=>by have:st.op=4:=h4;omega,λ_=>⟨by show(0:Int)<=o';omega,?_⟩⟩,λ_ ho=>by have:st.op=2\/st.op=3\/st.op=4:=ho;omega⟩;rw[hst,hap _ (aj _),a4];simp
 .intro x hx;rcases List.mem_append.1 hx with hx|hx
  .exact h.bound x (by rw[e];simp[hx])
  .rw[cO]at hx;subst hx;exact⟨by show 0<=bo.jC+_;omega,by show bo.jC+_<=_;omega,Jo.2.2⟩
end
section
variable {l:Ls}
theorem amh(h:Inv l)(init:List Bk)(bo b:Bk)(e:l.jH=init++[bo]++[b])(o:Nat)(so st:St)(ho:b.opener=o)(hso:l.jB[o]? =some so)(hop:so.op=2)(hot:¬0<b.other)(hs3:st.op=3)(hb:yw l.jD.toNat st)
 (hg:(Ec l st o so).bad=false):Inv (Ec l st o so):=by
 have hbd:=h.bound b (by rw[e];simp);have hc:=h.chain;rw[e,zW]at hc;obtain⟨o',s',c1,c2,c3,c4,c5⟩:=hc;have:o'=o:=by omega
 subst this;rw[hso]at c3;cases c3;rcases c4 with⟨a1,_⟩|⟨a1,a2,a3,a4,c,a5,a6⟩|⟨a1,x,t,a2,a3,_⟩
 .omega
 rotate_left
 .omega
 unfold Ec FC at hg⊢;rw[add_eq e st]at hg⊢;rw[wrap_small (x:=b.jC+1) (by omega) (by omega)]at hg⊢;have htop:Ls.top {l with jB:=l.jB++[st],jH:=init++[bo]++[{b with jC:=b.jC+1}],bad:=l.bad||decide (40000040<b.jC+1)}={b with jC:=b.jC+1}:=by simp[Ls.top]
 rw[htop]at hg⊢;simp only[List.dropLast_concat]at hg⊢;simp only[h.bad,gZ,decide_eq_false_iff_not]at hg;have hol:=Ji hso;have hlen:(l.jB++[st]).length=l.jB.length+1:=by simp
 have Dp:(l.jB++[st])[o']? =some so:=by rw[aT hol];exact hso
 have hst:=Gi Dp ((l.jB++[st]).length:Int);have hap:=DI l.jB st;have hself:((l.jB++[st]).set o' {so with jY:=((l.jB++[st]).length:Int)})[o']? =some {so with jY:=((l.jB++[st]).length:Int)}:=dY (by omega);have hne:∀k,k≠o'->k<l.jB.length->((l.jB++[st]).set o' {so with jY:=((l.jB++[st]).length:Int)})[k]? =l.jB[k]? :=λk hk hl=>by
  rw[dQ (λe=>hk e.symm),aT hl]
 have hlast:((l.jB++[st]).set o' {so with jY:=((l.jB++[st]).length:Int)})[l.jB.length]? =some st:=by
  rw[dQ (by omega),eu]
 have hnext:kX (l.jB++[st]) (l.jB.length+1)=kX l.jB l.jB.length:=NP _ _ (by omega) (by omega);refine⟨?_,?_,h.eight,?_,?_,h.jD,by simp[h.bad];omega⟩
 .rw[zW];simp only[iI,hlen]at hself hlast hne hst⊢;refine⟨o',{so with jY:=((l.jB.length+1:Nat):Int)},ho,by omega,hself,je (je ⟨hop,l.jB.length,st,rfl,by omega,by omega,hlast,hs3,by show((l.jB.length+1:Nat):Int)=_;omega,?_,?_,⟨c,?_,a6.keep λk hk hk2=>hne k (by omega) hk2⟩,0,rfl,pU.nil _ _⟩),c5.keep λk hk=>hne k (by omega) (by omega)⟩
  .rw[hst,hst,hap _ (aj _),hap o' (by omega)];exact a4
  .rw[hst,hst,hnext,hap o' (by omega)];exact a4
  .show b.jC+1=_;omega
 .simp only[iI,hlen]at hst⊢;rw[hst,hnext];exact h.jV
 .intro k s hk;have hcl:CS ((l.jB++[st]).set o' {so with jY:=((l.jB++[st]).length:Int)}) o' {so with jY:=((l.jB++[st]).length:Int)}:=λ_=>by
   refine⟨by show(0:Int)<=((l.jB++[st]).length:Int);omega,by show o'<((l.jB++[st]).length:Int).toNat;omega,by simp,?_⟩;rw[hst,hst];rw[bK,hlen,hnext,hap o' (by omega)];exact a4
  rcases TS Dp hk with⟨rfl,rfl⟩|⟨hkp,hks⟩
  .obtain⟨g1,g2,g3⟩:=h.each k so hso;exact⟨Lh g1 _,⟨λh4=>by have:so.op=4:=h4;omega,λh0=>by have:so.op=0\/so.op=5:=h0;omega⟩,λ_=>hcl⟩
  .rcases get_append hks with⟨hkl,hks⟩|⟨rfl,rfl⟩
   .obtain⟨g1,g2,g3⟩:=h.each k s hks;refine⟨g1,(g2.append (by omega) _).EI Dp _,λhn=>((g3 ?_).append hkl _).EI Dp _⟩;rw[e,zW];rw[zW]at hn;simp only[opens,AX,a2,c1]at hn⊢
    exactλhm=>(dh.1 hm).elim (λe=>hkp (by simp at e;omega)) λhm=>hn (aI _ hm)
   .refine⟨hb,⟨λh4=>by omega,λh0=>by omega⟩,λhn=>?_⟩;rw[zW]at hn;simp only[opens,AX]at hn;rw[jh (by omega)]at hn;exact jl aW hn
 .intro x hx;rcases List.mem_append.1 hx with hx|hx
  .exact h.bound x (by rw[e];exact eP _ hx)
  .rw[cO]at hx;subst hx;exact⟨by simp,by simp,by show 0<=b.jC+1;omega,by show b.jC+1<=_;omega⟩
structure IB(l:Ls):Prop where
 sound:Sound l.jB l.jD.toNat
 jC:(jw l.jB 0:Int)<=l.jC
 vS:l.jC<=40000040
 jD:8<=l.jD/\l.jD<=2008
 jH:l.jH=[]
theorem akz(h:Inv l)(h1:l.jH.length=1)(hl:l.jB.length<=900000)(hg:(Am l).bad=false):IB (Am l):=by
 obtain⟨init,b,e⟩:=h.split;have hi:init=[]:=by
  rw[e]at h1;simp at h1;exact h1
 subst hi;have hbd:=h.bound b (by rw[e];simp);have hc:=h.chain;rw[e]at hc;obtain⟨c1,c2,c,c3,c4⟩:=hc;unfold Am at hg⊢;rw[add_eq e ⟨1,0,0,0,0,0,0⟩]at hg⊢;rw[wrap_small (x:=b.jC+1) (by omega) (by omega)]at hg⊢;have htop:Ls.top {l with jB:=l.jB++[⟨1,0,0,0,0,0,0⟩],jH:=[]++[{b with jC:=b.jC+1}],bad:=l.bad||decide (40000040<b.jC+1)}={b with jC:=b.jC+1}:=by simp[Ls.top]
 rw[htop];simp only[h.bad,gZ,decide_eq_false_iff_not]at hg;have hap:=DI l.jB ⟨1,0,0,0,0,0,0⟩;have hlen:(l.jB++[(⟨1,0,0,0,0,0,0⟩:St)]).length=l.jB.length+1:=by simp
 have hlast:(l.jB++[(⟨1,0,0,0,0,0,0⟩:St)])[l.jB.length]? =some ⟨1,0,0,0,0,0,0⟩:=eu ..;have hcl:=λ(k:Nat)(s:St)(hk:l.jB[k]? =some s)=>(h.each k s hk).2.2 (by rw[e];simp[opens]);have hloop:∀(k:Nat)(s:St),l.jB[k]? =some s->(s.op=0\/s.op=5)->UF (l.jB++[⟨1,0,0,0,0,0,0⟩]) l.jD.toNat s.jY:=λk s hk ho=>by
  obtain⟨g1,g2,g3⟩:=h.each k s hk;obtain⟨b1,b2⟩:=g2.back ho;cases hs:kX l.jB k with
  |nil=>rw[hs]at b2;cases b2
  |cons p r=>
   rw[hs]at b2;simp only[List.head?_cons,bJ]at b2;obtain⟨sl,l1,l2,l3,l4⟩:=agd l.jB k p r hs;have hp:=Ji l1;obtain⟨d1,d2,d3,d4⟩:=hcl p sl l1 (je (je l2));obtain⟨e1,_,e3⟩:=(h.each p sl l1).1.jV l2;refine⟨sl,b1,?_,by rw[hlen];omega,d1,by rw[hlen];omega,e1,e3⟩;rw[<-b2,aT hp];exact l1
 have Us:Sound (l.jB++[⟨1,0,0,0,0,0,0⟩]) l.jD.toNat:=by
  refine⟨⟨by omega,by omega,λk s hk=>?_⟩,λk s hk ho=>?_,λk s hk ho=>?_,λk s hk ho=>?_⟩
  .rcases get_append hk with⟨hk,hks⟩|⟨rfl,rfl⟩
   .obtain⟨g1,g2,g3⟩:=h.each k s hks;have g4:=hcl k s hks;refine⟨by have:=g1.op;omega,λ_ _ _=>by omega,λh2=>?_,λh3=>?_,λh4=>?_,λh5=>⟨g1.Iq h5,hloop k s hks (je h5)⟩,λh0=>hloop k s hks (jf h0),g1.Ie,g1.works⟩
    .obtain⟨d1,d2,d3,d4⟩:=g4 (jf h2);exact⟨g1.ifs h2,d1,by omega⟩
    .obtain⟨d1,d2,d3,d4⟩:=g4 (je (jf h3));exact⟨d1,by omega⟩
    .obtain⟨d1,d2,d3,d4⟩:=g4 (je (je h4));exact⟨d1,by omega,g1.jV h4⟩
   .exact⟨by simp,λh=>jl rfl h,λh=>by simp at h,λh=>by simp at h,λh=>by simp at h,λh=>by simp at h,λh=>by simp at h,λh=>by simp at h,λh=>jl rfl h⟩
  .rcases get_append hk with⟨hk,hks⟩|⟨rfl,rfl⟩
   .obtain⟨d1,d2,d3,d4⟩:=hcl k s hks ho;exact⟨d2,by rw[hap _ (by omega),hap _ (by omega)];exact d4⟩
   .simp at ho
  .rcases get_append hk with⟨hk,hks⟩|⟨rfl,rfl⟩
   .rw[hap _ (by omega)];exact(h.each k s hks).2.1.depth ho
   .simp at ho
  .rcases get_append hk with⟨hk,hks⟩|⟨rfl,rfl⟩
   .rw[hap _ (by omega)];exact((h.each k s hks).2.1.back ho).2
   .simp at ho
 refine⟨Us,?_,by show b.jC+1<=_;omega,h.jD,rfl⟩;have g1:=c4.2 _ Us.ahead λk _ hk=>aT hk;have g2:=Eb Us.ahead hlast;rw[jh (je rfl)]at g2;show(jw (l.jB++[⟨1,0,0,0,0,0,0⟩]) 0:Int)<=b.jC+1;omega
theorem acv(h:Inv l)(s:St)(hb:yw l.jD.toNat s)(hl:l.jB.length<=900000)(hg:(lH l s).bad=false):Inv (lH l s)\/IB (lH l s):=by
 unfold lH at hg⊢;by_cases h2:s.op=2
 .rw[jh h2]at hg⊢;exact jf (acw h s hb (jf h2) (λe=>by omega) l.jV (by rw[jg (by omega)]) h.eight hg)
 rw[jg h2]at hg⊢;by_cases h4:s.op=4
 .rw[jh h4]at hg⊢;by_cases h8:l.jV.length=8
  .rw[jh h8]at hg;cases hg
  .rw[jg h8]at hg⊢;have he:=h.eight;exact jf (acw h {s with depth:=l.jV.length} (aiQ hb _ (by omega) (by omega)) (je h4) (λ_=>rfl) _ (by rw[jh h4]) (by simp;omega) hg)
 rw[jg h4]at hg⊢;by_cases h3:s.op=3
 .rw[jh h3]at hg⊢;by_cases hx:l.jH.length=1\/0<l.top.other
  .rw[jh hx]at hg;cases hg
  .rw[jg hx]at hg⊢;obtain⟨init,bo,b,e⟩:=h.split2 (λe=>hx (jf e));have hc:=h.chain;rw[e,zW]at hc;obtain⟨o,so,c1,c2,c3,c4,c5⟩:=hc;have ht:=Rl e;have hto:l.top.opener.toNat=o:=by rw[ht,c1];simp
   rw[hto,c3]at hg⊢;simp only at hg⊢;by_cases hso:so.op=2
   .rw[jh hso]at hg⊢;exact jf (amh h init bo b e o so s c1 c3 hso (λe=>hx (je (by rw[ht];exact e))) h3 hb hg)
   .rw[jg hso]at hg;cases hg
 rw[jg h3]at hg⊢;by_cases h0:s.op=0
 .rw[jh h0]at hg⊢;by_cases hx:l.jH.length=1
  .rw[jh hx]at hg⊢;exact je (akz h hx hl hg)
  .rw[jg hx]at hg⊢;obtain⟨init,bo,b,e⟩:=h.split2 hx;have hc:=h.chain;rw[e,zW]at hc;obtain⟨o,so,c1,c2,c3,c4,c5⟩:=hc;have ht:=Rl e;have hto:l.top.opener.toNat=o:=by rw[ht,c1];simp
   have hdl:l.jH.dropLast=init++[bo]:=by rw[e];simp
   rw[hto,c3]at hg⊢;simp only at hg⊢;by_cases hso:so.op=4
   .rw[jh hso]at hg⊢;exact jf (ami h init bo b e o so s c1 c3 hso h0 hb hg)
   .rw[jg hso]at hg⊢;rw[ht,hdl]at hg⊢;rcases c4 with⟨a1,_⟩|⟨a1,a2,a3,a4,c,a5,a6⟩|⟨a1,x,t,a2,a3,a4,a5,_⟩
    .exact jl a1 hso
    .rw[jg (by omega)]at hg⊢;exact jf (acr h init bo b e o o so so c1 c3 hso c3 (by unfold AX;rw[jg (by omega),c1]) hg)
    .have hxt:b.other.toNat=x:=by omega
     rw[jh (by omega),hxt,a5]at hg⊢;simp only at hg⊢;exact jf (acr h init bo b e o x so t c1 c3 hso a5 (by unfold AX;rw[jh (by omega),a2]) hg)
 rw[jg h0]at hg⊢;by_cases h5:s.op=5
 .rw[jh h5]at hg⊢;unfold Ip at hg⊢;by_cases hx:l.jV=[]
  .rw[jh hx]at hg;cases hg
  .rw[jg hx]at hg⊢;refine jf (acp h {s with jY:=l.jV.getLastD 0} (Lh hb _) h0 h2 h3 h4 (λ_=>?_) hg);have hlo:=h.jV;cases hs:kX l.jB l.jB.length with
   |nil=>rw[hs]at hlo;exact jl hlo hx
   |cons p r=>
    rw[hs]at hlo;have:l.jV.getLastD 0=(p:Int):=by rw[hlo];simp
    show 0<=l.jV.getLastD 0/\_=some (l.jV.getLastD 0).toNat;rw[this];exact⟨by omega,by simp⟩
 .rw[jg h5]at hg⊢;exact jf (acp h s hb h0 h2 h3 h4 (λe=>jl e h5) hg)
end
end Hx
end Go.Proofs.YthllhabjfchgiaaGreatDoor
