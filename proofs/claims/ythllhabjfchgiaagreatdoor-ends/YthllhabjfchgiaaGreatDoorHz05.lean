import Derived.Test.YthllhabjfchgiaaGreatDoorHz04
import Derived.Laws.BitsAllLaws
set_option maxRecDepth 100000
set_option maxHeartbeats 8000000
namespace Go.Proofs.YthllhabjfchgiaaGreatDoor
open _root_.Go.Proofs.Tryz
section
open Go.RowKit
open Hx (St Bk Ls aZ)
attribute [local go_sem ↓] Go.wp_at_zero Go.wp_at_succ
attribute [local go_sem] bT
section
variable {B:Nat}{w:World}{L:Nat}{s:ByteArray}{l:Ls}{vs vb vl:Value}
theorem aa3(h:bn B w L s l vs vb vl)(hbl:2<=l.aI.length)(hlb:l.aI.length<=900000)(hls:l.ay.length<=900000)(ho:¬0<l.dM.other)(p:Nat)(sp:St)(hst:l.ay[p]? =some sp)(hop:l.dM.kQ=p)(hsp:sp.op=2)(q a b c d dp t:Int):
 Calls prog 115 #[Pt L 0,.agg #[.int .u8 q,Im a,Im b,Im c,Im d,Im dp,Im t]] w fun e w'=>e=.returned (.tuple #[])/\
  ∃vs' bV dI,bn B w' L s (AY l ⟨q,a,b,c,d,dp,t⟩ p sp) vs' bV dI/\bF L w vs vb vl w' vs' bV dI:=by
 have hne:l.aI≠[]:=fun e=>by rw[e]at hbl;simp at hbl
 obtain⟨g,cap,init,bb,hvb,hb,htop,nG,hBg,hgw,vU,zT,b0,b1,b2,b3,hf⟩:=h.inner hne;subst hvb;have hn:l.aI.length=init.length+1:=by rw[hb];simp
 rw[hn]at h⊢;have HI:Hid (∀o,Calls prog 168 #[Pt L 0] (w.alloc o) fun e w'=>e=.returned (Pt g (init.length * 4))/\∃k,w'=(w.alloc o).drewN k):=fun o=>
  xA L g init.length cap (w.alloc o) (h.alloc o).c3 (by omega)
 have HA:Hid (∀o k,Calls prog 118 #[Pt L 0,.agg #[.int .u8 q,Im a,Im b,Im c,Im d,Im dp,Im t]] ((w.alloc o).drewN k) fun e w'=>e=.returned (.tuple #[])/\
  ∃vs',bn B w' L s (fE l ⟨q,a,b,c,d,dp,t⟩) vs' (.slice (some (Ad g 0)) (init.length+1) cap) vl/\bF L w vs (.slice (some (Ad g 0)) (init.length+1) cap) vl w' vs' (.slice (some (Ad g 0)) (init.length+1) cap) vl):=fun o k=>by
  refine(Ei ((h.alloc o).drewN k) hne (by omega) (by omega) q a b c d dp t).mono ?_;rintro e w' ⟨h1,vs',h2,h3⟩;exact⟨h1,vs',h2,(bF.grow L w _ _ _ (World.grownBy_alloc w o none)).trans (bF.trans (bF.grow L _ _ _ _ (dh _ k)) h3)⟩
 obtain⟨gs,cs,hvs,hgs,uI,hgb,hgl,hps,hat,hfr⟩:=h.xM hst;subst hvs;have HB:Hid ((fE l ⟨q,a,b,c,d,dp,t⟩).aI.length=init.length+1):=(Jz l _ hne).trans hn;have HT:Hid ((fE l ⟨q,a,b,c,d,dp,t⟩).dM.kQ=p):=by
  show _=_;rw[ZN];exact hop
 have HS:Hid ((fE l ⟨q,a,b,c,d,dp,t⟩).ay[p]? =some sp):=by
  show _=_;rw[Gp,List.getElem?_append_left hps];exact hst
 have HN:Hid ((fE l ⟨q,a,b,c,d,dp,t⟩).ay.length=l.ay.length+1):=by
  show _=_;rw[Gp];simp
 have HE:Hid (AY l ⟨q,a,b,c,d,dp,t⟩ p sp=Et (fE l ⟨q,a,b,c,d,dp,t⟩) l.ay.length p sp):=rfl;rw[HE.out];clear HE;generalize fE l ⟨q,a,b,c,d,dp,t⟩=l1 at *;have c2:=h.c2;have c3:=h.c3;have hL:=h.lt;have a0:=hat.1;rw[htop]at hop ho;rw[hop]at b0;rw[hsp]at a0;have n1:¬L=w.heap.size:=by omega
 have n2:¬g=w.heap.size:=by omega
 have n5:¬gs=w.heap.size:=by omega
 have i0:(0:Int)<=(p:Int):=by omega
 have i1:(p:Int)<(l.ay.length:Int):=by omega
 have hone:(((init.length:Int)+1)==1)=false:=by simp;omega
 have ho':decide (0<bb.other)=false:=by simpa using ho
 have MS:Hid (init.length<=900000):=by show _<=_;omega
 clear h hf hne hb htop hn hbl hat hfr hst;generalize l.ay.length=ns at *;go_enter func115,ntmps115;go_wp2_with fail;refine(HI.out _).mono ?_;rintro e w1 ⟨rfl,k,rfl⟩;go_wp2_with fail;refine xR 26 (by kernel_rfl) (by kernel_rfl) ?_;simp only[List.take_succ_cons,List.take_zero,List.drop_succ_cons,List.drop_zero];repeat (go_big_quiet_step (fail))
 refine wpQuiet_nil ?_;intro _ hw';obtain⟨k2,hw''⟩:=hw';subst hw'';go_wp2_with fail;refine(HA.out _ _).mono ?_;rintro e w1 ⟨rfl,vs1,h1,m1⟩;clear b0 b1 b2 b3 a0 c2 c3 hgs uI hgb hgl n5 vU;obtain⟨gs1,cs1,hvs,hgs,uI,hgb,hgl,hps1,hat,hfr⟩:=h1.xM HS.out;subst hvs;obtain⟨g',cap',init',b',hvb,hb,htop,_,_,hgw1,vU,zT,b0,b1,b2,b3,hf⟩:=h1.inner (fun e=>by have:=HB.out;rw[e]at this;simp at this);have hn:l1.aI.length=init'.length+1:=by rw[hb];simp
 have hii:init'.length=init.length:=by have:=HB.out;omega
 obtain⟨hg',hcap'⟩:g'=g/\cap'=cap:=by
  have:=hvb;simp only[Value.slice.injEq,Option.some.injEq,Addr.mk.injEq]at this;exact⟨this.1.1.symm,this.2.2.symm⟩
 subst hg';subst hcap';clear hvb;have hop1:b'.kQ=p:=by rw[<-htop];exact HT.out
 have HP:Hid (∀k,bn B (((((w1.setCell (Ad g' (init'.length * 4+1)) (Im ns)).setCell (Ad g' (init'.length * 4+3)) (Im b'.need)).setCell (Ad g' (init'.length * 4+2)) (Im 0)).setCell (Ad gs1 (p * 7+6)) (Im l1.ay.length)).drewN k) L s (Et l1 ns p sp) (.slice (some (Ad gs1 0)) l1.ay.length cs1) (.slice (some (Ad g' 0)) (init.length+1) cap') vl/\
  bF L w (.slice (some (Ad gs 0)) ns cs) (.slice (some (Ad g' 0)) (init.length+1) cap') vl (((((w1.setCell (Ad g' (init'.length * 4+1)) (Im ns)).setCell (Ad g' (init'.length * 4+3)) (Im b'.need)).setCell (Ad g' (init'.length * 4+2)) (Im 0)).setCell (Ad gs1 (p * 7+6)) (Im l1.ay.length)).drewN k) (.slice (some (Ad gs1 0)) l1.ay.length cs1) (.slice (some (Ad g' 0)) (init.length+1) cap') vl):=fun k=>by
  obtain⟨h2,m2⟩:=h1.Qd hb (by omega) 1 (Im ns) ⟨b'.kQ,ns,b'.need,b'.before⟩ (by omega) rfl;obtain⟨h3,m3⟩:=h2.Qd (init:=init') (b:=⟨b'.kQ,ns,b'.need,b'.before⟩) rfl (by simp;omega) 3 (Im b'.need) ⟨b'.kQ,ns,b'.need,b'.need⟩ (by omega) rfl;obtain⟨h4,m4⟩:=h3.Qd (init:=init') (b:=⟨b'.kQ,ns,b'.need,b'.need⟩) rfl (by simp;omega) 2 (Im 0) ⟨b'.kQ,ns,0,b'.need⟩ (by omega) rfl;obtain⟨h5,m5⟩:=h4.LQ HS.out (l1.ay.length:Int);have e1:l1.aI.dropLast=init':=by rw[hb];simp
  unfold Et;rw[e1,htop];exact⟨h5.drewN k,m1.trans (m2.trans (m3.trans (m4.trans (m5.trans (bF.grow L _ _ _ _ (dh _ k))))))⟩
 have c2:=h1.c2;have f1:=hf (init'.length * 4+1);have f2:=hf (init'.length * 4+2);have f3:=hf (init'.length * 4+3);have f6:=hfr (p * 7+6);have a6:=hat.2.2.2.2.2.2;have hgg:¬gs1=g':=fun e=>vU (by rw[<-e];rfl);have hgg':¬g'=gs1:=fun e=>hgg e.symm;have ajY:¬L=g':=fun e=>nG e.symm;have ajZ:¬L=gs1:=fun e=>uI e.symm;rw[hop1]at b0;rw[hii]at b0 b1 b2 b3 f1 f2 f3 HP;rw[HN.out]at HP c2;clear h1 m1 hb htop hf hfr hat hn HA HB HS HT HI vU;generalize hgn:init.length=n at *;have HJ:Hid (init.length=n):=hgn;clear hgn;have j1:(p:Int)<((ns:Int)+1):=by omega
 have hwr:IntKind.i64.wrap (ns:Int)=(ns:Int):=by rw[IntKind.wrap_i64];omega
 go_wp2_with fail;refine fC 15 (by kernel_rfl) (by kernel_rfl) ?_;simp only[List.take_succ_cons,List.take_zero,List.drop_succ_cons,List.drop_zero];repeat (go_big_quiet_step (fail))
 refine wpQuiet_nil ?_;intro _ hw';obtain⟨k4,hw''⟩:=hw';subst hw'';go_wp2;go_end0;have hm:=(HP.out k4).1;have hv:=(HP.out k4).2;rw[HJ.out];exact⟨rfl,_,_,_,hm,hv⟩
end
theorem G5(w:World)(o1 o2:Obj):((w.alloc o1).alloc o2).heap[w.heap.size+1]? =some o2/\((w.alloc o1).alloc o2).heap[w.heap.size]? =some o1:=by
 have e:(w.alloc o1).heap.size=w.heap.size+1:=by simp
 constructor
 .rw[<-e];exact heap_alloc_new _ _
 .have h:=(World.grownBy_alloc (w.alloc o1) o2 none).block w.heap.size (by rw[e];omega) (by simp);rw[h];exact heap_alloc_new _ _
theorem aeF(w:World)(s:ByteArray):
 Calls prog 71 #[.string s] w fun e w'=>∃L,e=.returned (Pt L 0)/\w.heap.size<=L/\w.grownBy w' none/\
  ∃g cap,bn w.heap.size w' L s pK (Nl) (.slice (some (Ad g 0)) 1 cap) (Nl):=by
 have HP:Hid (∀o1 o2,o1=Obj.cells #[Im 0,Im 0,Im 0,Im 0] 226->
  o2=Obj.cells #[.string s,Im 0,Nl,.slice (some (Ad w.heap.size 0)) 1 1,Nl,Im 8,Im 0,.bool false] 151->
  bn w.heap.size ((w.alloc o1).alloc o2) (w.heap.size+1) s pK (Nl) (.slice (some (Ad w.heap.size 0)) 1 1) (Nl)):=by
  intro o1 o2 h1 h2;obtain⟨g1,g2⟩:=G5 w o1 o2;generalize (w.alloc o1).alloc o2=w2 at *;subst h1;subst h2;have hc:∀j,j<8->w2.cell? (Ad (w.heap.size+1) j)=(#[Value.string s,Im 0,Nl,.slice (some (Ad w.heap.size 0)) 1 1,Nl,Im 8,Im 0,.bool false]:Array Value)[j]? :=fun j _=>by
   simp[World.cell?,g1]
  refine⟨by omega,hc 0 (by omega),hc 1 (by omega),hc 2 (by omega),hc 3 (by omega),hc 4 (by omega),hc 5 (by omega),hc 6 (by omega),hc 7 (by omega),fun j=>?_,⟨rfl,Or.inl ⟨rfl,rfl⟩⟩,⟨rfl,Or.inr ⟨_,1,_,rfl,Nat.le_refl _,g2,Nat.le_refl _,by unfold maxLen;omega,rfl,rfl⟩⟩,⟨rfl,Or.inl ⟨rfl,rfl⟩⟩,by simp[Value.ownBlock],by simp[Value.ownBlock],by simp[Value.ownBlock],Or.inl rfl,Or.inl rfl,Or.inr (by simp[Value.ownBlock])⟩;simp[World.frozen?,g1]
 go_enter func71,ntmps71;go_wp2;go_ret;exact⟨_,rfl,by omega,(World.grownBy_alloc w _ none).trans (World.grownBy_alloc _ _ none),_,_,HP.out _ _ rfl rfl⟩
section
variable {B:Nat}{w:World}{L:Nat}{s:ByteArray}{l:Ls}{vs vb vl:Value}
theorem agJ(h:bn B w L s l vs vb vl)(hp:l.pos=s.size):
 Calls prog 112 #[Pt L 0] w fun e w'=>e=.returned (.tuple #[.agg #[.int .u8 0,Im 0,Im 0,Im 0,Im 0,Im 0,Im 0],.bool false])/\w.grownBy w' none:=by
 have c0:=h.c0;have c1:=h.c1;have hL:=h.lt;rw[hp]at c1;have n1:¬L=w.heap.size:=by omega
 clear h;go_enter func112,ntmps112;go_wp2_with fail;refine fC 9 (by kernel_rfl) (by kernel_rfl) ?_;simp only[List.take_succ_cons,List.take_zero,List.drop_succ_cons,List.drop_zero];repeat (go_big_quiet_step (fail))
 refine wpQuiet_nil ?_;intro _ hw';obtain⟨k1,hw''⟩:=hw';subst hw'';go_wp2;refine bodyPost_ret (v:=.tuple #[.agg #[.int .u8 0,Im 0,Im 0,Im 0,Im 0,Im 0,Im 0],.bool false]) (by simp[results,Tryz.results112,go_sem]) rfl ?_;exact⟨rfl,(World.grownBy_alloc w _ none).trans (dh _ k1)⟩
end
end
namespace Hx
open Go.RowKit
def WW:Nat->Nat->Nat
 |0,_=>0
 |n+1,x=>x%2+WW n (x/2)
def pop(x:Int):Nat:=WW 64 x.toNat
theorem adM(x y:Int):0<=bits .and .u64 x y/\bits .and .u64 x y<18446744073709551616:=⟨bits_lo_u64 _ _ _,by have:=bits_hi_u64 .and x y;omega⟩
def rQ(S:List St):Nat->Nat->Nat
 |0,_=>0
 |f+1,k=>match S[k]?with
  |none=>0
  |some s=>
   if s.op=0\/s.op=1 then 1
   else if s.op=2 then 1+max (rQ S f (k+1)) (rQ S f s.to.toNat)
   else if s.op=3 then 1+rQ S f s.to.toNat
   else if s.op=4 then 1+(oQ s.a).toNat * rQ S f (k+1)+rQ S f s.to.toNat
   else 1+rQ S f (k+1)
def aj(S:List St)(k:Nat):Nat:=rQ S (S.length-k) k
def I8(S:List St):Prop:=∀(k:Nat)(s:St),S[k]? =some s->(s.op=2\/s.op=3\/s.op=4)->k<s.to.toNat
theorem JJ(S:List St)(f k:Nat)(h:S.length<=k):rQ S f k=0:=by
 cases f with
 |zero=>rfl
 |succ f=>simp only[rQ,List.getElem?_eq_none h]
theorem JK{S:List St}(hS:I8 S):∀(f g k:Nat),S.length-k<=f->S.length-k<=g->rQ S f k=rQ S g k
 |0,g,k,h1,_=>by rw[JJ S g k (by omega),JJ S 0 k (by omega)]
 |f+1,0,k,_,h2=>by rw[JJ S _ k (by omega),JJ S 0 k (by omega)]
 |f+1,g+1,k,h1,h2=>by
  cases hk:S[k]?with
  |none=>simp only[rQ,hk]
  |some s=>
   have e1:=JK hS f g (k+1) (by omega) (by omega);simp only[rQ,hk];by_cases hj:s.op=2\/s.op=3\/s.op=4
   .have:=hS k s hk hj;rw[e1,JK hS f g s.to.toNat (by omega) (by omega)]
   .have h2:¬s.op=2:=fun e=>hj (Or.inl e);have h3:¬s.op=3:=fun e=>hj (Or.inr (Or.inl e));have h4:¬s.op=4:=fun e=>hj (Or.inr (Or.inr e));simp only[if_neg h2,if_neg h3,if_neg h4,e1]
theorem CJ{S:List St}(hS:I8 S){k:Nat}{s:St}(hk:S[k]? =some s):aj S k=
 if s.op=0\/s.op=1 then 1
 else if s.op=2 then 1+max (aj S (k+1)) (aj S s.to.toNat)
 else if s.op=3 then 1+aj S s.to.toNat
 else if s.op=4 then 1+(oQ s.a).toNat * aj S (k+1)+aj S s.to.toNat
 else 1+aj S (k+1):=by
 have hlt:k<S.length:=by
  rcases Nat.lt_or_ge k S.length with h|h
  .exact h
  .rw[List.getElem?_eq_none h]at hk;cases hk
 obtain⟨f,hf⟩:∃f,S.length-k=f+1:=⟨S.length-k-1,by omega⟩;have e1:rQ S f (k+1)=aj S (k+1):=JK hS _ _ _ (by omega) (Nat.le_refl _);unfold aj at *;rw[hf];simp only[rQ,hk,e1];by_cases hj:s.op=2\/s.op=3\/s.op=4
 .have:=hS k s hk hj;rw[JK hS f (S.length-s.to.toNat) s.to.toNat (by omega) (Nat.le_refl _)]
 .have h2:¬s.op=2:=fun e=>hj (Or.inl e);have h3:¬s.op=3:=fun e=>hj (Or.inr (Or.inl e));have h4:¬s.op=4:=fun e=>hj (Or.inr (Or.inr e));simp only[if_neg h2,if_neg h3,if_neg h4]
def dZ(S:List St):Nat->List Nat
 |0=>[]
 |k+1=>match S[k]?with
  |none=>dZ S k
  |some s=>if s.op=4 then k::dZ S k else if s.op=0 then (dZ S k).tail else dZ S k
theorem ais(S:List St)(k:Nat):∀(p:Nat)(r:List Nat),dZ S k=p::r->∃s,S[p]? =some s/\s.op=4/\r=dZ S p/\p<k:=by
 induction k using Nat.strongRecOn with
 |_ k ih=>
  intro p r h;cases k with
  |zero=>cases h
  |succ k=>
   simp only[dZ]at h;cases hk:S[k]?with
   |none=>
    rw[hk]at h;obtain⟨s,h1,h2,h3,h4⟩:=ih k (by omega) p r h;exact⟨s,h1,h2,h3,by omega⟩
   |some s=>
    rw[hk]at h;simp only at h;by_cases h4:s.op=4
    .rw[if_pos h4]at h;cases h;exact⟨s,hk,h4,rfl,by omega⟩
    .rw[if_neg h4]at h;by_cases h0:s.op=0
     .rw[if_pos h0]at h;cases hq:dZ S k with
      |nil=>rw[hq]at h;cases h
      |cons q t=>
       rw[hq]at h;obtain⟨s',h1,h2,h3,h5⟩:=ih k (by omega) q t hq;rw[List.tail_cons,h3]at h;obtain⟨s2,g1,g2,g3,g4⟩:=ih q (by omega) p r h;exact⟨s2,g1,g2,g3,by omega⟩
     .rw[if_neg h0]at h;obtain⟨s',h1,h2,h3,h5⟩:=ih k (by omega) p r h;exact⟨s',h1,h2,h3,by omega⟩
def Sz(S:List St)(left:List Int):List Nat->Nat
 |[]=>0
 |p::r=>(match S[p]?with|none=>0|some s=>pop (left.getD r.length 0) * aj S (p+1)+aj S s.to.toNat)+Sz S left r
def most(S:List St)(m:Mc)(k:Nat):Nat:=aj S k+Sz S m.left (dZ S k)
structure Jt(S:List St)(n:Nat):Prop where
 fits:Fits S n
 abx:∀(k:Nat)(s:St),S[k]? =some s->(s.op=2\/s.op=3\/s.op=4)->k<s.to.toNat/\dZ S s.to.toNat=dZ S k
 depth:∀(k:Nat)(s:St),S[k]? =some s->s.op=4->s.depth=(dZ S k).length
 back:∀(k:Nat)(s:St),S[k]? =some s->(s.op=0\/s.op=5)->(dZ S k).head?=some s.to.toNat
theorem Jt.ahead{S:List St}{n:Nat}(h:Jt S n):I8 S:=fun k s hk ho=>(h.abx k s hk ho).1
def kS(S:List St)(a b c:Nat):Prop:=a<=b/\∀S':List St,I8 S'->(∀k,a<=k->k<b->S'[k]? =S[k]?)->aj S' a<=c+aj S' b
theorem kS.nil(S:List St)(a:Nat):kS S a a 0:=⟨Nat.le_refl _,fun _ _ _=>by omega⟩
theorem kS.aN{S S2:List St}{a b c:Nat}(h:kS S a b c)(hk:∀k,a<=k->k<b->S2[k]? =S[k]?):kS S2 a b c:=
 ⟨h.1,fun S' h1 h2=>h.2 S' h1 fun k ha hb=>(h2 k ha hb).trans (hk k ha hb)⟩
theorem kS.step{S:List St}{a b c:Nat}(h:kS S a b c){s:St}(hs:S[b]? =some s)(h2:¬s.op=2)(h3:¬s.op=3)(h4:¬s.op=4):kS S a (b+1) (c+1):=by
 refine⟨by have:=h.1;omega,fun S' h1 hS=>?_⟩;have e1:=h.2 S' h1 fun k ha hb=>hS k ha (by omega);have e2:=CJ h1 ((hS b h.1 (by omega)).trans hs);rw[if_neg h2,if_neg h3,if_neg h4]at e2;split at e2<;>omega
theorem kS.acX{S:List St}{a o e c c1:Nat}(h:kS S a o c){s:St}(hs:S[o]? =some s)(h2:s.op=2)(hto:s.to=e)(hin:kS S (o+1) e c1):kS S a e (c+(1+c1)):=by
 have hoe:=hin.1;refine⟨by have:=h.1;omega,fun S' h1 hS=>?_⟩;have e1:=h.2 S' h1 fun k ha hb=>hS k ha (by omega);have e2:=CJ h1 ((hS o h.1 (by omega)).trans hs);have e3:=hin.2 S' h1 fun k ha hb=>hS k (by have:=h.1;omega) hb;rw[if_neg (by omega),if_pos h2,hto,Int.toNat_natCast]at e2;omega
theorem kS.acW{S:List St}{a o x e c c1 c2:Nat}(h:kS S a o c){s t:St}(hs:S[o]? =some s)(h2:s.op=2)(hto:s.to=x+1)(hin:kS S (o+1) x c1)(ht:S[x]? =some t)(h3:t.op=3)(htt:t.to=e)(hin2:kS S (x+1) e c2):
 kS S a e (c+(1+max (c1+1) c2)):=by
 have hox:=hin.1;have hxe:=hin2.1;have hao:=h.1;refine⟨by omega,fun S' h1 hS=>?_⟩;have e1:=h.2 S' h1 fun k ha hb=>hS k ha (by omega);have e2:=CJ h1 ((hS o h.1 (by omega)).trans hs);have e3:=hin.2 S' h1 fun k ha hb=>hS k (by omega) (by omega);have e4:=CJ h1 ((hS x (by omega) (by omega)).trans ht);have e5:=hin2.2 S' h1 fun k ha hb=>hS k (by omega) hb;have OG:s.to.toNat=x+1:=by omega
 rw[if_neg (by omega),if_pos h2,OG]at e2;rw[if_neg (by omega),if_neg (by omega),if_pos h3,htt,Int.toNat_natCast]at e4;omega
theorem kS.loop{S:List St}{a o e c c1:Nat}(h:kS S a o c){s t:St}(hs:S[o]? =some s)(h4:s.op=4)(hto:s.to=(e:Int)+1)(hin:kS S (o+1) e c1)(ht:S[e]? =some t)(h0:t.op=0):
 kS S a (e+1) (c+(1+(oQ s.a).toNat * (c1+1))):=by
 have hoe:=hin.1;have hao:=h.1;refine⟨by omega,fun S' h1 hS=>?_⟩;have e1:=h.2 S' h1 fun k ha hb=>hS k ha (by omega);have e2:=CJ h1 ((hS o h.1 (by omega)).trans hs);have e3:=hin.2 S' h1 fun k ha hb=>hS k (by omega) (by omega);have e4:=CJ h1 ((hS e (by omega) (by omega)).trans ht);have OG:s.to.toNat=e+1:=by omega
 rw[if_neg (by omega),if_neg (by omega),if_neg (by omega),if_pos h4,OG]at e2;rw[if_pos (Or.inl h0)]at e4;have e5:(oQ s.a).toNat * aj S' (o+1)<=(oQ s.a).toNat * (c1+1):=Nat.mul_le_mul_left _ (by omega);omega
theorem FC{S S2:List St}{e:Nat}(hk:∀k,k<e->S2[k]? =S[k]?):∀j,j<=e->dZ S2 j=dZ S j
 |0,_=>rfl
 |j+1,h=>by
  have h1:=FC hk j (by omega);simp only[dZ,hk j (by omega),h1]
theorem BD{S:List St}{p:Nat}{s:St}(hp:S[p]? =some s)(x:Int):∀j,dZ (S.set p {s with to:=x}) j=dZ S j
 |0=>rfl
 |j+1=>by
  have h1:=BD hp x j;have hlt:p<S.length:=by
   rcases Nat.lt_or_ge p S.length with h|h
   .exact h
   .rw[List.getElem?_eq_none h]at hp;cases hp
  by_cases hj:p=j
  .subst hj;simp only[dZ,h1,List.getElem?_set_self hlt,hp]
  .simp only[dZ,h1,List.getElem?_set_ne hj]
def wM(S:List St):Nat->Nat->List Bk->Prop
 |_,_,[]=>False
 |d,e,[b]=>b.other=0/\dZ S e=[]/\∃c:Nat,b.need=c+d/\kS S 0 e c
 |d,e,b::b'::r=>(∃(o:Nat)(s:St),b.kQ=o/\o<e/\S[o]? =some s/\
    ((s.op=4/\b.other=0/\b.before=0/\dZ S e=o::dZ S o/\∃c:Nat,b.need=c+d/\kS S (o+1) e c)\/
     (s.op=2/\b.other=0/\b.before=0/\dZ S e=dZ S o/\∃c:Nat,b.need=c+d/\kS S (o+1) e c)\/
     (s.op=2/\∃(x:Nat)(t:St),b.other=x/\o<x/\x<e/\S[x]? =some t/\t.op=3/\s.to=(x:Int)+1/\dZ S x=dZ S o/\dZ S e=dZ S o/\
       (∃c1:Nat,b.before=(c1:Int)+1/\kS S (o+1) x c1)/\∃c:Nat,b.need=c+d/\kS S (x+1) e c))/\
    wM S 1 o (b'::r))
theorem wM.aN{S S2:List St}:∀{bs:List Bk}{d e:Nat},wM S d e bs->(∀k,k<e->S2[k]? =S[k]?)->wM S2 d e bs
 |[],_,_,h,_=>h.elim
 |[b],d,e,⟨h1,h2,c,h3,h4⟩,hk=>⟨h1,(FC hk e (Nat.le_refl _)).trans h2,c,h3,h4.aN fun k _ hb=>hk k hb⟩
 |b::b'::r,d,e,⟨o,s,h1,h2,h3,h4,h5⟩,hk=>by
  have ke:=FC hk e (Nat.le_refl _);have ko:=FC hk o (by omega);refine⟨o,s,h1,h2,(hk o h2).trans h3,?_,h5.aN fun k hb=>hk k (by omega)⟩;rcases h4 with⟨a1,a2,a3,a4,c,a5,a6⟩|⟨a1,a2,a3,a4,c,a5,a6⟩|⟨a1,x,t,a2,a3,a4,a5,a6,a7,a8,a9,⟨c1,b1,b2⟩,c,b3,b4⟩
  .exact Or.inl ⟨a1,a2,a3,by rw[ke,ko];exact a4,c,a5,a6.aN fun k _ hb=>hk k hb⟩
  .exact Or.inr (Or.inl ⟨a1,a2,a3,by rw[ke,ko];exact a4,c,a5,a6.aN fun k _ hb=>hk k hb⟩)
  .refine Or.inr (Or.inr ⟨a1,x,t,a2,a3,a4,(hk x a4).trans a5,a6,a7,?_,by rw[ke,ko];exact a9,⟨c1,b1,b2.aN fun k _ hb=>hk k (by omega)⟩,c,b3,b4.aN fun k _ hb=>hk k hb⟩);rw[FC hk x (by omega),ko];exact a8
theorem wM.go{S S2:List St}{d o:Nat}{b:Bk}{r:List Bk}(h:wM S d o (b::r))(hk:∀k,k<o->S2[k]? =S[k]?){e w d':Nat}(hoe:o<=e)(hst:dZ S2 e=dZ S2 o)
 (hseg:∀a c,kS S2 a o c->kS S2 a e (c+w)){need':Int}(hn:need'+d=b.need+w+d'):wM S2 d' e ({b with need:=need'}::r):=by
 have h':=h.aN hk;cases r with
 |nil=>
  obtain⟨h1,h2,c,h3,h4⟩:=h';exact⟨h1,hst.trans h2,c+w,by show need'=_;push_cast;omega,hseg _ _ h4⟩
 |cons b' r=>
  obtain⟨o',s,h1,h2,h3,h4,h5⟩:=h';refine⟨o',s,h1,by omega,h3,?_,h5⟩;rcases h4 with⟨a1,a2,a3,a4,c,a5,a6⟩|⟨a1,a2,a3,a4,c,a5,a6⟩|⟨a1,x,t,a2,a3,a4,a5,a6,a7,a8,a9,b1,c,b3,b4⟩
  .exact Or.inl ⟨a1,a2,a3,hst.trans a4,c+w,by show need'=_;push_cast;omega,hseg _ _ a6⟩
  .exact Or.inr (Or.inl ⟨a1,a2,a3,hst.trans a4,c+w,by show need'=_;push_cast;omega,hseg _ _ a6⟩)
  .exact Or.inr (Or.inr ⟨a1,x,t,a2,a3,by omega,a5,a6,a7,a8,hst.trans a9,b1,c+w,by show need'=_;push_cast;omega,hseg _ _ b4⟩)
def wC(b:Bk):Int:=if 0<b.other then b.other else b.kQ
def opens:List Bk->List Int
 |[]=>[]
 |[_]=>[]
 |b::b'::r=>wC b::opens (b'::r)
theorem LC(b:Bk)(r:List Bk)(x:Int):opens ({b with need:=x}::r)=opens (b::r):=by
 cases r<;>rfl
structure rG(n:Nat)(s:St):Prop where
 op:0<=s.op/\s.op<=36
 ifs:s.op=2->St.slot n s.a
 bH:s.op=4->St.slot n s.b/\St.slot n s.c/\0<=s.depth/\s.depth<8
 FB:s.op=5->St.slot n s.a
 Dw:s.op=36->St.slot n s.a/\St.slot n s.b
 DV:¬s.op=1->¬s.op=2->¬s.op=3->¬s.op=4->¬s.op=5->¬s.op=0->¬s.op=36->s.ML n
theorem yZ{n m:Nat}(h:n<=m){x:Int}(hx:St.slot n x):St.slot m x:=⟨hx.1,by have:=hx.2;omega⟩
theorem rG.more{n m:Nat}(h:n<=m){s:St}(hb:rG n s):rG m s:=by
 refine⟨hb.op,fun e=>yZ h (hb.ifs e),fun e=>⟨yZ h (hb.bH e).1,yZ h (hb.bH e).2.1,(hb.bH e).2.2⟩,fun e=>yZ h (hb.FB e),fun e=>⟨yZ h (hb.Dw e).1,yZ h (hb.Dw e).2⟩,fun a b c d e f g=>?_⟩;obtain⟨w1,w2,w3⟩:=hb.DV a b c d e f g;refine⟨w1,yZ h w2,?_⟩;rcases w3 with w3|w3|⟨w3,w4⟩
 .exact Or.inl w3
 .exact Or.inr (Or.inl w3)
 .refine Or.inr (Or.inr ⟨yZ h w3,?_⟩);rcases w4 with w4|⟨w4,w5⟩
  .exact Or.inl w4
  .exact Or.inr ⟨yZ h w4,fun e=>yZ h (w5 e)⟩
def wO(S:List St)(k:Nat)(s:St):Prop:=(s.op=2\/s.op=3\/s.op=4)->0<=s.to/\k<s.to.toNat/\s.to<=S.length/\dZ S s.to.toNat=dZ S k
structure BL(S:List St)(k:Nat)(s:St):Prop where
 depth:s.op=4->s.depth=(dZ S k).length
 back:(s.op=0\/s.op=5)->0<=s.to/\(dZ S k).head?=some s.to.toNat
structure Inv(l:Ls):Prop where
 chain:wM l.ay 0 l.ay.length l.aI.reverse
 bH:l.bH=(dZ l.ay l.ay.length).reverse.map Int.ofNat
 eight:l.bH.length<=8
 each:∀(k:Nat)(s:St),l.ay[k]? =some s->rG l.aF.toNat s/\BL l.ay k s/\((k:Int)∉opens l.aI.reverse->wO l.ay k s)
 bound:∀b∈l.aI,0<=b.need/\b.need<=40000040/\0<=b.before/\b.before<=40000040
 aF:8<=l.aF/\l.aF<=2008
 bad:l.bad=false
section
theorem count_eq{l:Ls}{init:List Bk}{b:Bk}(h:l.aI=init++[b])(more:Int):
 l.count more={l with aI:=init++[{b with need:=wrap64 (b.need+more)}],bad:=l.bad||decide (40000040<wrap64 (b.need+more))}:=by
 simp[Ls.count,Ls.dM,h]
theorem add_eq{l:Ls}{init:List Bk}{b:Bk}(h:l.aI=init++[b])(st:St):
 fE l st={l with ay:=l.ay++[st],aI:=init++[{b with need:=wrap64 (b.need+1)}],bad:=l.bad||decide (40000040<wrap64 (b.need+1))}:=by
 unfold fE;rw[count_eq (l:={l with ay:=l.ay++[st]}) h]
theorem MJ{l:Ls}{init:List Bk}{b:Bk}(h:l.aI=init++[b]):l.dM=b:=by simp[Ls.dM,h]
theorem wrap_small{x:Int}(h0:0<=x)(h1:x<=9000000000):wrap64 x=x:=by unfold wrap64;omega
theorem Inv.split{l:Ls}(h:Inv l):∃init b,l.aI=init++[b]:=by
 have hc:=h.chain;rcases List.eq_nil_or_concat l.aI with e|⟨init,b,e⟩
 .rw[e]at hc;exact hc.elim
 .exact⟨init,b,by rw[e,List.concat_eq_append]⟩
theorem y8(S:List St)(st:St):∀j,j<=S.length->dZ (S++[st]) j=dZ S j:=
 FC fun _ hk=>List.getElem?_append_left hk
theorem IW(S:List St)(st:St)(h4:¬st.op=4)(h0:¬st.op=0):dZ (S++[st]) (S.length+1)=dZ S S.length:=by
 simp only[dZ,List.getElem?_concat_length,if_neg h4,if_neg h0,y8 S st _ (Nat.le_refl _)]
theorem wO.append{S:List St}{k:Nat}{s:St}(h:wO S k s)(hk:k<S.length)(t:St):wO (S++[t]) k s:=fun ho=>by
 obtain⟨h0,h1,h2,h3⟩:=h ho;refine⟨h0,h1,by simp;omega,?_⟩;rw[y8 S t _ (by omega),y8 S t _ (by omega)];exact h3
theorem BL.append{S:List St}{k:Nat}{s:St}(h:BL S k s)(hk:k<=S.length)(t:St):BL (S++[t]) k s:=by
 have e:=y8 S t k hk;exact⟨fun ho=>by rw[e];exact h.depth ho,fun ho=>by rw[e];exact h.back ho⟩
theorem wO.Ak{S:List St}{k:Nat}{s:St}(h:wO S k s){p:Nat}{sp:St}(hp:S[p]? =some sp)(x:Int):wO (S.set p {sp with to:=x}) k s:=fun ho=>by
 obtain⟨h0,h1,h2,h3⟩:=h ho;exact⟨h0,h1,by simpa using h2,by rw[BD hp,BD hp];exact h3⟩
theorem BL.Ak{S:List St}{k:Nat}{s:St}(h:BL S k s){p:Nat}{sp:St}(hp:S[p]? =some sp)(x:Int):BL (S.set p {sp with to:=x}) k s:=
 ⟨fun ho=>by rw[BD hp];exact h.depth ho,fun ho=>by rw[BD hp];exact h.back ho⟩
theorem Gs{n:Nat}{s:St}(h:rG n s)(x:Int):rG n {s with to:=x}:=⟨h.op,h.ifs,h.bH,h.FB,h.Dw,h.DV⟩
theorem Z7{n:Nat}{s:St}(h:rG n s)(x:Int)(h0:0<=x)(h1:x<8):rG n {s with depth:=x}:=⟨h.op,h.ifs,fun e=>⟨(h.bH e).1,(h.bH e).2.1,h0,h1⟩,h.FB,h.Dw,h.DV⟩
theorem Ez{S:List St}{k:Nat}{s:St}(h:S[k]? =some s):k<S.length:=by
 rcases Nat.lt_or_ge k S.length with h'|h'
 .exact h'
 .rw[List.getElem?_eq_none h']at h;cases h
theorem get_append{S:List St}{t:St}{k:Nat}{s:St}(h:(S++[t])[k]? =some s):(k<S.length/\S[k]? =some s)\/(k=S.length/\s=t):=by
 have hlt:=Ez h;rw[List.length_append,List.length_singleton]at hlt;by_cases hk:k<S.length
 .rw[List.getElem?_append_left hk]at h;exact Or.inl ⟨hk,h⟩
 .have:k=S.length:=by omega
  subst this;rw[List.getElem?_concat_length]at h;exact Or.inr ⟨rfl,(Option.some.inj h).symm⟩
variable {l:Ls}
theorem Vf(h:Inv l)(st:St)(hb:rG l.aF.toNat st)(h0:¬st.op=0)(h2:¬st.op=2)(h3:¬st.op=3)(h4:¬st.op=4)(hback:st.op=5->0<=st.to/\(dZ l.ay l.ay.length).head?=some st.to.toNat)(hg:(fE l st).bad=false):Inv (fE l st):=by
 obtain⟨init,b,e⟩:=h.split;have hbd:=h.bound b (by rw[e];simp);rw[add_eq e]at hg⊢;rw[wrap_small (by omega) (by omega)]at hg⊢;simp only[h.bad,Bool.false_or,decide_eq_false_iff_not]at hg;have hc:=h.chain;rw[e]at hc;simp only[List.reverse_append,List.reverse_cons,List.reverse_nil,List.nil_append,List.singleton_append]at hc;refine⟨?_,?_,h.eight,?_,?_,h.aF,by simp[h.bad];omega⟩
 .simp only[List.reverse_append,List.reverse_cons,List.reverse_nil,List.nil_append,List.singleton_append,List.length_append,List.length_cons,List.length_nil];refine hc.go (w:=1) (fun k hk=>List.getElem?_append_left hk) (by omega) ?_ ?_ (by omega)
  .rw[IW _ _ h4 h0,y8 _ _ _ (Nat.le_refl _)]
  .exact fun a c hs=>hs.step (List.getElem?_concat_length ..) h2 h3 h4
 .simp only[List.length_append,List.length_cons,List.length_nil];rw[IW _ _ h4 h0];exact h.bH
 .intro k s hk;rcases get_append hk with⟨hk,hks⟩|⟨rfl,rfl⟩
  .obtain⟨g1,g2,g3⟩:=h.each k s hks;refine⟨g1,g2.append (by omega) st,fun hn=>(g3 ?_).append hk st⟩;rw[e];simp only[List.reverse_append,List.reverse_cons,List.reverse_nil,List.nil_append,List.singleton_append]at hn⊢
   rwa [LC]at hn
  .refine⟨hb,⟨fun ho=>absurd ho h4,fun ho=>?_⟩,fun _ ho=>by omega⟩;rw[y8 _ _ _ (Nat.le_refl _)];exact hback (ho.resolve_left h0)
 .intro x hx;rcases List.mem_append.1 hx with hx|hx
  .exact h.bound x (by rw[e];exact List.mem_append_left _ hx)
  .rw[List.mem_singleton]at hx;subst hx;exact⟨by show 0<=b.need+1;omega,by show b.need+1<=_;omega,hbd.2.2⟩
theorem Vk(h:Inv l)(st:St)(hb:rG l.aF.toNat st)(ho:st.op=2\/st.op=4)(hd:st.op=4->st.depth=l.bH.length)(lo:List Int)(hlo:lo=if st.op=4 then l.bH++[(l.ay.length:Int)]else l.bH)(h8:lo.length<=8)
 (hg:(sD l st).bad=false):Inv {sD l st with bH:=lo}:=by
 obtain⟨init,b,e⟩:=h.split;have hbd:=h.bound b (by rw[e];simp);unfold sD at hg⊢;rw[add_eq e]at hg⊢;rw[wrap_small (by omega) (by omega)]at hg⊢;simp only[h.bad,Bool.false_or,decide_eq_false_iff_not]at hg;have hc:=h.chain;rw[e]at hc;simp only[List.reverse_append,List.reverse_cons,List.reverse_nil,List.nil_append,List.singleton_append]at hc;have ha:=y8 l.ay st _ (Nat.le_refl l.ay.length);have hgn:(l.ay++[st])[l.ay.length]? =some st:=List.getElem?_concat_length ..;have hout:wM (l.ay++[st]) 1 l.ay.length ({b with need:=b.need+1}::init.reverse):=
  hc.go (w:=0) (fun k hk=>List.getElem?_append_left hk) (Nat.le_refl _) rfl (fun a c hs=>hs) (by omega)
 refine⟨?_,?_,h8,?_,?_,h.aF,by simp[h.bad];omega⟩
 .simp only[List.reverse_append,List.reverse_cons,List.reverse_nil,List.nil_append,List.length_append,List.length_cons,List.length_nil,List.cons_append];refine⟨l.ay.length,st,rfl,by omega,hgn,?_,hout⟩;rcases ho with ho|ho
  .refine Or.inr (Or.inl ⟨ho,rfl,rfl,?_,0,rfl,kS.nil _ _⟩);rw[IW _ _ (by omega) (by omega),ha]
  .refine Or.inl ⟨ho,rfl,rfl,?_,0,rfl,kS.nil _ _⟩;simp only[dZ,hgn,if_pos ho]
 .simp only[List.length_append,List.length_cons,List.length_nil];rw[hlo];rcases ho with ho|ho
  .rw[if_neg (by omega),IW _ _ (by omega) (by omega)];exact h.bH
  .rw[if_pos ho];simp only[dZ,hgn,if_pos ho,ha,List.reverse_cons,List.map_append,<-h.bH]
   rfl
 .intro k s hk;rcases get_append hk with⟨hk,hks⟩|⟨rfl,rfl⟩
  .obtain⟨g1,g2,g3⟩:=h.each k s hks;refine⟨g1,g2.append (by omega) st,fun hn=>(g3 ?_).append hk st⟩;rw[e];simp only[List.reverse_append,List.reverse_cons,List.reverse_nil,List.nil_append,List.cons_append]at hn⊢;simp only[opens,LC]at hn;exact fun hm=>hn (List.mem_cons_of_mem _ hm)
  .refine⟨hb,⟨fun h4=>?_,fun h0=>by omega⟩,fun hn=>?_⟩
   .rw[hd h4,ha,h.bH];simp
   .simp only[List.reverse_append,List.reverse_cons,List.reverse_nil,List.nil_append,List.cons_append,opens]at hn;exact absurd (by simp[wC]) hn
 .intro x hx;rcases List.mem_append.1 hx with hx|hx
  .rcases List.mem_append.1 hx with hx|hx
   .exact h.bound x (by rw[e];exact List.mem_append_left _ hx)
   .rw[List.mem_singleton]at hx;subst hx;exact⟨by show 0<=b.need+1;omega,by show b.need+1<=_;omega,hbd.2.2⟩
  .rw[List.mem_singleton]at hx;subst hx;exact⟨by simp,by simp,by simp,by simp⟩
end
section
theorem Inv.MB{l:Ls}(h:Inv l)(h2:¬l.aI.length=1):∃init bo b,l.aI=init++[bo]++[b]:=by
 obtain⟨i1,b,e⟩:=h.split;rcases List.eq_nil_or_concat i1 with e1|⟨init,bo,e1⟩
 .subst e1;rw[e]at h2;simp at h2
 .exact⟨init,bo,b,by rw[e,e1,List.concat_eq_append]⟩
theorem uT(init:List Bk)(bo b:Bk):(init++[bo]++[b]).reverse=b::bo::init.reverse:=by simp
theorem LV(init:List Bk)(b:Bk):(init++[b]).reverse=b::init.reverse:=by simp
theorem Og{S:List St}{p:Nat}{sp:St}(hp:S[p]? =some sp){x:Int}{k:Nat}{s:St}(h:(S.set p {sp with to:=x})[k]? =some s):
 (k=p/\s={sp with to:=x})\/(k≠p/\S[k]? =some s):=by
 by_cases hk:p=k
 .subst hk;rw[List.getElem?_set_self (Ez hp)]at h;exact Or.inl ⟨rfl,(Option.some.inj h).symm⟩
 .rw[List.getElem?_set_ne hk]at h;exact Or.inr ⟨fun e=>hk e.symm,h⟩
variable {l:Ls}
theorem Vg(h:Inv l)(init:List Bk)(bo b:Bk)(e:l.aI=init++[bo]++[b])(o p:Nat)(so sp:St)(ho:b.kQ=o)(hso:l.ay[o]? =some so)(hop:¬so.op=4)(hp:l.ay[p]? =some sp)(hpe:wC b=p)
 (hg:(oP l p sp (init++[bo]) b).bad=false):Inv (oP l p sp (init++[bo]) b):=by
 have hbd:=h.bound b (by rw[e];simp);have EH:=h.bound bo (by rw[e];simp);have hc:=h.chain;rw[e,uT]at hc;obtain⟨o',s',c1,c2,c3,c4,c5⟩:=hc;have:o'=o:=by omega
 subst this;rw[hso]at c3;cases c3;unfold oP at hg⊢;have hcount:=count_eq (l:={l with ay:=l.ay.set p {sp with to:=l.ay.length},aI:=init++[bo]}) (init:=init) (b:=bo) rfl (max b.need b.before);rw[hcount]at hg⊢;have hmx:0<=max b.need b.before/\max b.need b.before<=40000040:=by omega
 rw[wrap_small (by omega) (by omega)]at hg⊢;simp only[h.bad,Bool.false_or,decide_eq_false_iff_not]at hg;have hpl:=Ez hp;have hst:=BD hp (l.ay.length:Int);have hself:(l.ay.set p {sp with to:=(l.ay.length:Int)})[p]? =some {sp with to:=(l.ay.length:Int)}:=List.getElem?_set_self hpl;have hne:∀k,k≠p->(l.ay.set p {sp with to:=(l.ay.length:Int)})[k]? =l.ay[k]? :=fun k hk=>List.getElem?_set_ne (fun e=>hk e.symm);have hop0:o'<=p/\(sp.op=2\/sp.op=3)/\dZ l.ay l.ay.length=dZ l.ay p/\dZ l.ay l.ay.length=dZ l.ay o':=by
  rcases c4 with⟨a1,_⟩|⟨a1,a2,a3,a4,c,a5,a6⟩|⟨a1,x,t,a2,a3,a4,a5,a6,a7,a8,a9,⟨cc,b1,b2⟩,c,b3,b4⟩
  .exact absurd a1 hop
  .have:p=o':=by unfold wC at hpe;rw[if_neg (by omega)]at hpe;omega
   subst this;rw[hso]at hp;cases hp;exact⟨Nat.le_refl _,Or.inl a1,a4,a4⟩
  .have:p=x:=by unfold wC at hpe;rw[if_pos (by omega)]at hpe;omega
   subst this;rw[a5]at hp;cases hp;exact⟨by omega,Or.inr a6,a9.trans a8.symm,a9⟩
 obtain⟨hop1,hop2,acE,akc⟩:=hop0;refine⟨?_,?_,h.eight,?_,?_,h.aF,by simp[h.bad];omega⟩
 .rw[LV];simp only[List.length_set];have hlow:∀k,k<o'->(l.ay.set p {sp with to:=(l.ay.length:Int)})[k]? =l.ay[k]? :=fun k hk=>hne k (by omega);rcases c4 with⟨a1,_⟩|⟨a1,a2,a3,a4,c,a5,a6⟩|⟨a1,x,t,a2,a3,a4,a5,a6,a7,a8,a9,⟨cc,b1,b2⟩,c,b3,b4⟩
  .exact absurd a1 hop
  .have:p=o':=by unfold wC at hpe;rw[if_neg (by omega)]at hpe;omega
   subst this;rw[hso]at hp;cases hp;refine c5.go (w:=1+c) hlow (by omega) (by rw[hst,hst];exact a4) (fun a cc hs=>hs.acX hself a1 rfl (a6.aN fun k hk _=>hne k (by omega))) ?_;rw[a3];omega
  .have:p=x:=by unfold wC at hpe;rw[if_pos (by omega)]at hpe;omega
   subst this;refine c5.go (w:=1+max (cc+1) c) hlow (by omega) (by rw[hst,hst];exact a9) (fun a c' hs=>hs.acW ((hne o' (by omega)).trans hso) a1 a7 (b2.aN fun k hk _=>hne k (by omega)) hself (by rw[a5]at hp;cases hp;exact a6) rfl (b4.aN fun k hk _=>hne k (by omega))) ?_;rw[b1,b3];omega
 .simp only[List.length_set];rw[hst];exact h.bH
 .intro k s hk;have hcl:wO (l.ay.set p {sp with to:=(l.ay.length:Int)}) p {sp with to:=(l.ay.length:Int)}:=fun _=>by
   refine⟨by show(0:Int)<=l.ay.length;omega,by show p<((l.ay.length:Int)).toNat;omega,by simp,?_⟩;rw[hst,hst];show dZ l.ay ((l.ay.length:Int)).toNat=_;rw[Int.toNat_natCast];exact acE
  rcases Og hp hk with⟨rfl,rfl⟩|⟨hkp,hks⟩
  .obtain⟨g1,g2,g3⟩:=h.each k sp hp;have g2':=g2.Ak hp (l.ay.length:Int);refine⟨Gs g1 _,⟨fun h4=>by have:sp.op=4:=h4;omega,fun h0=>by have:sp.op=0\/sp.op=5:=h0;omega⟩,fun _=>hcl⟩
  .obtain⟨g1,g2,g3⟩:=h.each k s hks;refine⟨g1,g2.Ak hp _,fun hn=>(g3 ?_).Ak hp _⟩;rw[e,uT];rw[LV,LC]at hn;simp only[opens,hpe];exact fun hm=>(List.mem_cons.1 hm).elim (fun e=>hkp (by omega)) hn
 .intro x hx;rcases List.mem_append.1 hx with hx|hx
  .exact h.bound x (by rw[e];simp[hx])
  .rw[List.mem_singleton]at hx;subst hx;exact⟨by show 0<=bo.need+_;omega,by show bo.need+_<=_;omega,EH.2.2⟩
theorem ado(h:Inv l)(init:List Bk)(bo b:Bk)(e:l.aI=init++[bo]++[b])(o:Nat)(so st:St)(ho:b.kQ=o)(hso:l.ay[o]? =some so)(hop:so.op=4)(hs0:st.op=0)(hb:rG l.aF.toNat st)
 (hg:(xq l st o so).bad=false):Inv (xq l st o so):=by
 have hbd:=h.bound b (by rw[e];simp);have EH:=h.bound bo (by rw[e];simp);have hc:=h.chain;rw[e,uT]at hc;obtain⟨o',s',c1,c2,c3,c4,c5⟩:=hc;have:o'=o:=by omega
 subst this;rw[hso]at c3;cases c3;rcases c4 with⟨a1,a2,a3,a4,c,a5,a6⟩|⟨a1,_⟩|⟨a1,_⟩
 rotate_left
 .omega
 .omega
 unfold xq Ew at hg⊢;have hadd:=add_eq e {st with to:=o'};rw[hadd]at hg⊢;rw[wrap_small (x:=b.need+1) (by omega) (by omega)]at hg⊢;have hn1:(oQ so.a).toNat=oQ so.a:=by unfold oQ;split<;>rfl
 have hls:oQ so.a=8\/oQ so.a=16:=by unfold oQ;split<;>simp
 have htop:Ls.dM {l with ay:=l.ay++[{st with to:=(o':Int)}],aI:=init++[bo]++[{b with need:=b.need+1}],bad:=l.bad||decide (40000040<b.need+1)}={b with need:=b.need+1}:=by simp[Ls.dM]
 rw[htop]at hg⊢;simp only[List.dropLast_concat]at hg⊢;have hcount:=count_eq (l:={l with ay:=(l.ay++[{st with to:=(o':Int)}]).set o' {so with to:=((l.ay++[{st with to:=(o':Int)}]).length:Int)},aI:=init++[bo],bH:=l.bH.dropLast,bad:=l.bad||decide (40000040<b.need+1)}) (init:=init) (b:=bo) rfl (wrap64 (oQ so.a * (b.need+1)));have hmul:0<=oQ so.a * (b.need+1)/\oQ so.a * (b.need+1)<=1000000000:=by
  rcases hls with h'|h'<;>rw[h']<;>omega
 rw[hcount]at hg⊢;rw[wrap_small (x:=oQ so.a * (b.need+1)) (by omega) (by omega)]at hg⊢;rw[wrap_small (x:=bo.need+_) (by omega) (by omega)]at hg⊢;simp only[h.bad,Bool.false_or,Bool.or_eq_false_iff,decide_eq_false_iff_not]at hg;obtain⟨hg1,hg2⟩:=hg;have hol:=Ez hso;have hlen:(l.ay++[{st with to:=(o':Int)}]).length=l.ay.length+1:=by simp
 have yK:(l.ay++[{st with to:=(o':Int)}])[o']? =some so:=by rw[List.getElem?_append_left hol];exact hso
 have hst:=BD yK ((l.ay++[{st with to:=(o':Int)}]).length:Int);have hap:=y8 l.ay {st with to:=(o':Int)};have hself:((l.ay++[{st with to:=(o':Int)}]).set o' {so with to:=((l.ay++[{st with to:=(o':Int)}]).length:Int)})[o']? =some {so with to:=((l.ay++[{st with to:=(o':Int)}]).length:Int)}:=List.getElem?_set_self (by omega);have hne:∀k,k≠o'->k<l.ay.length->((l.ay++[{st with to:=(o':Int)}]).set o' {so with to:=((l.ay++[{st with to:=(o':Int)}]).length:Int)})[k]? =l.ay[k]? :=fun k hk hl=>by
  rw[List.getElem?_set_ne (fun e=>hk e.symm),List.getElem?_append_left hl]
 have hlast:((l.ay++[{st with to:=(o':Int)}]).set o' {so with to:=((l.ay++[{st with to:=(o':Int)}]).length:Int)})[l.ay.length]? =some {st with to:=(o':Int)}:=by
  rw[List.getElem?_set_ne (by omega),List.getElem?_concat_length]
 have hnext:dZ (l.ay++[{st with to:=(o':Int)}]) (l.ay.length+1)=dZ l.ay o':=by
  simp only[dZ,List.getElem?_concat_length,hap _ (Nat.le_refl _),a4,if_pos hs0,List.tail_cons];rw[if_neg (by omega)]
 refine⟨?_,?_,?_,?_,?_,h.aF,by simp[h.bad];omega⟩
 .rw[LV];simp only[List.length_set,hlen]at hself hlast hne⊢;refine c5.go (w:=1+(oQ so.a).toNat * (c+1)) (fun k hk=>hne k (by omega) (by omega)) (by omega) ?_ (fun a c' hs=>kS.loop (s:={so with to:=((l.ay.length+1:Nat):Int)}) hs hself hop (by show((l.ay.length+1:Nat):Int)=_;omega) (a6.aN fun k hk hk2=>hne k (by omega) hk2) hlast hs0) ?_
  .rw[hlen]at hst;rw[hst,hst,hnext,hap o' (by omega)]
  .have Zn:b.need=c:=by omega
   rw[Zn]
   push_cast
   rw[hn1];omega
 .simp only[List.length_set,hlen]at hst⊢;rw[hst,hnext,h.bH,a4];simp
 .have:=h.eight;simp only[List.length_dropLast];omega
 .intro k s hk;have hcl:wO ((l.ay++[{st with to:=(o':Int)}]).set o' {so with to:=((l.ay++[{st with to:=(o':Int)}]).length:Int)}) o' {so with to:=((l.ay++[{st with to:=(o':Int)}]).length:Int)}:=fun _=>by
   refine⟨by show(0:Int)<=((l.ay++[{st with to:=(o':Int)}]).length:Int);omega,by show o'<((l.ay++[{st with to:=(o':Int)}]).length:Int).toNat;omega,by simp,?_⟩;rw[hst,hst];show dZ _ ((l.ay++[{st with to:=(o':Int)}]).length:Int).toNat=_;rw[Int.toNat_natCast,hlen,hnext,hap o' (by omega)]
  rcases Og yK hk with⟨rfl,rfl⟩|⟨hkp,hks⟩
  .obtain⟨g1,g2,g3⟩:=h.each k so hso;have g2':=(g2.append (by omega) {st with to:=(k:Int)}).Ak yK ((l.ay++[{st with to:=(k:Int)}]).length:Int);exact⟨Gs g1 _,⟨g2'.depth,fun h0=>by have:so.op=0\/so.op=5:=h0;omega⟩,fun _=>hcl⟩
  .rcases get_append hks with⟨hkl,hks⟩|⟨rfl,rfl⟩
   .obtain⟨g1,g2,g3⟩:=h.each k s hks;refine⟨g1,(g2.append (by omega) _).Ak yK _,fun hn=>((g3 ?_).append hkl _).Ak yK _⟩;rw[e,uT];rw[LV,LC]at hn;simp only[opens,wC,a2,c1];exact fun hm=>(List.mem_cons.1 hm).elim (fun e=>hkp (by simp at e;omega)) hn
   .refine⟨Gs hb _,⟨fun h4=>by have:st.op=4:=h4;omega,fun _=>⟨by show(0:Int)<=o';omega,?_⟩⟩,fun _ ho=>by have:st.op=2\/st.op=3\/st.op=4:=ho;omega⟩;rw[hst,hap _ (Nat.le_refl _),a4];simp
 .intro x hx;rcases List.mem_append.1 hx with hx|hx
  .exact h.bound x (by rw[e];simp[hx])
  .rw[List.mem_singleton]at hx;subst hx;exact⟨by show 0<=bo.need+_;omega,by show bo.need+_<=_;omega,EH.2.2⟩
end
end Hx
end Go.Proofs.YthllhabjfchgiaaGreatDoor
