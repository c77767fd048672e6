import Derived.Test.YthllhabjfchgiaaGreatDoorHz05
set_option maxRecDepth 100000
set_option maxHeartbeats 8000000
namespace Go.Proofs.YthllhabjfchgiaaGreatDoor
namespace Hx
open Go.RowKit
section
variable {l:Ls}
theorem adn(h:Inv l)(init:List Bk)(bo b:Bk)(e:l.aI=init++[bo]++[b])(o:Nat)(so st:St)(ho:b.kQ=o)(hso:l.ay[o]? =some so)(hop:so.op=2)(hot:¬0<b.other)(hs3:st.op=3)(hb:rG l.aF.toNat st)
 (hg:(AY l st o so).bad=false):Inv (AY l st o so):=by
 have hbd:=h.bound b (by rw[e];simp);have hc:=h.chain;rw[e,uT]at hc;obtain⟨o',s',c1,c2,c3,c4,c5⟩:=hc;have:o'=o:=by omega
 subst this;rw[hso]at c3;cases c3;rcases c4 with⟨a1,_⟩|⟨a1,a2,a3,a4,c,a5,a6⟩|⟨a1,x,t,a2,a3,_⟩
 .omega
 rotate_left
 .omega
 unfold AY Et at hg⊢;rw[add_eq e st]at hg⊢;rw[wrap_small (x:=b.need+1) (by omega) (by omega)]at hg⊢;have htop:Ls.dM {l with ay:=l.ay++[st],aI:=init++[bo]++[{b with need:=b.need+1}],bad:=l.bad||decide (40000040<b.need+1)}={b with need:=b.need+1}:=by simp[Ls.dM]
 rw[htop]at hg⊢;simp only[List.dropLast_concat]at hg⊢;simp only[h.bad,Bool.false_or,decide_eq_false_iff_not]at hg;have hol:=Ez hso;have hlen:(l.ay++[st]).length=l.ay.length+1:=by simp
 have yK:(l.ay++[st])[o']? =some so:=by rw[List.getElem?_append_left hol];exact hso
 have hst:=BD yK ((l.ay++[st]).length:Int);have hap:=y8 l.ay st;have hself:((l.ay++[st]).set o' {so with to:=((l.ay++[st]).length:Int)})[o']? =some {so with to:=((l.ay++[st]).length:Int)}:=List.getElem?_set_self (by omega);have hne:∀k,k≠o'->k<l.ay.length->((l.ay++[st]).set o' {so with to:=((l.ay++[st]).length:Int)})[k]? =l.ay[k]? :=fun k hk hl=>by
  rw[List.getElem?_set_ne (fun e=>hk e.symm),List.getElem?_append_left hl]
 have hlast:((l.ay++[st]).set o' {so with to:=((l.ay++[st]).length:Int)})[l.ay.length]? =some st:=by
  rw[List.getElem?_set_ne (by omega),List.getElem?_concat_length]
 have hnext:dZ (l.ay++[st]) (l.ay.length+1)=dZ l.ay l.ay.length:=IW _ _ (by omega) (by omega);refine⟨?_,?_,h.eight,?_,?_,h.aF,by simp[h.bad];omega⟩
 .rw[uT];simp only[List.length_set,hlen]at hself hlast hne hst⊢;refine⟨o',{so with to:=((l.ay.length+1:Nat):Int)},ho,by omega,hself,Or.inr (Or.inr ⟨hop,l.ay.length,st,rfl,by omega,by omega,hlast,hs3,by show((l.ay.length+1:Nat):Int)=_;omega,?_,?_,⟨c,?_,a6.aN fun k hk hk2=>hne k (by omega) hk2⟩,0,rfl,kS.nil _ _⟩),c5.aN fun k hk=>hne k (by omega) (by omega)⟩
  .rw[hst,hst,hap _ (Nat.le_refl _),hap o' (by omega)];exact a4
  .rw[hst,hst,hnext,hap o' (by omega)];exact a4
  .show b.need+1=_;omega
 .simp only[List.length_set,hlen]at hst⊢;rw[hst,hnext];exact h.bH
 .intro k s hk;have hcl:wO ((l.ay++[st]).set o' {so with to:=((l.ay++[st]).length:Int)}) o' {so with to:=((l.ay++[st]).length:Int)}:=fun _=>by
   refine⟨by show(0:Int)<=((l.ay++[st]).length:Int);omega,by show o'<((l.ay++[st]).length:Int).toNat;omega,by simp,?_⟩;rw[hst,hst];show dZ _ ((l.ay++[st]).length:Int).toNat=_;rw[Int.toNat_natCast,hlen,hnext,hap o' (by omega)];exact a4
  rcases Og yK hk with⟨rfl,rfl⟩|⟨hkp,hks⟩
  .obtain⟨g1,g2,g3⟩:=h.each k so hso;exact⟨Gs g1 _,⟨fun h4=>by have:so.op=4:=h4;omega,fun h0=>by have:so.op=0\/so.op=5:=h0;omega⟩,fun _=>hcl⟩
  .rcases get_append hks with⟨hkl,hks⟩|⟨rfl,rfl⟩
   .obtain⟨g1,g2,g3⟩:=h.each k s hks;refine⟨g1,(g2.append (by omega) _).Ak yK _,fun hn=>((g3 ?_).append hkl _).Ak yK _⟩;rw[e,uT];rw[uT]at hn;simp only[opens,wC,a2,c1]at hn⊢;exact fun hm=>(List.mem_cons.1 hm).elim (fun e=>hkp (by simp at e;omega)) fun hm=>hn (List.mem_cons_of_mem _ hm)
   .refine⟨hb,⟨fun h4=>by omega,fun h0=>by omega⟩,fun hn=>?_⟩;rw[uT]at hn;simp only[opens,wC]at hn;rw[if_pos (by omega)]at hn;exact absurd List.mem_cons_self hn
 .intro x hx;rcases List.mem_append.1 hx with hx|hx
  .exact h.bound x (by rw[e];exact List.mem_append_left _ hx)
  .rw[List.mem_singleton]at hx;subst hx;exact⟨by simp,by simp,by show 0<=b.need+1;omega,by show b.need+1<=_;omega⟩
structure DX(l:Ls):Prop where
 sound:Jt l.ay l.aF.toNat
 need:(aj l.ay 0:Int)<=l.need
 most:l.need<=40000040
 aF:8<=l.aF/\l.aF<=2008
 aI:l.aI=[]
theorem abt(h:Inv l)(h1:l.aI.length=1)(hl:l.ay.length<=900000)(hg:(xk l).bad=false):DX (xk l):=by
 obtain⟨init,b,e⟩:=h.split;have hi:init=[]:=by
  rw[e]at h1;simp at h1;exact h1
 subst hi;have hbd:=h.bound b (by rw[e];simp);have hc:=h.chain;rw[e]at hc;obtain⟨c1,c2,c,c3,c4⟩:=hc;unfold xk at hg⊢;rw[add_eq e ⟨1,0,0,0,0,0,0⟩]at hg⊢;rw[wrap_small (x:=b.need+1) (by omega) (by omega)]at hg⊢;have htop:Ls.dM {l with ay:=l.ay++[⟨1,0,0,0,0,0,0⟩],aI:=[]++[{b with need:=b.need+1}],bad:=l.bad||decide (40000040<b.need+1)}={b with need:=b.need+1}:=by simp[Ls.dM]
 rw[htop];simp only[h.bad,Bool.false_or,decide_eq_false_iff_not]at hg;have hap:=y8 l.ay ⟨1,0,0,0,0,0,0⟩;have hlen:(l.ay++[(⟨1,0,0,0,0,0,0⟩:St)]).length=l.ay.length+1:=by simp
 have hlast:(l.ay++[(⟨1,0,0,0,0,0,0⟩:St)])[l.ay.length]? =some ⟨1,0,0,0,0,0,0⟩:=List.getElem?_concat_length ..;have hcl:∀(k:Nat)(s:St),l.ay[k]? =some s->wO l.ay k s:=fun k s hk=>(h.each k s hk).2.2 (by rw[e];simp[opens]);have hloop:∀(k:Nat)(s:St),l.ay[k]? =some s->(s.op=0\/s.op=5)->O4 (l.ay++[⟨1,0,0,0,0,0,0⟩]) l.aF.toNat s.to:=fun k s hk ho=>by
  obtain⟨g1,g2,g3⟩:=h.each k s hk;obtain⟨b1,b2⟩:=g2.back ho;cases hs:dZ l.ay k with
  |nil=>rw[hs]at b2;cases b2
  |cons p r=>
   rw[hs]at b2;simp only[List.head?_cons,Option.some.injEq]at b2;obtain⟨sl,l1,l2,l3,l4⟩:=ais l.ay k p r hs;have hp:=Ez l1;obtain⟨d1,d2,d3,d4⟩:=hcl p sl l1 (Or.inr (Or.inr l2));obtain⟨e1,_,e3⟩:=(h.each p sl l1).1.bH l2;refine⟨sl,b1,?_,by rw[hlen];omega,d1,by rw[hlen];omega,e1,e3⟩;rw[<-b2,List.getElem?_append_left hp];exact l1
 have OD:Jt (l.ay++[⟨1,0,0,0,0,0,0⟩]) l.aF.toNat:=by
  refine⟨⟨by omega,by omega,fun k s hk=>?_⟩,fun k s hk ho=>?_,fun k s hk ho=>?_,fun k s hk ho=>?_⟩
  .rcases get_append hk with⟨hk,hks⟩|⟨rfl,rfl⟩
   .obtain⟨g1,g2,g3⟩:=h.each k s hks;have g4:=hcl k s hks;refine⟨by have:=g1.op;omega,fun _ _ _=>by omega,fun h2=>?_,fun h3=>?_,fun h4=>?_,fun h5=>⟨g1.FB h5,hloop k s hks (Or.inr h5)⟩,fun h0=>hloop k s hks (Or.inl h0),g1.Dw,g1.DV⟩
    .obtain⟨d1,d2,d3,d4⟩:=g4 (Or.inl h2);exact⟨g1.ifs h2,d1,by omega⟩
    .obtain⟨d1,d2,d3,d4⟩:=g4 (Or.inr (Or.inl h3));exact⟨d1,by omega⟩
    .obtain⟨d1,d2,d3,d4⟩:=g4 (Or.inr (Or.inr h4));exact⟨d1,by omega,g1.bH h4⟩
   .exact⟨by simp,fun h=>absurd rfl h,fun h=>by simp at h,fun h=>by simp at h,fun h=>by simp at h,fun h=>by simp at h,fun h=>by simp at h,fun h=>by simp at h,fun h=>absurd rfl h⟩
  .rcases get_append hk with⟨hk,hks⟩|⟨rfl,rfl⟩
   .obtain⟨d1,d2,d3,d4⟩:=hcl k s hks ho;exact⟨d2,by rw[hap _ (by omega),hap _ (by omega)];exact d4⟩
   .simp at ho
  .rcases get_append hk with⟨hk,hks⟩|⟨rfl,rfl⟩
   .rw[hap _ (by omega)];exact(h.each k s hks).2.1.depth ho
   .simp at ho
  .rcases get_append hk with⟨hk,hks⟩|⟨rfl,rfl⟩
   .rw[hap _ (by omega)];exact((h.each k s hks).2.1.back ho).2
   .simp at ho
 refine⟨OD,?_,by show b.need+1<=_;omega,h.aF,rfl⟩;have g1:=c4.2 _ OD.ahead fun k _ hk=>List.getElem?_append_left hk;have g2:=CJ OD.ahead hlast;rw[if_pos (Or.inr rfl)]at g2;show(aj (l.ay++[⟨1,0,0,0,0,0,0⟩]) 0:Int)<=b.need+1;omega
theorem Vj(h:Inv l)(s:St)(hb:rG l.aF.toNat s)(hl:l.ay.length<=900000)(hg:(dH l s).bad=false):Inv (dH l s)\/DX (dH l s):=by
 unfold dH at hg⊢;by_cases h2:s.op=2
 .rw[if_pos h2]at hg⊢;exact Or.inl (Vk h s hb (Or.inl h2) (fun e=>by omega) l.bH (by rw[if_neg (by omega)]) h.eight hg)
 rw[if_neg h2]at hg⊢;by_cases h4:s.op=4
 .rw[if_pos h4]at hg⊢;by_cases h8:l.bH.length=8
  .rw[if_pos h8]at hg;cases hg
  .rw[if_neg h8]at hg⊢;have he:=h.eight;exact Or.inl (Vk h {s with depth:=l.bH.length} (Z7 hb _ (by omega) (by omega)) (Or.inr h4) (fun _=>rfl) _ (by rw[if_pos h4]) (by simp;omega) hg)
 rw[if_neg h4]at hg⊢;by_cases h3:s.op=3
 .rw[if_pos h3]at hg⊢;by_cases hx:l.aI.length=1\/0<l.dM.other
  .rw[if_pos hx]at hg;cases hg
  .rw[if_neg hx]at hg⊢;obtain⟨init,bo,b,e⟩:=h.MB (fun e=>hx (Or.inl e));have hc:=h.chain;rw[e,uT]at hc;obtain⟨o,so,c1,c2,c3,c4,c5⟩:=hc;have ht:l.dM=b:=MJ e;have hto:l.dM.kQ.toNat=o:=by rw[ht,c1];simp
   rw[hto,c3]at hg⊢;simp only at hg⊢;by_cases hso:so.op=2
   .rw[if_pos hso]at hg⊢;exact Or.inl (adn h init bo b e o so s c1 c3 hso (fun e=>hx (Or.inr (by rw[ht];exact e))) h3 hb hg)
   .rw[if_neg hso]at hg;cases hg
 rw[if_neg h3]at hg⊢;by_cases h0:s.op=0
 .rw[if_pos h0]at hg⊢;by_cases hx:l.aI.length=1
  .rw[if_pos hx]at hg⊢;exact Or.inr (abt h hx hl hg)
  .rw[if_neg hx]at hg⊢;obtain⟨init,bo,b,e⟩:=h.MB hx;have hc:=h.chain;rw[e,uT]at hc;obtain⟨o,so,c1,c2,c3,c4,c5⟩:=hc;have ht:l.dM=b:=MJ e;have hto:l.dM.kQ.toNat=o:=by rw[ht,c1];simp
   have hdl:l.aI.dropLast=init++[bo]:=by rw[e];simp
   rw[hto,c3]at hg⊢;simp only at hg⊢;by_cases hso:so.op=4
   .rw[if_pos hso]at hg⊢;exact Or.inl (ado h init bo b e o so s c1 c3 hso h0 hb hg)
   .rw[if_neg hso]at hg⊢;rw[ht,hdl]at hg⊢;rcases c4 with⟨a1,_⟩|⟨a1,a2,a3,a4,c,a5,a6⟩|⟨a1,x,t,a2,a3,a4,a5,_⟩
    .exact absurd a1 hso
    .rw[if_neg (by omega)]at hg⊢;exact Or.inl (Vg h init bo b e o o so so c1 c3 hso c3 (by unfold wC;rw[if_neg (by omega),c1]) hg)
    .have hxt:b.other.toNat=x:=by omega
     rw[if_pos (by omega),hxt,a5]at hg⊢;simp only at hg⊢;exact Or.inl (Vg h init bo b e o x so t c1 c3 hso a5 (by unfold wC;rw[if_pos (by omega),a2]) hg)
 rw[if_neg h0]at hg⊢;by_cases h5:s.op=5
 .rw[if_pos h5]at hg⊢;unfold IQ at hg⊢;by_cases hx:l.bH=[]
  .rw[if_pos hx]at hg;cases hg
  .rw[if_neg hx]at hg⊢;refine Or.inl (Vf h {s with to:=l.bH.getLastD 0} (Gs hb _) h0 h2 h3 h4 (fun _=>?_) hg);have hlo:=h.bH;cases hs:dZ l.ay l.ay.length with
   |nil=>rw[hs]at hlo;exact absurd hlo hx
   |cons p r=>
    rw[hs]at hlo;have:l.bH.getLastD 0=(p:Int):=by rw[hlo];simp
    show 0<=l.bH.getLastD 0/\_=some (l.bH.getLastD 0).toNat;rw[this];exact⟨by omega,by simp⟩
 .rw[if_neg h5]at hg⊢;exact Or.inl (Vf h s hb h0 h2 h3 h4 (fun e=>absurd e h5) hg)
end
theorem ac5(x:Int)(h0:0<=x)(h1:x<18446744073709551616):aZ (signed x):=by
 unfold signed;split
 .exact EJ _ _ _
 .unfold aZ;omega
theorem afv(x y:Int):0<=bits .or .u64 x y/\bits .or .u64 x y<18446744073709551616:=⟨bits_lo_u64 _ _ _,by have:=bits_hi_u64 .or x y;omega⟩
theorem U9(s:List UInt8)(p:Nat):∀(r i:Nat)(acc:Int),aZ (qE s p r i acc).1/\0<=(qE s p r i acc).2/\(qE s p r i acc).2<=i+r
 |0,i,acc=>⟨tq,by simp[qE],by simp only[qE];omega⟩
 |r+1,i,acc=>by
  have ih:=U9 s p r (i+1) (bits .or .u64 acc (IntKind.u64.wrap (((s.getD (p+i) 0).toNat%128:Nat) * 2^(i * 7))));have hb:=afv acc (IntKind.u64.wrap (((s.getD (p+i) 0).toNat%128:Nat) * 2^(i * 7)));simp only[qE];split
  .exact⟨tq,by simp,by simp only;omega⟩
  .split
   .exact⟨ac5 _ hb.1 hb.2,by simp only;omega,by simp only;omega⟩
   .exact⟨ih.1,ih.2.1,by have:=ih.2.2;push_cast at this;omega⟩
theorem U8(s:List UInt8)(p:Nat)(hp:p<=s.length):aZ (read s p).1/\0<=(read s p).2/\(p:Int)+(read s p).2<=s.length:=by
 have:=U9 s p (min (s.length-p) 10) 0 0;unfold read;exact⟨this.1,this.2.1,by have:=this.2.2;omega⟩
theorem Xn(bs:List UInt8):∀(cs:List UInt8)(p:Nat)(sl:Int)(ns:List Int)(p':Nat)(sl':Int),rE bs cs p sl=some (ns,p',sl')->p<=bs.length->sl<=2008->
 ns.length=cs.length/\p<=p'/\p'<=bs.length/\sl<=sl'/\sl'<=2008/\(∀x∈ns,aZ x)/\(∀i,cs[i]? =some 115->0<=ns.getD i 0/\ns.getD i 0<sl')
 |[],p,sl,ns,p',sl',h,hp,hs=>by
  simp only[rE]at h;cases h;exact⟨rfl,Nat.le_refl _,hp,Int.le_refl _,hs,by simp,by simp⟩
 |c::cs,p,sl,ns,p',sl',h,hp,hs=>by
  obtain⟨r1,r2,r3⟩:=U8 bs p hp;simp only[rE]at h;split at h
  .cases h
  rename_i h0;split at h
  .cases h
  rename_i h1;split at h
  .cases h
  rename_i h2;cases hr:rE bs cs (p+(read bs p).2.toNat) (if c=115 then max sl ((read bs p).1+1)else sl)with
  |none=>rw[hr]at h;cases h
  |some q=>
   obtain⟨ns1,p1,sl1⟩:=q;rw[hr]at h;simp only[Option.map_some,Option.some.injEq,Prod.mk.injEq]at h;obtain⟨e1,e2,e3⟩:=h;subst e1;subst e2;subst e3;have hsl:(if c=115 then max sl ((read bs p).1+1)else sl)<=2008/\sl<=(if c=115 then max sl ((read bs p).1+1)else sl)/\(c=115->0<=(read bs p).1/\(read bs p).1<(if c=115 then max sl ((read bs p).1+1)else sl)):=by
    by_cases hc:c=115
    .have h3:¬((read bs p).1<0\/2008<=(read bs p).1):=fun e=>h1 ⟨hc,e⟩;simp only[if_pos hc];refine⟨by omega,by omega,fun _=>⟨by omega,by omega⟩⟩
    .simp only[if_neg hc];exact⟨hs,Int.le_refl _,fun e=>absurd e hc⟩
   obtain⟨g1,g2,g3,g4,g5,g6,g7⟩:=Xn bs cs _ _ _ _ _ hr (by omega) hsl.1;refine⟨by simp[g1],by omega,g3,by omega,g5,fun x hx=>?_,fun i hi=>?_⟩
   .rcases List.mem_cons.1 hx with rfl|hx
    .exact r1
    .exact g6 x hx
   .cases i with
    |zero=>
     simp only[List.getElem?_cons_zero,Option.some.injEq]at hi;have:=hsl.2.2 hi;simp only[List.getD_cons_zero];omega
    |succ i=>
     simp only[List.getElem?_cons_succ]at hi;simp only[List.getD_cons_succ];exact g7 i hi
theorem Z8(o:Int)(ns:List Int)(n:Nat)(hn:8<=n)(h0:0<=o)(h1:o<=36)(hlen:ns.length=(shape o).length)(hin:∀x∈ns,aZ x)(f:∀i:Nat,(shape o)[i]? =some 115->St.slot n (ns.getD i 0)):
 rG n ⟨o,ns.getD 0 0,ns.getD 1 0,ns.getD 2 0,ns.getD 3 0,0,0⟩:=by
 have g:∀i:Nat,(shape o).length<=i->St.slot n (ns.getD i 0):=fun i hi=>by
  rw[List.getD_eq_getElem?_getD,List.getElem?_eq_none (by omega)];exact⟨by simp,by simp;omega⟩
 have hb:aZ (ns.getD 1 0):=by
  rw[List.getD_eq_getElem?_getD];cases he:ns[1]?with
  |none=>exact tq
  |some x=>exact hin x (List.mem_of_getElem? he)
 have A:=f 0;have B:=f 1;have C:=f 2;have D:=f 3;have gC:=g 2;clear hlen hin f g;generalize ns.getD 0 0=a at *;generalize ns.getD 1 0=b at *;generalize ns.getD 2 0=c at *;generalize ns.getD 3 0=d at *;have hc:o=0\/o=1\/o=2\/o=3\/o=4\/o=5\/o=6\/o=7\/o=8\/o=9\/o=10\/o=11\/o=12\/o=13\/o=14\/o=15\/o=16\/o=17\/o=18\/o=19\/o=20\/o=21\/o=22\/o=23\/o=24\/o=25\/o=26\/o=27\/o=28\/o=29\/o=30\/o=31\/o=32\/o=33\/o=34\/o=35\/o=36:=by omega
 rcases hc with rfl|rfl|rfl|rfl|rfl|rfl|rfl|rfl|rfl|rfl|rfl|rfl|rfl|rfl|rfl|rfl|rfl|rfl|rfl|rfl|rfl|rfl|rfl|rfl|rfl|rfl|rfl|rfl|rfl|rfl|rfl|rfl|rfl|rfl|rfl|rfl|rfl;all_goals refine⟨⟨by simp,by simp⟩,?_,?_,?_,?_,?_⟩
 all_goals first
  |(intro h;simp at h;done)
  |exact fun _=>A (by decide)
  |exact fun _=>⟨A (by decide),B (by decide)⟩
  |exact fun _=>⟨B (by decide),C (by decide),by simp,by simp⟩
  |exact fun _ _ _ _ _ _ h=>absurd rfl h
  |exact fun _ _ _ _ _ h _=>absurd rfl h
  |exact fun _ _ _ _ h _ _=>absurd rfl h
  |exact fun _ _ _ h _ _ _=>absurd rfl h
  |exact fun _ _ h _ _ _ _=>absurd rfl h
  |exact fun _ h _ _ _ _ _=>absurd rfl h
  |exact fun h _ _ _ _ _ _=>absurd rfl h
  |exact fun _ _ _ _ _ _ _=>⟨hb,A (by decide),Or.inl rfl⟩
  |exact fun _ _ _ _ _ _ _=>⟨hb,A (by decide),Or.inr (Or.inl rfl)⟩
  |exact fun _ _ _ _ _ _ _=>⟨hb,A (by decide),Or.inr (Or.inr ⟨B (by decide),Or.inl rfl⟩)⟩
  |(refine fun _ _ _ _ _ _ _=>⟨hb,A (by decide),Or.inr (Or.inr ⟨B (by decide),Or.inr ⟨C (by decide),fun h=>?_⟩⟩)⟩;simp at h;done)
  |(refine fun _ _ _ _ _ _ _=>⟨hb,A (by decide),Or.inr (Or.inr ⟨B (by decide),Or.inr ⟨gC (by decide),fun h=>?_⟩⟩)⟩;simp at h;done)
  |exact fun _ _ _ _ _ _ _=>⟨hb,A (by decide),Or.inr (Or.inr ⟨B (by decide),Or.inr ⟨C (by decide),fun _=>D (by decide)⟩⟩)⟩
theorem Qh{bs:List UInt8}{l l':Ls}{s:St}(h:sG bs l=some (s,l'))(hp:0<=l.pos)(hsl:8<=l.aF/\l.aF<=2008):
 rG l'.aF.toNat s/\l.pos<l'.pos/\l'.pos<=bs.length/\l.aF<=l'.aF/\l'.aF<=2008/\l'={l with pos:=l'.pos,aF:=l'.aF}:=by
 unfold sG at h;split at h
 .cases h
 rename_i o ho;have hlt:l.pos.toNat<bs.length:=by
  rcases Nat.lt_or_ge l.pos.toNat bs.length with h'|h'
  .exact h'
  .rw[List.getElem?_eq_none h']at ho;cases ho
 split at h
 .rename_i hop;split at h
  .cases h
  rename_i ns p sl hr;cases h;obtain⟨g1,g2,g3,g4,g5,g6,g7⟩:=Xn bs _ _ _ _ _ _ hr (by omega) hsl.2;have hop':0<=(o.toNat:Int)/\(o.toNat:Int)<=36:=of_decide_eq_true hop;refine⟨Z8 _ _ _ (by show 8<=sl.toNat;omega) hop'.1 hop'.2 g1 g6 (fun i hi=>?_),by show l.pos<(p:Int);omega,by show(p:Int)<=_;omega,g4,g5,rfl⟩;obtain⟨k1,k2⟩:=g7 i hi;exact⟨k1,by show _<(sl.toNat:Int);omega⟩
 .cases h
theorem Inv.read{l:Ls}(h:Inv l){p sl:Int}(h1:l.aF<=sl)(h2:sl<=2008):Inv {l with pos:=p,aF:=sl}:=
 ⟨h.chain,h.bH,h.eight,fun k s hk=>⟨(h.each k s hk).1.more (by show l.aF.toNat<=sl.toNat;omega),(h.each k s hk).2⟩,h.bound,⟨by show 8<=sl;have:=h.aF;omega,h2⟩,h.bad⟩
theorem Vd(l:Ls)(s:St):(dH l s).ay.length<=l.ay.length+1/\(dH l s).pos=l.pos:=by
 unfold dH;repeat' split
 all_goals first
  |exact⟨Nat.le_succ _,rfl⟩
  |(refine⟨?_,rfl⟩;simp[sD,EO,AY,Et,xk,xq,Ew,oP,fE,Ls.count];done)
  |skip
 .unfold IQ;split
  .exact⟨Nat.le_succ _,rfl⟩
  .refine⟨?_,rfl⟩;simp[fE,Ls.count]
theorem wM.len{S:List St}:∀{bs:List Bk}{d e:Nat},wM S d e bs->bs.length<=e+1
 |[],_,_,h=>h.elim
 |[b],d,e,_=>by simp
 |b::b'::r,d,e,⟨o,s,h1,h2,h3,h4,h5⟩=>by
  have:=h5.len;simp only[List.length_cons]at this⊢;omega
theorem Inv.aI{l:Ls}(h:Inv l):l.aI≠[]/\l.aI.length<=l.ay.length+1:=by
 obtain⟨init,b,e⟩:=h.split;refine⟨by rw[e];simp,?_⟩;have:=h.chain.len;simpa using this
theorem VD(bs:List UInt8)(f:Nat)(l:Ls)(h:l.bad=true):su bs f l=l:=by
 cases f with
 |zero=>rfl
 |succ f=>simp only[su,if_pos (show l.aI=[]\/l.bad=true from Or.inr h)]
theorem VE(bs:List UInt8)(f:Nat)(l:Ls)(h:l.aI=[]):su bs f l=l:=by
 cases f with
 |zero=>rfl
 |succ f=>simp only[su,if_pos (show l.aI=[]\/l.bad=true from Or.inl h)]
theorem VG(bs:List UInt8)(f:Nat)(l l':Ls)(s:St)(h:Inv l)(hr:sG bs l=some (s,l')):su bs (f+1) l=su bs f (dH l' s):=by
 have h1:¬(l.aI=[]\/l.bad=true):=fun e=>e.elim h.aI.1 (fun e=>by rw[h.bad]at e;cases e);simp only[su,if_neg h1,hr]
theorem VF(bs:List UInt8)(hbs:bs.length<=100000):∀(f:Nat)(l:Ls),Inv l->0<=l.pos->(l.ay.length:Int)<=l.pos->l.pos<=bs.length->bs.length-l.pos<f->(su bs f l).bad=false->DX (su bs f l)
 |0,l,_,_,_,h2,h3,_=>by omega
 |f+1,l,h,h0,h1,h2,h3,hb=>by
  have hn:¬(l.aI=[]\/l.bad=true):=fun e=>e.elim h.aI.1 (fun e=>by rw[h.bad]at e;cases e);cases hr:sG bs l with
  |none=>
   simp only[su,if_neg hn,hr]at hb;cases hb
  |some q=>
   obtain⟨s,l'⟩:=q;rw[VG bs f l l' s h hr]at hb⊢;obtain⟨g1,g2,g3,g4,g5,g6⟩:=Qh hr h0 h.aF;have hi:Inv l':=by rw[g6];exact h.read g4 g5
   have hs:l'.ay=l.ay:=by rw[g6]
   obtain⟨k1,k2⟩:=Vd l' s;have hbad:(dH l' s).bad=false:=by
    cases hbb:(dH l' s).bad with
    |false=>rfl
    |true=>rw[VD bs f _ hbb,hbb]at hb;cases hb
   rcases Vj hi s g1 (by rw[hs];omega) hbad with hv|hv
   .exact VF bs hbs f _ hv (by rw[k2];omega) (by rw[k2];rw[hs]at k1;omega) (by rw[k2];exact g3) (by rw[k2];omega) hb
   .rw[VE bs f _ hv.aI];exact hv
theorem Vh:Inv pK:=by
 refine⟨⟨rfl,rfl,0,rfl,kS.nil _ _⟩,rfl,by simp[pK],fun k s hk=>by simp[pK]at hk,fun b hb=>?_,⟨by simp[pK],by simp[pK]⟩,rfl⟩;simp only[pK,List.mem_singleton]at hb;subst hb;exact⟨by simp,by simp,by simp,by simp⟩
theorem VH(bs:List UInt8)(hbs:bs.length<=100000)(hb:(eF bs).bad=false):DX (eF bs):=
 VF bs hbs _ _ Vh (by simp[pK]) (by simp[pK]) (by simp[pK]) (by simp only[pK];omega) hb
end Hx
end Go.Proofs.YthllhabjfchgiaaGreatDoor
