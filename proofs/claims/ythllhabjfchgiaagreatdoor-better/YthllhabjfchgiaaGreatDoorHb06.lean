import Derived.Test.YthllhabjfchgiaaGreatDoorHb05
import Derived.Test.YthllhabjfchgiaaGreatDoorHb04
import Derived.Lib.OthersKept
import Derived.Deep.CutBlock
import Derived.Deep.DeepCutAuto
set_option maxRecDepth 100000
set_option maxHeartbeats 8000000
set_option linter.unusedSimpArgs false
namespace Go.Proofs.YthllhabjfchgiaaGreatDoor
open _root_.Go.Proofs.Tryz
namespace Hx
open Go.RowKit
section
variable {l:Ls}
theorem alf(h:Inv l)(init:List Bk)(bo b:Bk)(e:l.jI=init++[bo]++[b])(o:Nat)(so st:St)(ho:b.opener=o)(hso:l.jC[o]? =some so)(hop:so.op=2)(hot:¬0<b.other)(hs3:st.op=3)(hb:xR l.jE.toNat st)
 (hg:(Ea l st o so).bad=false):Inv (Ea l st o so):=by
 have hbd:=h.bound b (by rw[e];simp);have hc:=h.chain;rw[e,zM]at hc;obtain⟨o',s',c1,c2,c3,c4,c5⟩:=hc;have:o'=o:=by omega
 subst this;rw[hso]at c3;cases c3;rcases c4 with⟨a1,_⟩|⟨a1,a2,a3,a4,c,a5,a6⟩|⟨a1,x,t,a2,a3,_⟩
 .omega
 rotate_left
 .omega
 unfold Ea FP at hg⊢;rw[add_eq e st]at hg⊢;rw[wrap_small (x:=b.jD+1) (by omega) (by omega)]at hg⊢;have htop:Ls.top {l with jC:=l.jC++[st],jI:=init++[bo]++[{b with jD:=b.jD+1}],bad:=l.bad||decide (40000040<b.jD+1)}={b with jD:=b.jD+1}:=by simp[Ls.top]
 rw[htop]at hg⊢;simp only[List.dropLast_concat]at hg⊢;simp only[h.bad,ig,decide_eq_false_iff_not]at hg;have hol:=Jj hso;have hlen:(l.jC++[st]).length=l.jC.length+1:=by simp
 have Dc:(l.jC++[st])[o']? =some so:=by rw[aT hol];exact hso
 have hst:=Gt Dc ((l.jC++[st]).length:Int);have hap:=DC l.jC st;have hself:((l.jC++[st]).set o' {so with ku:=((l.jC++[st]).length:Int)})[o']? =some {so with ku:=((l.jC++[st]).length:Int)}:=dY (by omega);have hne:∀k,k≠o'->k<l.jC.length->((l.jC++[st]).set o' {so with ku:=((l.jC++[st]).length:Int)})[k]? =l.jC[k]? :=λk hk hl=>by
  rw[dQ (λe=>hk e.symm),aT hl]
 have hlast:((l.jC++[st]).set o' {so with ku:=((l.jC++[st]).length:Int)})[l.jC.length]? =some st:=by
  rw[dQ (by omega),eu]
 have hnext:kW (l.jC++[st]) (l.jC.length+1)=kW l.jC l.jC.length:=NS _ _ (by omega) (by omega);refine⟨?_,?_,h.eight,?_,?_,h.jE,by simp[h.bad];omega⟩
 .rw[zM];simp only[iK,hlen]at hself hlast hne hst⊢;refine⟨o',{so with ku:=((l.jC.length+1:Nat):Int)},ho,by omega,hself,jh (jh ⟨hop,l.jC.length,st,rfl,by omega,by omega,hlast,hs3,by show((l.jC.length+1:Nat):Int)=_;omega,?_,?_,⟨c,?_,a6.keep λk hk hk2=>hne k (by omega) hk2⟩,0,rfl,pI.nil _ _⟩),c5.keep λk hk=>hne k (by omega) (by omega)⟩
  .rw[hst,hst,hap _ (aj _),hap o' (by omega)];exact a4
  .rw[hst,hst,hnext,hap o' (by omega)];exact a4
  .show b.jD+1=_;omega
 .simp only[iK,hlen]at hst⊢;rw[hst,hnext];exact h.jY
 .intro k s hk;have hcl:Cc ((l.jC++[st]).set o' {so with ku:=((l.jC++[st]).length:Int)}) o' {so with ku:=((l.jC++[st]).length:Int)}:=λ_=>by
   refine⟨by show(0:Int)<=((l.jC++[st]).length:Int);omega,by show o'<((l.jC++[st]).length:Int).toNat;omega,by simp,?_⟩;rw[hst,hst];rw[bK,hlen,hnext,hap o' (by omega)];exact a4
  rcases Ug Dc hk with⟨rfl,rfl⟩|⟨hkp,hks⟩
  .obtain⟨g1,g2,g3⟩:=h.each k so hso;exact⟨Le g1 _,⟨λh4=>by have:so.op=4:=h4;omega,λh0=>by have:so.op=0\/so.op=5:=h0;omega⟩,λ_=>hcl⟩
  .rcases get_append hks with⟨hkl,hks⟩|⟨rfl,rfl⟩
   .obtain⟨g1,g2,g3⟩:=h.each k s hks;refine⟨g1,(g2.append (by omega) _).EN Dc _,λhn=>((g3 ?_).append hkl _).EN Dc _⟩;rw[e,zM];rw[zM]at hn;simp only[opens,Aq,a2,c1]at hn⊢
    exactλhm=>(dh.1 hm).elim (λe=>hkp (by simp at e;omega)) λhm=>hn (aI _ hm)
   .refine⟨hb,⟨λh4=>by omega,λh0=>by omega⟩,λhn=>?_⟩;rw[zM]at hn;simp only[opens,Aq]at hn;rw[jl (by omega)]at hn;exact jq aW hn
 .intro x hx;rcases List.mem_append.1 hx with hx|hx
  .exact h.bound x (by rw[e];exact eP _ hx)
  .rw[cO]at hx;subst hx;exact⟨by simp,by simp,by show 0<=b.jD+1;omega,by show b.jD+1<=_;omega⟩
structure IL(l:Ls):Prop where
 sound:Sound l.jC l.jE.toNat
 jD:(jy l.jC 0:Int)<=l.jD
 vM:l.jD<=40000040
 jE:8<=l.jE/\l.jE<=2008
 jI:l.jI=[]
theorem ajz(h:Inv l)(h1:l.jI.length=1)(hl:l.jC.length<=900000)(hg:(zX l).bad=false):IL (zX l):=by
 obtain⟨init,b,e⟩:=h.split;have hi:init=[]:=by
  rw[e]at h1;simp at h1;exact h1
 subst hi;have hbd:=h.bound b (by rw[e];simp);have hc:=h.chain;rw[e]at hc;obtain⟨c1,c2,c,c3,c4⟩:=hc;unfold zX at hg⊢;rw[add_eq e ⟨1,0,0,0,0,0,0⟩]at hg⊢;rw[wrap_small (x:=b.jD+1) (by omega) (by omega)]at hg⊢;have htop:Ls.top {l with jC:=l.jC++[⟨1,0,0,0,0,0,0⟩],jI:=[]++[{b with jD:=b.jD+1}],bad:=l.bad||decide (40000040<b.jD+1)}={b with jD:=b.jD+1}:=by simp[Ls.top]
 rw[htop];simp only[h.bad,ig,decide_eq_false_iff_not]at hg;have hap:=DC l.jC ⟨1,0,0,0,0,0,0⟩;have hlen:(l.jC++[(⟨1,0,0,0,0,0,0⟩:St)]).length=l.jC.length+1:=by simp
 have hlast:(l.jC++[(⟨1,0,0,0,0,0,0⟩:St)])[l.jC.length]? =some ⟨1,0,0,0,0,0,0⟩:=eu ..;have hcl:=λ(k:Nat)(s:St)(hk:l.jC[k]? =some s)=>(h.each k s hk).2.2 (by rw[e];simp[opens]);have hloop:∀(k:Nat)(s:St),l.jC[k]? =some s->(s.op=0\/s.op=5)->UY (l.jC++[⟨1,0,0,0,0,0,0⟩]) l.jE.toNat s.ku:=λk s hk ho=>by
  obtain⟨g1,g2,g3⟩:=h.each k s hk;obtain⟨b1,b2⟩:=g2.back ho;cases hs:kW l.jC k with
  |nil=>rw[hs]at b2;cases b2
  |cons p r=>
   rw[hs]at b2;simp only[List.head?_cons,bJ]at b2;obtain⟨sl,l1,l2,l3,l4⟩:=afE l.jC k p r hs;have hp:=Jj l1;obtain⟨d1,d2,d3,d4⟩:=hcl p sl l1 (jh (jh l2));obtain⟨e1,_,e3⟩:=(h.each p sl l1).1.jY l2;refine⟨sl,b1,?_,by rw[hlen];omega,d1,by rw[hlen];omega,e1,e3⟩;rw[<-b2,aT hp];exact l1
 have UJ:Sound (l.jC++[⟨1,0,0,0,0,0,0⟩]) l.jE.toNat:=by
  refine⟨⟨by omega,by omega,λk s hk=>?_⟩,λk s hk ho=>?_,λk s hk ho=>?_,λk s hk ho=>?_⟩
  .rcases get_append hk with⟨hk,hks⟩|⟨rfl,rfl⟩
   .obtain⟨g1,g2,g3⟩:=h.each k s hks;have g4:=hcl k s hks;refine⟨by have:=g1.op;omega,λ_ _ _=>by omega,λh2=>?_,λh3=>?_,λh4=>?_,λh5=>⟨g1.IC h5,hloop k s hks (jh h5)⟩,λh0=>hloop k s hks (ji h0),g1.Iq,g1.works⟩
    .obtain⟨d1,d2,d3,d4⟩:=g4 (ji h2);exact⟨g1.ifs h2,d1,by omega⟩
    .obtain⟨d1,d2,d3,d4⟩:=g4 (jh (ji h3));exact⟨d1,by omega⟩
    .obtain⟨d1,d2,d3,d4⟩:=g4 (jh (jh h4));exact⟨d1,by omega,g1.jY h4⟩
   .exact⟨by simp,λh=>jq rfl h,λh=>by simp at h,λh=>by simp at h,λh=>by simp at h,λh=>by simp at h,λh=>by simp at h,λh=>by simp at h,λh=>jq rfl h⟩
  .rcases get_append hk with⟨hk,hks⟩|⟨rfl,rfl⟩
   .obtain⟨d1,d2,d3,d4⟩:=hcl k s hks ho;exact⟨d2,by rw[hap _ (by omega),hap _ (by omega)];exact d4⟩
   .simp at ho
  .rcases get_append hk with⟨hk,hks⟩|⟨rfl,rfl⟩
   .rw[hap _ (by omega)];exact(h.each k s hks).2.1.depth ho
   .simp at ho
  .rcases get_append hk with⟨hk,hks⟩|⟨rfl,rfl⟩
   .rw[hap _ (by omega)];exact((h.each k s hks).2.1.back ho).2
   .simp at ho
 refine⟨UJ,?_,by show b.jD+1<=_;omega,h.jE,rfl⟩;have g1:=c4.2 _ UJ.ahead λk _ hk=>aT hk;have g2:=D9 UJ.ahead hlast;rw[jl (jh rfl)]at g2;show(jy (l.jC++[⟨1,0,0,0,0,0,0⟩]) 0:Int)<=b.jD+1;omega
theorem acf(h:Inv l)(s:St)(hb:xR l.jE.toNat s)(hl:l.jC.length<=900000)(hg:(lD l s).bad=false):Inv (lD l s)\/IL (lD l s):=by
 unfold lD at hg⊢;by_cases h2:s.op=2
 .rw[jl h2]at hg⊢;exact ji (acg h s hb (ji h2) (λe=>by omega) l.jY (by rw[jk (by omega)]) h.eight hg)
 rw[jk h2]at hg⊢;by_cases h4:s.op=4
 .rw[jl h4]at hg⊢;by_cases h8:l.jY.length=8
  .rw[jl h8]at hg;cases hg
  .rw[jk h8]at hg⊢;have he:=h.eight;exact ji (acg h {s with depth:=l.jY.length} (ahB hb _ (by omega) (by omega)) (jh h4) (λ_=>rfl) _ (by rw[jl h4]) (by simp;omega) hg)
 rw[jk h4]at hg⊢;by_cases h3:s.op=3
 .rw[jl h3]at hg⊢;by_cases hx:l.jI.length=1\/0<l.top.other
  .rw[jl hx]at hg;cases hg
  .rw[jk hx]at hg⊢;obtain⟨init,bo,b,e⟩:=h.split2 (λe=>hx (ji e));have hc:=h.chain;rw[e,zM]at hc;obtain⟨o,so,c1,c2,c3,c4,c5⟩:=hc;have ht:=Rz e;have hto:l.top.opener.toNat=o:=by rw[ht,c1];simp
   rw[hto,c3]at hg⊢;simp only at hg⊢;by_cases hso:so.op=2
   .rw[jl hso]at hg⊢;exact ji (alf h init bo b e o so s c1 c3 hso (λe=>hx (jh (by rw[ht];exact e))) h3 hb hg)
   .rw[jk hso]at hg;cases hg
 rw[jk h3]at hg⊢;by_cases h0:s.op=0
 .rw[jl h0]at hg⊢;by_cases hx:l.jI.length=1
  .rw[jl hx]at hg⊢;exact jh (ajz h hx hl hg)
  .rw[jk hx]at hg⊢;obtain⟨init,bo,b,e⟩:=h.split2 hx;have hc:=h.chain;rw[e,zM]at hc;obtain⟨o,so,c1,c2,c3,c4,c5⟩:=hc;have ht:=Rz e;have hto:l.top.opener.toNat=o:=by rw[ht,c1];simp
   have hdl:l.jI.dropLast=init++[bo]:=by rw[e];simp
   rw[hto,c3]at hg⊢;simp only at hg⊢;by_cases hso:so.op=4
   .rw[jl hso]at hg⊢;exact ji (alg h init bo b e o so s c1 c3 hso h0 hb hg)
   .rw[jk hso]at hg⊢;rw[ht,hdl]at hg⊢;rcases c4 with⟨a1,_⟩|⟨a1,a2,a3,a4,c,a5,a6⟩|⟨a1,x,t,a2,a3,a4,a5,_⟩
    .exact jq a1 hso
    .rw[jk (by omega)]at hg⊢;exact ji (acd h init bo b e o o so so c1 c3 hso c3 (by unfold Aq;rw[jk (by omega),c1]) hg)
    .have hxt:b.other.toNat=x:=by omega
     rw[jl (by omega),hxt,a5]at hg⊢;simp only at hg⊢;exact ji (acd h init bo b e o x so t c1 c3 hso a5 (by unfold Aq;rw[jl (by omega),a2]) hg)
 rw[jk h0]at hg⊢;by_cases h5:s.op=5
 .rw[jl h5]at hg⊢;unfold IB at hg⊢;by_cases hx:l.jY=[]
  .rw[jl hx]at hg;cases hg
  .rw[jk hx]at hg⊢;refine ji (ab9 h {s with ku:=l.jY.getLastD 0} (Le hb _) h0 h2 h3 h4 (λ_=>?_) hg);have hlo:=h.jY;cases hs:kW l.jC l.jC.length with
   |nil=>rw[hs]at hlo;exact jq hlo hx
   |cons p r=>
    rw[hs]at hlo;have:l.jY.getLastD 0=(p:Int):=by rw[hlo];simp
    show 0<=l.jY.getLastD 0/\_=some (l.jY.getLastD 0).toNat;rw[this];exact⟨by omega,by simp⟩
 .rw[jk h5]at hg⊢;exact ji (ab9 h s hb h0 h2 h3 h4 (λe=>jq e h5) hg)
end
theorem ak2(x:Int)(h0:0<=x)(h1:x<18446744073709551616):jO (signed x):=by
 unfold signed;split
 .exact Js _ _ _
 .unfold jO;omega
theorem aoe(x y:Int):0<=bits .or .u64 x y/\bits .or .u64 x y<18446744073709551616:=⟨bits_lo_u64 _ _ _,by have:=bits_hi_u64 .or x y;omega⟩
theorem ab2(s:List UInt8)(p:Nat):∀(r i:Nat)(acc:Int),jO (tY s p r i acc).1/\0<=(tY s p r i acc).2/\(tY s p r i acc).2<=i+r
 |0,i,acc=>⟨Di,by simp[tY],by simp only[tY];omega⟩
 |r+1,i,acc=>by
  have ih:=ab2 s p r (i+1) (bits .or .u64 acc (IntKind.u64.wrap (((s.getD (p+i) 0).toNat%128:Nat) * 2^(i * 7))));have hb:=aoe acc (IntKind.u64.wrap (((s.getD (p+i) 0).toNat%128:Nat) * 2^(i * 7)));simp only[tY];split
  .exact⟨Di,by simp,by simp only;omega⟩
  .split
   .exact⟨ak2 _ hb.1 hb.2,by simp only;omega,by simp only;omega⟩
   .exact⟨ih.1,ih.2.1,by have:=ih.2.2;push_cast at this;omega⟩
theorem ab1(s:List UInt8)(p:Nat)(hp:p<=s.length):jO (read s p).1/\0<=(read s p).2/\(p:Int)+(read s p).2<=s.length:=by
 have:=ab2 s p (min (s.length-p) 10) 0 0;unfold read;exact⟨this.1,this.2.1,by have:=this.2.2;omega⟩
theorem Nz(bs:List UInt8):∀(cs:List UInt8)(p:Nat)(sl:Int)(ns:List Int)(p':Nat)(sl':Int),wI bs cs p sl=some (ns,p',sl')->p<=bs.length->sl<=2008->
 ns.length=cs.length/\p<=p'/\p'<=bs.length/\sl<=sl'/\sl'<=2008/\(∀x∈ns,jO x)/\(∀i,cs[i]? =some 115->0<=ns.getD i 0/\ns.getD i 0<sl')
 |[],p,sl,ns,p',sl',h,hp,hs=>by
  simp only[wI]at h;cases h;exact⟨rfl,aj _,hp,aV _,hs,by simp,by simp⟩
 |c::cs,p,sl,ns,p',sl',h,hp,hs=>by
  obtain⟨r1,r2,r3⟩:=ab1 bs p hp;simp only[wI]at h;split at h
  .cases h
  rename_i h0;split at h
  .cases h
  rename_i h1;split at h
  .cases h
  rename_i h2;cases hr:wI bs cs (p+(read bs p).2.toNat) (if c=115 then max sl ((read bs p).1+1)else sl)with
  |none=>rw[hr]at h;cases h
  |some q=>
   obtain⟨ns1,p1,sl1⟩:=q;rw[hr]at h;simp only[iJ,bJ,Prod.mk.injEq]at h;obtain⟨e1,e2,e3⟩:=h;subst e1;subst e2;subst e3;have hsl:(if c=115 then max sl ((read bs p).1+1)else sl)<=2008/\sl<=(if c=115 then max sl ((read bs p).1+1)else sl)/\(c=115->0<=(read bs p).1/\(read bs p).1<(if c=115 then max sl ((read bs p).1+1)else sl)):=by
    by_cases hc:c=115
    .have h3:¬((read bs p).1<0\/2008<=(read bs p).1):=λe=>h1 ⟨hc,e⟩;simp only[jl hc];refine⟨by omega,by omega,λ_=>⟨by omega,by omega⟩⟩
    .simp only[jk hc];exact⟨hs,aV _,λe=>jq e hc⟩
   obtain⟨g1,g2,g3,g4,g5,g6,g7⟩:=Nz bs cs _ _ _ _ _ hr (by omega) hsl.1;refine⟨by simp[g1],by omega,g3,by omega,g5,λx hx=>?_,λi hi=>?_⟩
   .rcases dh.1 hx with rfl|hx
    .exact r1
    .exact g6 x hx
   .cases i with
    |zero=>
     simp only[dw,bJ]at hi;have:=hsl.2.2 hi;simp only[iU];omega
    |succ i=>
     simp only[jc]at hi;simp only[iV];exact g7 i hi
theorem ahC(o:Int)(ns:List Int)(n:Nat)(hn:8<=n)(h0:0<=o)(h1:o<=36)(hlen:ns.length=(shape o).length)(hin:∀x∈ns,jO x)(f:∀i:Nat,(shape o)[i]? =some 115->St.slot n (ns.getD i 0)):
 xR n ⟨o,ns.getD 0 0,ns.getD 1 0,ns.getD 2 0,ns.getD 3 0,0,0⟩:=by
 have g:∀i:Nat,(shape o).length<=i->St.slot n (ns.getD i 0):=λi hi=>by
  rw[aU,bV (by omega)];exact⟨by simp,by simp;omega⟩
 have hb:jO (ns.getD 1 0):=by
  rw[aU];cases he:ns[1]?with
  |none=>exact Di
  |some x=>exact hin x (bT he)
 have A:=f 0;have B:=f 1;have C:=f 2;have D:=f 3;have gC:=g 2;clear hlen hin f g;generalize ns.getD 0 0=a at *;generalize ns.getD 1 0=b at *;generalize ns.getD 2 0=c at *;generalize ns.getD 3 0=d at *;have hc:o=0\/o=1\/o=2\/o=3\/o=4\/o=5\/o=6\/o=7\/o=8\/o=9\/o=10\/o=11\/o=12\/o=13\/o=14\/o=15\/o=16\/o=17\/o=18\/o=19\/o=20\/o=21\/o=22\/o=23\/o=24\/o=25\/o=26\/o=27\/o=28\/o=29\/o=30\/o=31\/o=32\/o=33\/o=34\/o=35\/o=36:=by omega
 rcases hc with rfl|rfl|rfl|rfl|rfl|rfl|rfl|rfl|rfl|rfl|rfl|rfl|rfl|rfl|rfl|rfl|rfl|rfl|rfl|rfl|rfl|rfl|rfl|rfl|rfl|rfl|rfl|rfl|rfl|rfl|rfl|rfl|rfl|rfl|rfl|rfl|rfl;all_goals refine⟨⟨by simp,by simp⟩,?_,?_,?_,?_,?_⟩
 all_goals first
  |(intro h;simp at h;done)
  |exactλ_=>A (by decide)
  |exactλ_=>⟨A (by decide),B (by decide)⟩
  |exactλ_=>⟨B (by decide),C (by decide),by simp,by simp⟩
  |exactλ_ _ _ _ _ _ h=>jq rfl h
  |exactλ_ _ _ _ _ h _=>jq rfl h
  |exactλ_ _ _ _ h _ _=>jq rfl h
  |exactλ_ _ _ h _ _ _=>jq rfl h
  |exactλ_ _ h _ _ _ _=>jq rfl h
  |exactλ_ h _ _ _ _ _=>jq rfl h
  |exactλh _ _ _ _ _ _=>jq rfl h
  |exactλ_ _ _ _ _ _ _=>⟨hb,A (by decide),ji rfl⟩
  |exactλ_ _ _ _ _ _ _=>⟨hb,A (by decide),jh (ji rfl)⟩
  |exactλ_ _ _ _ _ _ _=>⟨hb,A (by decide),jh (jh ⟨B (by decide),ji rfl⟩)⟩
  |(refineλ_ _ _ _ _ _ _=>⟨hb,A (by decide),jh (jh ⟨B (by decide),jh ⟨C (by decide),λh=>?_⟩⟩)⟩;simp at h;done)
  |(refineλ_ _ _ _ _ _ _=>⟨hb,A (by decide),jh (jh ⟨B (by decide),jh ⟨gC (by decide),λh=>?_⟩⟩)⟩;simp at h;done)
  |exactλ_ _ _ _ _ _ _=>⟨hb,A (by decide),jh (jh ⟨B (by decide),jh ⟨C (by decide),λ_=>D (by decide)⟩⟩)⟩
theorem NC{bs:List UInt8}{l l':Ls}{s:St}(h:xk bs l=some (s,l'))(hp:0<=l.pos)(hsl:8<=l.jE/\l.jE<=2008):
 xR l'.jE.toNat s/\l.pos<l'.pos/\l'.pos<=bs.length/\l.jE<=l'.jE/\l'.jE<=2008/\l'={l with pos:=l'.pos,jE:=l'.jE}:=by
 unfold xk at h;split at h
 .cases h
 rename_i o ho;have hlt:l.pos.toNat<bs.length:=by
  rcases dG l.pos.toNat bs.length with h'|h'
  .exact h'
  .rw[bV h']at ho;cases ho
 split at h
 .rename_i hop;split at h
  .cases h
  rename_i ns p sl hr;cases h;obtain⟨g1,g2,g3,g4,g5,g6,g7⟩:=Nz bs _ _ _ _ _ _ hr (by omega) hsl.2;have hop':0<=(o.toNat:Int)/\(o.toNat:Int)<=36:=of_decide_eq_true hop;refine⟨ahC _ _ _ (by show 8<=sl.toNat;omega) hop'.1 hop'.2 g1 g6 (λi hi=>?_),by show l.pos<(p:Int);omega,by show(p:Int)<=_;omega,g4,g5,rfl⟩;obtain⟨k1,k2⟩:=g7 i hi;exact⟨k1,by show _<(sl.toNat:Int);omega⟩
 .cases h
theorem Inv.read{l:Ls}(h:Inv l){p sl:Int}(h1:l.jE<=sl)(h2:sl<=2008):Inv {l with pos:=p,jE:=sl}:=
 ⟨h.chain,h.jY,h.eight,λk s hk=>⟨(h.each k s hk).1.more (by show l.jE.toNat<=sl.toNat;omega),(h.each k s hk).2⟩,h.bound,⟨by show 8<=sl;have:=h.jE;omega,h2⟩,h.bad⟩
theorem ab7(l:Ls)(s:St):(lD l s).jC.length<=l.jC.length+1/\(lD l s).pos=l.pos:=by
 unfold lD;repeat' split
 all_goals first
  |exact⟨Nat.le_succ _,rfl⟩
  |(refine⟨?_,rfl⟩;simp[wZ,Ic,Ea,FP,zX,zY,FQ,tu,mF,Ls.count];done)
  |skip
 .unfold IB;split
  .exact⟨Nat.le_succ _,rfl⟩
  .refine⟨?_,rfl⟩;simp[mF,Ls.count]
theorem AP.len{S:List St}:∀{bs:List Bk}{d e:Nat},AP S d e bs->bs.length<=e+1
 |[],_,_,h=>h.elim
 |[b],d,e,_=>by simp
 |b::b'::r,d,e,⟨o,s,h1,h2,h3,h4,h5⟩=>by
  have:=h5.len;simp only[aF]at this⊢;omega
theorem Inv.jI{l:Ls}(h:Inv l):l.jI≠[]/\l.jI.length<=l.jC.length+1:=by
 obtain⟨init,b,e⟩:=h.split;refine⟨by rw[e];simp,?_⟩;have:=h.chain.len;simpa using this
theorem acM(bs:List UInt8)(f:Nat)(l:Ls)(h:l.bad=true):uV bs f l=l:=by
 cases f with
 |zero=>rfl
 |succ f=>simp only[uV,jl (show l.jI=[]\/l.bad=true from jh h)]
theorem acN(bs:List UInt8)(f:Nat)(l:Ls)(h:l.jI=[]):uV bs f l=l:=by
 cases f with
 |zero=>rfl
 |succ f=>simp only[uV,jl (show l.jI=[]\/l.bad=true from ji h)]
theorem acP(bs:List UInt8)(f:Nat)(l l':Ls)(s:St)(h:Inv l)(hr:xk bs l=some (s,l')):uV bs (f+1) l=uV bs f (lD l' s):=by
 have h1:¬(l.jI=[]\/l.bad=true):=λe=>e.elim h.jI.1 (λe=>by rw[h.bad]at e;cases e);simp only[uV,jk h1,hr]
theorem acO(bs:List UInt8)(hbs:bs.length<=100000):∀(f:Nat)(l:Ls),Inv l->0<=l.pos->(l.jC.length:Int)<=l.pos->l.pos<=bs.length->bs.length-l.pos<f->(uV bs f l).bad=false->IL (uV bs f l)
 |0,l,_,_,_,h2,h3,_=>by omega
 |f+1,l,h,h0,h1,h2,h3,hb=>by
  have hn:¬(l.jI=[]\/l.bad=true):=λe=>e.elim h.jI.1 (λe=>by rw[h.bad]at e;cases e);cases hr:xk bs l with
  |none=>
   simp only[uV,jk hn,hr]at hb;cases hb
  |some q=>
   obtain⟨s,l'⟩:=q;rw[acP bs f l l' s h hr]at hb⊢;obtain⟨g1,g2,g3,g4,g5,g6⟩:=NC hr h0 h.jE;have hi:Inv l':=by rw[g6];exact h.read g4 g5
   have hs:l'.jC=l.jC:=by rw[g6]
   obtain⟨k1,k2⟩:=ab7 l' s;have hbad:(lD l' s).bad=false:=by
    cases hbb:(lD l' s).bad with
    |false=>rfl
    |true=>rw[acM bs f _ hbb,hbb]at hb;cases hb
   rcases acf hi s g1 (by rw[hs];omega) hbad with hv|hv
   .exact acO bs hbs f _ hv (by rw[k2];omega) (by rw[k2];rw[hs]at k1;omega) (by rw[k2];exact g3) (by rw[k2];omega) hb
   .rw[acN bs f _ hv.jI];exact hv
theorem ace:Inv tC:=by
 refine⟨⟨rfl,rfl,0,rfl,pI.nil _ _⟩,rfl,by simp[tC],λk s hk=>by simp[tC]at hk,λb hb=>?_,⟨by simp[tC],by simp[tC]⟩,rfl⟩;simp only[tC,cO]at hb;subst hb;exact⟨by simp,by simp,by simp,by simp⟩
theorem Qk(bs:List UInt8)(hbs:bs.length<=100000)(hb:(lX bs).bad=false):IL (lX bs):=
 acO bs hbs _ _ ace (by simp[tC]) (by simp[tC]) (by simp[tC]) (by simp only[tC];omega) hb
theorem amv(bs:List UInt8)(hbs:bs.length<=100000)(hb:(lX bs).bad=false)(v:Vw)(hv:v.small)(jG:List Int)(m:Mc)(hm:wQ m)(f:Nat):
 (runs v (lX bs).jC jG (lX bs).jD.toNat 0 m).status≠2/\
 ((runs v (lX bs).jC jG f 0 m).status=2->f<(lX bs).jD.toNat)/\
 ((runs v (lX bs).jC jG f 0 m).status≠2->runs v (lX bs).jC jG f 0 m=runs v (lX bs).jC jG (lX bs).jD.toNat 0 m):=by
 have hf:=Qk bs hbs hb;have hpos:=hf.sound.fits.pos;have hne:=hf.jD;have key:∀g,(lX bs).jD.toNat<=g->(runs v (lX bs).jC jG g 0 m).status≠2:=λg hg=>by
  refine aeW hf.sound hv g 0 m (aV _) (by omega) hm ?_;show jy (lX bs).jC 0+yN (lX bs).jC m.left []<=g;simp only[yN];omega
 refine⟨key _ (aj _),λh=>?_,λh=>?_⟩
 .rcases dG f (lX bs).jD.toNat with h'|h'
  .exact h'
  .exact jq h (key f h')
 .rcases gX f (lX bs).jD.toNat with h'|h'
  .exact(QV _ _ _ _ h' h).symm
  .exact QV _ _ _ _ h' (key _ (aj _))
end Hx
section
abbrev aK:=@Go.heap_setCell_same
abbrev dI:=@Go.World.size_setCell
end
section
open Go.RowKit
open Hx (St Bk Ls jO)
attribute [local go_sem ↓] Go.wp_at_zero Go.wp_at_succ
attribute [local go_sem] kL
section
variable {B:Nat}{w:jo}{L:Nat}{s:jm}{l:Ls}{vs vb vl:jr}
theorem jT.aeA(h:jT B w L s l vs vb vl)(x:Int):jT B (w.setCell (Ad L 1) (Im x)) L s {l with pos:=x} vs vb vl:=by
 have hc:∀j,j≠1->(w.setCell (Ad L 1) (Im x)).cell? (Ad L j)=w.cell? (Ad L j):=λj hj=>bG _ _ _ _ (by intro e;cases e;exact hj rfl);exact h.put 1 _ _ vs vb vl (dB _ _ _ h.c1) (by rw[hc 2 (by omega)];exact h.c2) (by rw[hc 3 (by omega)];exact h.c3) (by rw[hc 4 (by omega)];exact h.c4) (by rw[hc 5 (by omega)];exact h.c5) (by rw[hc 6 (by omega)];exact h.c6) (by rw[hc 7 (by omega)];exact h.c7) (by omega) h.jC h.jI h.jY h.ns h.nb h.nl h.sb h.sl h.bl
def DI(c n:Int):Bool:=if c=115 then decide (0<=n/\n<2008)else if c=108 then decide (0<=n/\n<3)else true
def yF(c n sl:Int):Int:=if c=115/\0<=n/\n<2008 then max sl (n+1)else sl
theorem ard(h:jT B w L s l vs vb vl)(c n:Int):
 Calls prog 167 #[Pt L 0,.int .i32 c,Im n] w λe w'=>e=.returned (.bool (DI c n))/\jT B w' L s {l with jE:=yF c n l.jE} vs vb vl/\jV L w vs vb vl w' vs vb vl:=by
 by_cases h1:c=115
 .subst h1;by_cases h2:0<=n/\n<2008
  .refine(arj h n h2.1 h2.2).mono ?_;rintro e w' ⟨rfl,g1,g2⟩;refine⟨by simp[DI,h2],?_,g2⟩;rw[show yF 115 n l.jE=max l.jE (n+1) by simp[yF,h2]];exact g1
  .refine(arh h n (by omega)).mono ?_;rintro e w' ⟨rfl,rfl⟩;refine⟨by simp[DI,h2],?_,jV.refl _ _ _ _ _⟩;rw[show yF 115 n l.jE=l.jE by simp[yF];omega];exact h
 .have hsl:yF c n l.jE=l.jE:=by simp[yF,h1]
  by_cases h2:c=108
  .subst h2;refine(ari n w L).mono ?_;rintro e w' ⟨rfl,rfl⟩;rw[hsl];exact⟨by simp[DI],h,jV.refl _ _ _ _ _⟩
  .refine(arf c n w L (by simpa using h1) (by simpa using h2)).mono ?_;rintro e w' ⟨rfl,rfl⟩;rw[hsl];exact⟨by simp[DI,h1,h2],h,jV.refl _ _ _ _ _⟩
theorem jT.oV(h:jT B w L s l vs vb vl){w':jo}{g:Nat}(hg:w.grownBy w' (some g))(hL:L≠g)(h1:vs.ownBlock≠some g)(h2:vb.ownBlock≠some g)(h3:vl.ownBlock≠some g):jT B w' L s l vs vb vl:=by
 have hb:w'.heap[L]? =w.heap[L]? :=hg.block L h.lt (by simpa using hL);have hc:∀j,w'.cell? (Ad L j)=w.cell? (Ad L j):=λj=>bQ hb;have hf:∀j,w'.frozen? (Ad L j)=w.frozen? (Ad L j):=λj=>dZ hb;exact⟨h.bL,by rw[hc];exact h.c0,by rw[hc];exact h.c1,by rw[hc];exact h.c2,by rw[hc];exact h.c3,by rw[hc];exact h.c4,by rw[hc];exact h.c5,by rw[hc];exact h.c6,by rw[hc];exact h.c7,
  λj=>by rw[hf];exact h.fr j,h.jC.kept hg (jh h1),h.jI.kept hg (jh h2),h.jY.kept hg (jh h3),h.ns,h.nb,h.nl,h.sb,h.sl,h.bl⟩
theorem jV.oV{w0:jo}{YI vb0 vl0:jr}(h:jV L w0 YI vb0 vl0 w vs vb vl){w':jo}{g:Nat}(hg:w.grownBy w' (some g))(hn:w0.heap.size<=g):jV L w0 YI vb0 vl0 w' vs vb vl:=
 ⟨hg.os.trans h.os,hg.tape.trans h.tape,hg.output.trans h.output,dH h.size hg.size,
   λk hk h1 h2 h3 h4=>by rw[hg.block k (Nat.lt_of_lt_of_le hk h.size) (by intro e;cases e;omega)];exact h.block k hk h1 h2 h3 h4,h.fs,h.fb,h.fl⟩
theorem mX(w:jo)(g o:Nat)(u:jr):w.grownBy (w.setCell (Ad g o) u) (some g):=
 ⟨rfl,rfl,rfl,by simp,λk _ hne=>bC _ _ _ _ (by intro e;subst e;exact hne rfl)⟩
theorem ajN(w:jo)(g:Nat)(u:jm)(k:Nat):w.grownBy (w.iterAt g u k) (some g):=
 ⟨rfl,rfl,rfl,by rw[Lib.iterAt_size];exact aj _,λj _ hne=>Lib.iterAt_other _ _ _ _ _ (by intro e;subst e;exact hne rfl)⟩
def vw(q:Int)(ns:List Int):Array jr:=#[.int .u8 q,Im (ns.getD 0 0),Im (ns.getD 1 0),Im (ns.getD 2 0),Im (ns.getD 3 0),Im 0,Im 0]
theorem aiw(q:Int)(ns:List Int)(n:Int)(h:ns.length<4):(vw q ns).setIfInBounds (1+ns.length) (Im n)=vw q (ns++[n]):=by
 match ns,h with
 |[],_=>rfl
 |[a],_=>rfl
 |[a,b],_=>rfl
 |[a,b,c],_=>rfl
theorem aqx(o:Int):(Hx.shape o).length<=4/\∀c∈Hx.shape o,c.toNat<128:=by
 unfold Hx.shape;repeat' split
 all_goals exact⟨by decide,by decide⟩
structure uN(B:Nat)(w:jo)(L:Nat)(s:jm)(l:Ls)(vs vb vl:jr)(cs:List UInt8)(q:Int)(wr:jo)(k p:Nat)(sl:Int)(ns:List Int):Prop where
 load:jT B wr L s {l with pos:=p,jE:=sl} vs vb vl
 Nc:jV L w vs vb vl wr vs vb vl
 iter:wr.heap[w.heap.size+1+1]? =some (.stringIter ⟨cs.toArray⟩ k)
 box:wr.heap[w.heap.size+1]? =some (.cells (vw q ns) 125)
 out:wr.heap[w.heap.size]? =some (.cells (vw 0 []) 125)
 lt:L<w.heap.size
 own:∀g,w.heap.size<=g->vs.ownBlock≠some g/\vb.ownBlock≠some g/\vl.ownBlock≠some g
structure Zk(B:Nat)(w:jo)(L:Nat)(s:jm)(l:Ls)(vs vb vl:jr)(cs:List UInt8)(q:Int)(R:Option (List Int×Nat×Int))(wr:jo)(k p:Nat)(sl:Int)(ns:List Int):Prop where
 mid:uN B w L s l vs vb vl cs q wr k p sl ns
 len:ns.length=k
 kl:k<=cs.length
 ps:p<=s.size
 eq:R=(wI s.data.toList (cs.drop k) p sl).map λr=>(ns++r.1,r.2)
theorem jH{g j:Nat}{a:Array jr}{T:jv}(h:w.heap[g]? =some (.cells a T)):w.cell? (Ad g j)=a[j]? :=by simp[World.cell?,h]
theorem oh{g j:Nat}{a:Array jr}{T:jv}(h:w.heap[g]? =some (.cells a T)):w.frozen? (Ad g j)=false:=by simp[World.frozen?,h]
theorem jJ{g:Nat}{a:Array jr}{T:jv}{v:jr}(j:Nat)(h:w.heap[g]? =some (.cells a T))(hv:a[j]? =some v):w.cell? (Ad g j)=some v:=(jH h).trans hv
theorem qJ{g:Nat}{a:Array jr}{T:jv}(h:w.heap[g]? =some (.cells a T)):∀j,w.frozen? (Ad g j)=false:=λ_=>oh h
theorem WV(w:jo)(o1 o2 o3:Obj)(k:Nat):((((w.alloc o1).drewN k).alloc o2).alloc o3).heap[w.heap.size]? =some o1/\((((w.alloc o1).drewN k).alloc o2).alloc o3).heap[w.heap.size+1]? =some o2/\((((w.alloc o1).drewN k).alloc o2).alloc o3).heap[w.heap.size+1+1]? =some o3:=by
 have e:((((w.alloc o1).drewN k).alloc o2).alloc o3).heap=((w.heap.push o1).push o2).push o3:=rfl;rw[e];refine⟨?_,?_,?_⟩
 .rw[eH,jk (by simp;omega),eH,jk (by simp),eH,jl rfl]
 .rw[eH,jk (by simp),eH,jl (by simp)]
 .rw[eH,jl (by simp)]
section
variable {wr:jo}{cs:List UInt8}{q:Int}{k p:Nat}{sl:Int}{ns:List Int}
theorem lN{g:Nat}{o:Obj}(h:w.heap[g]? =some o):g<w.heap.size:=by
 rcases dG g w.heap.size with h'|h'
 .exact h'
 .rw[Array.getElem?_eq_none h']at h;cases h
theorem uN.next(h:uN B w L s l vs vb vl cs q wr k p sl ns):uN B w L s l vs vb vl cs q (wr.iterAt (w.heap.size+1+1) ⟨cs.toArray⟩ (k+1)) (k+1) p sl ns:=by
 obtain⟨o1,o2,o3⟩:=h.own (w.heap.size+1+1) (by omega);have hg:=ajN wr (w.heap.size+1+1) ⟨cs.toArray⟩ (k+1);have hL:=h.lt;refine⟨h.load.oV hg (by omega) o1 o2 o3,h.Nc.oV hg (by omega),Lib.iterAt_heap _ _ _ _ _ h.iter,?_,?_,h.lt,h.own⟩
 .rw[Lib.iterAt_other _ _ _ _ _ (by omega)];exact h.box
 .rw[Lib.iterAt_other _ _ _ _ _ (by omega)];exact h.out
theorem uN.drewN(h:uN B w L s l vs vb vl cs q wr k p sl ns)(n:Nat):uN B w L s l vs vb vl cs q (wr.drewN n) k p sl ns:=
 ⟨h.load.drewN n,h.Nc.trans (jV.grow L _ _ _ _ (lH _ n)),h.iter,h.box,h.out,h.lt,h.own⟩
theorem uN.arl(h:uN B w L s l vs vb vl cs q wr k p sl ns){w2:jo}{sl':Int}(hl:jT B w2 L s {l with pos:=p,jE:=sl'} vs vb vl)(hm:jV L wr vs vb vl w2 vs vb vl):uN B w L s l vs vb vl cs q w2 k p sl' ns:=by
 have hL:=h.lt;have key:∀g o,w.heap.size<=g->wr.heap[g]? =some o->w2.heap[g]? =some o:=λg o hg ho=>by
  obtain⟨o1,o2,o3⟩:=h.own g hg;rw[hm.block g (lN ho) (by omega) (λe=>o1 e.symm) (λe=>o2 e.symm) (λe=>o3 e.symm)];exact ho
 exact⟨hl,h.Nc.trans hm,key _ _ (by omega) h.iter,key _ _ (by omega) h.box,key _ _ (by omega) h.out,h.lt,h.own⟩
theorem uN.store(h:uN B w L s l vs vb vl cs q wr k p sl ns)(n:Int)(hn:ns.length<4)(p':Nat):uN B w L s l vs vb vl cs q ((wr.setCell (Ad (w.heap.size+1) (1+ns.length)) (Im n)).setCell (Ad L 1) (Im p')) k p' sl (ns++[n]):=by
 obtain⟨o1,o2,o3⟩:=h.own (w.heap.size+1) (by omega);have hg:=mX wr (w.heap.size+1) (1+ns.length) (Im n);have hL:=h.lt;have h1:=h.load.oV hg (by omega) o1 o2 o3;have h2:=h1.aeA (p':Int);refine⟨h2,(h.Nc.oV hg (by omega)).trans (jV.own L _ _ _ _ 1 _),?_,?_,?_,h.lt,h.own⟩
 .rw[bC _ _ _ _ (by show _≠L;omega),bC _ _ _ _ (by show _≠w.heap.size+1;omega)];exact h.iter
 .rw[bC _ _ _ _ (by show _≠L;omega),aK _ _ _ _ _ _ h.box,aiw _ _ _ hn]
 .rw[bC _ _ _ _ (by show _≠L;omega),bC _ _ _ _ (by show _≠w.heap.size+1;omega)];exact h.out
def Fp(B:Nat)(w:jo)(L:Nat)(s:jm)(l:Ls)(vs vb vl:jr)(x:jo):Prop:=
 jT B x L s l vs vb vl/\jV L w vs vb vl x vs vb vl/\L<w.heap.size/\∀g,w.heap.size<=g->vs.ownBlock≠some g/\vb.ownBlock≠some g/\vl.ownBlock≠some g
theorem uN.VX(h:uN B w L s l vs vb vl cs q wr k p sl ns):Fp B w L s {l with pos:=p,jE:=sl} vs vb vl wr:=⟨h.load,h.Nc,h.lt,h.own⟩
theorem Fp.set{x:jo}(h:Fp B w L s l vs vb vl x)(j:Nat)(a:jr):Fp B w L s l vs vb vl (x.setCell (Ad w.heap.size j) a):=by
 obtain⟨h1,h2,h3,h4⟩:=h;obtain⟨o1,o2,o3⟩:=h4 w.heap.size (aj _);exact⟨h1.oV (mX _ _ _ _) (by omega) o1 o2 o3,h2.oV (mX _ _ _ _) (aj _),h3,h4⟩
theorem Fp.drewN{x:jo}(h:Fp B w L s l vs vb vl x)(k:Nat):Fp B w L s l vs vb vl (x.drewN k):=
 ⟨h.1.drewN k,h.2.1.trans (jV.grow L _ _ _ _ (lH _ k)),h.2.2⟩
theorem apw(bs:List UInt8)(c:UInt8)(cs':List UInt8)(p:Nat)(sl:Int)(ns:List Int):((wI bs (c::cs') p sl).map λr=>(ns++r.1,r.2))=
 if (Hx.read bs p).2=0 then none else if DI c.toNat (Hx.read bs p).1=false then none
 else (wI bs cs' (p+(Hx.read bs p).2.toNat) (yF c.toNat (Hx.read bs p).1 sl)).map λr=>(ns++[(Hx.read bs p).1]++r.1,r.2):=by
 have e1:c=115↔(c.toNat:Int)=115:=⟨λe=>by rw[e];rfl,λe=>by
  have:c.toNat=115:=by omega
  exact UInt8.toNat_inj.1 this⟩
 have e2:c=108↔(c.toNat:Int)=108:=⟨λe=>by rw[e];rfl,λe=>by
  have:c.toNat=108:=by omega
  exact UInt8.toNat_inj.1 this⟩
 simp only[wI,DI,yF,e1,e2];generalize (Hx.read bs p).1=n;generalize (Hx.read bs p).2=z;generalize (c.toNat:Int)=x;by_cases hz:z=0
 .simp[hz]
 simp only[jk hz];by_cases h1:x=115
 .by_cases h2:0<=n/\n<2008
  .have h3:¬(n<0\/2008<=n):=by omega
   simp[h1,h2,h3,Option.map_map,Function.comp_def]
  .have h3:n<0\/2008<=n:=by omega
   simp[h1,h2,h3]
 .by_cases h2:x=108
  .by_cases h3:0<=n/\n<3
   .simp[h2,h3,Option.map_map,Function.comp_def]
   .simp[h2,h3]
  .simp[h1,h2,Option.map_map,Function.comp_def]
end
theorem ae4(w:jo)(g:Nat)(T:jv)(a0 a1 a2 a3 a4 a5 a6 v0 v1 v2 v3 v4 v5 v6:jr)(h:w.heap[g]? =some (.cells #[a0,a1,a2,a3,a4,a5,a6] T)):
 (((((((w.setCell (Ad g 0) v0).setCell (Ad g 1) v1).setCell (Ad g 2) v2).setCell (Ad g 3) v3).setCell (Ad g 4) v4).setCell (Ad g 5) v5).setCell (Ad g 6) v6).heap[g]? =some (.cells #[v0,v1,v2,v3,v4,v5,v6] T):=by
 have h0:(w.setCell (Ad g 0) v0).heap[g]? =some (.cells #[v0,a1,a2,a3,a4,a5,a6] T):=aK _ _ _ _ _ _ h;have h1:((w.setCell (Ad g 0) v0).setCell (Ad g 1) v1).heap[g]? =some (.cells #[v0,v1,a2,a3,a4,a5,a6] T):=aK _ _ _ _ _ _ h0;have h2:(((w.setCell (Ad g 0) v0).setCell (Ad g 1) v1).setCell (Ad g 2) v2).heap[g]? =some (.cells #[v0,v1,v2,a3,a4,a5,a6] T):=aK _ _ _ _ _ _ h1;have h3:((((w.setCell (Ad g 0) v0).setCell (Ad g 1) v1).setCell (Ad g 2) v2).setCell (Ad g 3) v3).heap[g]? =some (.cells #[v0,v1,v2,v3,a4,a5,a6] T):=aK _ _ _ _ _ _ h2;have h4:(((((w.setCell (Ad g 0) v0).setCell (Ad g 1) v1).setCell (Ad g 2) v2).setCell (Ad g 3) v3).setCell (Ad g 4) v4).heap[g]? =some (.cells #[v0,v1,v2,v3,v4,a5,a6] T):=aK _ _ _ _ _ _ h3;have h5:((((((w.setCell (Ad g 0) v0).setCell (Ad g 1) v1).setCell (Ad g 2) v2).setCell (Ad g 3) v3).setCell (Ad g 4) v4).setCell (Ad g 5) v5).heap[g]? =some (.cells #[v0,v1,v2,v3,v4,v5,a6] T):=aK _ _ _ _ _ _ h4;have h6:(((((((w.setCell (Ad g 0) v0).setCell (Ad g 1) v1).setCell (Ad g 2) v2).setCell (Ad g 3) v3).setCell (Ad g 4) v4).setCell (Ad g 5) v5).setCell (Ad g 6) v6).heap[g]? =some (.cells #[v0,v1,v2,v3,v4,v5,v6] T):=aK _ _ _ _ _ _ h5;exact h6
theorem ad7(x:jo)(g:Nat)(T:jv)(h:x.heap[g]? =some (.cells (vw 0 []) T)):(((((((x.setCell (Ad g 0) (.int .u8 0)).setCell (Ad g 1) (Im 0)).setCell (Ad g 2) (Im 0)).setCell (Ad g 3) (Im 0)).setCell (Ad g 4) (Im 0)).setCell (Ad g 5) (Im 0)).setCell (Ad g 6) (Im 0)).heap[g]? =some (.cells (vw 0 []) T):=ae4 x g T _ _ _ _ _ _ _ _ _ _ _ _ _ _ h
theorem aoi(x:jo)(g:Nat)(T:jv)(k:Nat)(h:x.heap[g]? =some (.cells (vw 0 []) T)):((((((((x.setCell (Ad g 0) (.int .u8 0)).setCell (Ad g 1) (Im 0)).setCell (Ad g 2) (Im 0)).setCell (Ad g 3) (Im 0)).setCell (Ad g 4) (Im 0)).setCell (Ad g 5) (Im 0)).setCell (Ad g 6) (Im 0)).drewN k).heap[g]? =some (.cells (vw 0 []) T):=by
 rw[show∀y:jo,(y.drewN k).heap=y.heap fromλ_=>rfl];exact ad7 x g T h
theorem aof(x:jo)(g:Nat)(T:jv)(q:Int)(ns:List Int)(h:x.heap[g]? =some (.cells (vw 0 []) T)):(((((((x.setCell (Ad g 0) (.int .u8 q)).setCell (Ad g 1) (Im (ns.getD 0 0))).setCell (Ad g 2) (Im (ns.getD 1 0))).setCell (Ad g 3) (Im (ns.getD 2 0))).setCell (Ad g 4) (Im (ns.getD 3 0))).setCell (Ad g 5) (Im 0)).setCell (Ad g 6) (Im 0)).heap[g]? =some (.cells (vw q ns) T):=ae4 x g T _ _ _ _ _ _ _ _ _ _ _ _ _ _ h
theorem Wq(tmps:Array jr)(w:jo)(g:Nat)(q:Int)(ns:List Int)(b:Bool)(h2:tmps[2]? =some (Pt g 0))(h3:tmps[3]? =some (.bool b))(h:w.heap[g]? =some (.cells (vw q ns) 125)):
 (results Tryz.f112 tmps).run prog w=.ok (.tuple #[.agg (vw q ns),.bool b]) w:=by
 have q0:w.cell? (Ad g 0)=some (.int .u8 q):=jH h;have q1:w.cell? (Ad g 1)=some (Im (ns.getD 0 0)):=jH h;have q2:w.cell? (Ad g 2)=some (Im (ns.getD 1 0)):=jH h;have q3:w.cell? (Ad g 3)=some (Im (ns.getD 2 0)):=jH h;have q4:w.cell? (Ad g 4)=some (Im (ns.getD 3 0)):=jH h;have q5:w.cell? (Ad g 5)=some (Im 0):=jH h;have q6:w.cell? (Ad g 6)=some (Im 0):=jH h;simp[results,Tryz.results112,go_sem,h2,h3,q0,q1,q2,q3,q4,q5,q6,vw]
def KT(B:Nat)(w:jo)(L:Nat)(s:jm)(l:Ls)(vs vb vl:jr)(q:Int)(ok:Bool)(R:Option (List Int×Nat×Int))(e:Ending)(w':jo):Prop:=
 ∃l',jT B w' L s l' vs vb vl/\jV L w vs vb vl w' vs vb vl/\
    ((∃ns p' sl',R=some (ns,p',sl')/\l'={l with pos:=p',jE:=sl'}/\e=.returned (.tuple #[.agg (vw q ns),.bool ok]))\/
     (R=none/\(∃x y,l'={l with pos:=x,jE:=y})/\e=.returned (.tuple #[.agg (vw 0 []),.bool false])))
theorem KT.none{q:Int}{ok:Bool}{R:Option (List Int×Nat×Int)}{p:Nat}{sl:Int}{x:jo}(h:Fp B w L s {l with pos:=p,jE:=sl} vs vb vl x)(hR:R=none):KT B w L s l vs vb vl q ok R (.returned (.tuple #[.agg (vw 0 []),.bool false])) x:=
 ⟨_,h.1,h.2.1,jh ⟨hR,⟨_,_,rfl⟩,rfl⟩⟩
theorem apA(h:jT B w L s l vs vb vl)(p:Nat)(hp:l.pos=p)(hlt:p<s.size)(hs:s.size<=100000)(R:Option (List Int×Nat×Int))(HR:Hid (wI s.data.toList (Hx.shape s[p].toNat) (p+1) l.jE=R)):
 Calls prog 112 #[Pt L 0] w (KT B w L s l vs vb vl s[p].toNat (Hx.Ew s[p].toNat) R):=by
 have c0:=h.c0;have c1:=h.c1;have f1:=h.fr 1;have hL:=h.lt;rw[hp]at c1;have n1:¬L=w.heap.size:=by omega
 have n2:¬L=w.heap.size+1:=by omega
 have d1:((p:Int)==(s.size:Int))=false:=by simp;omega
 have i0:(0:Int)<=(p:Int):=by omega
 have i1:(p:Int)<(s.size:Int):=by omega
 have hsm:=aqx s[p].toNat;have HS:Hid (∀w,Calls prog 165 #[.int .u8 s[p].toNat] w λe w'=>e=.returned (.tuple #[.string ⟨(Hx.shape s[p].toNat).toArray⟩,.bool (Hx.Ew s[p].toNat)])/\w'=w):=λw=>aqw _ w (by omega);generalize Hx.Ew s[p].toNat=ok at *;generalize Hx.shape s[p].toNat=cs at *;have HA:Hid (∀k,Zk B w L s l vs vb vl cs s[p].toNat R (((((w.setCell (Ad L 1) (Im ((p:Int)+1))).alloc (.cells #[.int .u8 0,Im 0,Im 0,Im 0,Im 0,Im 0,Im 0] 125)).drewN k).alloc (.cells #[.int .u8 s[p].toNat,Im 0,Im 0,Im 0,Im 0,Im 0,Im 0] 125)).iter ⟨cs.toArray⟩ 0) 0 (p+1) l.jE []):=λk=>by
  have e1:((p:Int)+1)=((p+1:Nat):Int):=by omega
  refine⟨⟨?_,?_,?_,?_,?_,hL,λg hg=>⟨λe=>?_,λe=>?_,λe=>?_⟩⟩,rfl,bD _,by omega,?_⟩
  .rw[e1];exact((((h.aeA ((p+1:Nat):Int)).alloc _).drewN k).alloc _).alloc _
  .exact(jV.own L w vs vb vl 1 _).trans ((jV.grow L _ _ _ _ (ah _ _ none)).trans ((jV.grow L _ _ _ _ (lH _ k)).trans ((jV.grow L _ _ _ _ (ah _ _ none)).trans (jV.grow L _ _ _ _ (ah _ _ none)))))
  .have:=(WV (w.setCell (Ad L 1) (Im ((p:Int)+1))) (.cells #[.int .u8 0,Im 0,Im 0,Im 0,Im 0,Im 0,Im 0] 125) (.cells #[.int .u8 s[p].toNat,Im 0,Im 0,Im 0,Im 0,Im 0,Im 0] 125) (.stringIter ⟨cs.toArray⟩ 0) k).2.2
   rwa [dI]at this
  .have:=(WV (w.setCell (Ad L 1) (Im ((p:Int)+1))) (.cells #[.int .u8 0,Im 0,Im 0,Im 0,Im 0,Im 0,Im 0] 125) (.cells #[.int .u8 s[p].toNat,Im 0,Im 0,Im 0,Im 0,Im 0,Im 0] 125) (.stringIter ⟨cs.toArray⟩ 0) k).2.1
   rwa [dI]at this
  .have:=(WV (w.setCell (Ad L 1) (Im ((p:Int)+1))) (.cells #[.int .u8 0,Im 0,Im 0,Im 0,Im 0,Im 0,Im 0] 125) (.cells #[.int .u8 s[p].toNat,Im 0,Im 0,Im 0,Im 0,Im 0,Im 0] 125) (.stringIter ⟨cs.toArray⟩ 0) k).1
   rwa [dI]at this
  .have:=(h.jC.lt g e).2;omega
  .have:=(h.jI.lt g e).2;omega
  .have:=(h.jY.lt g e).2;omega
  .rw[<-HR.out,aQ];cases wI s.data.toList cs (p+1) l.jE with
   |none=>rfl
   |some r=>rfl
 clear h;go_enter func112,ntmps112;go_wp2_with fail;refine nJ 9 (by kernel_rfl) (by kernel_rfl) ?_;simp only[aC,aO,aG,aQ];repeat (go_big_quiet_step (fail))
 refine bF ?_;intro _ hw';obtain⟨k1,hw''⟩:=hw';subst hw'';go_upto_region 3 with fail;go_cut [4] (λx wx=>x=Pt (w.heap.size+1) 0/\wx=((w.alloc (.cells #[.int .u8 0,Im 0,Im 0,Im 0,Im 0,Im 0,Im 0] 125)).drewN (k1+1)).alloc (.cells #[.int .u8 s[p].toNat,Im 0,Im 0,Im 0,Im 0,Im 0,Im 0] 125))
 case first=>
  go_region_held3 (λw'=>w'.cell? (Ad L 0)=some (.string s)/\w'.cell? (Ad L 1)=some (Im p)) (go_keep) (fail);all_goals (go_wp2_with fail;go_meet;exact⟨rfl,rfl⟩)
 case rest=>
  obtain⟨rfl,rfl⟩:=hcut;go_wp2_with (go_at_call 165;refine(HS.out _).mono ?_;rintro e w1 ⟨rfl,rfl⟩);clear HS HR;go_loopw [7,8,9,10] (λ_ _ _ _ wr=>∃(k pp:Nat)(sl:Int)(ns:List Int),Zk B w L s l vs vb vl cs s[p].toNat R wr k pp sl ns) (λ_ _ _ _ wr=>cs.length-wr.iterPos (w.heap.size+1+1))
  case atStart=>exact⟨0,p+1,l.jE,[],HA.out _⟩
  case round=>
   obtain⟨k,pp,sl,ns,hr⟩:=hrel;clear HA;by_cases hk:k<cs.length
   .have hkc:cs.drop k=cs[k]::cs.drop (k+1):=dA hk;have hk':k<(⟨cs.toArray⟩:jm).size:=by simpa [ByteArray.size]using hk
    have hget:(⟨cs.toArray⟩:jm)[k]'hk'=cs[k]:=rfl;have hnext:∀ty,(Instr.next (Pt (w.heap.size+1+1) 0) true ty).run prog wr=.ok (.tuple #[.bool true,Im k,.int .i32 (cs[k].toNat)]) (wr.iterAt (w.heap.size+1+1) ⟨cs.toArray⟩ (k+1)):=λty=>by
     have:=Lib.run_next_ascii_at (P:=prog) wr (w.heap.size+1+1) ⟨cs.toArray⟩ k ty hr.mid.iter hk' (by rw[hget];exact hsm.2 _ (fG hk));rw[this,hget]
    have hmu:wr.iterPos (w.heap.size+1+1)=k:=by simp[World.iterPos,hr.mid.iter]
    have hmid:=hr.mid.next;have heq:=hr.eq;rw[hkc,apw]at heq;have hlen:=hr.len;have hps:=hr.ps;clear hr;generalize cs[k]=c at *;generalize wr.iterAt (w.heap.size+1+1) ⟨cs.toArray⟩ (k+1)=W1 at *;obtain⟨b0,b1,b2⟩:=Hx.ab1 s.data.toList pp (by simpa using hps);have GX:Hid (∀w,Calls prog 166 #[.string s,Im pp] w λe w'=>e=.returned (.tuple #[Im (Hx.read s.data.toList pp).1,Im (Hx.read s.data.toList pp).2])/\w'=w):=λw=>apx s pp w hs hps;generalize (Hx.read s.data.toList pp).1=n at *;generalize (Hx.read s.data.toList pp).2=z at *;obtain⟨z,rfl⟩:=bI b1;have m0:=hmid.load.c0;have m1:=hmid.load.c1;simp only at m1;have r0:W1.cell? (Ad w.heap.size 0)=some (.int .u8 0):=jH hmid.out;have r1:W1.cell? (Ad w.heap.size 1)=some (Im 0):=jH hmid.out;have r2:W1.cell? (Ad w.heap.size 2)=some (Im 0):=jH hmid.out;have r3:W1.cell? (Ad w.heap.size 3)=some (Im 0):=jH hmid.out;have r4:W1.cell? (Ad w.heap.size 4)=some (Im 0):=jH hmid.out;have r5:W1.cell? (Ad w.heap.size 5)=some (Im 0):=jH hmid.out;have r6:W1.cell? (Ad w.heap.size 6)=some (Im 0):=jH hmid.out;have rf:∀j,W1.frozen? (Ad w.heap.size j)=false:=λj=>oh hmid.out;have HM:Hid (uN B w L s l vs vb vl cs s[p].toNat W1 (k+1) pp sl ns):=hmid;have HE:Hid (R=if ((z:Nat):Int)=0 then none else if DI c.toNat n=false then none else (wI s.data.toList (cs.drop (k+1)) (pp+((z:Nat):Int).toNat) (yF c.toNat n sl)).map λr=>(ns++[n]++r.1,r.2)):=heq;clear hmid heq;by_cases hz:z=0
    .subst hz;go_wp2_with fail;refine nJ 13 (by kernel_rfl) (by kernel_rfl) ?_;simp only[aC,aO,aG,aQ];repeat (go_big_quiet_step ((go_at_call 166;exact dN (GX.out _))))
     refine bF ?_;intro _ hw';obtain⟨k3,hw''⟩:=hw';subst hw'';go_wp2_with fail;have hno:R=none:=by rw[HE.out];simp
     refine cu (Wq _ _ w.heap.size 0 [] false rfl rfl (aoi W1 w.heap.size 125 k3 HM.out.out)) rfl ?_;exact KT.none ((((((((HM.out.VX.set _ _).set _ _).set _ _).set _ _).set _ _).set _ _).set _ _).drewN _) hno
    .have dz:(((z:Nat):Int)==0)=false:=by simp;omega
     have HT:Hid (∀kk,Calls prog 167 #[Pt L 0,.int .i32 c.toNat,Im n] (W1.drewN kk) λe w'=>e=.returned (.bool (DI c.toNat n))/\uN B w L s l vs vb vl cs s[p].toNat w' (k+1) pp (yF c.toNat n sl) ns):=λkk=>by
      refine(ard (HM.out.drewN kk).load c.toNat n).mono ?_;rintro e w' ⟨h1,h2,h3⟩;exact⟨h1,(HM.out.drewN kk).arl h2 h3⟩
     clear r0 r1 r2 r3 r4 r5 r6 rf HM;rw[jk (by omega)]at HE;cases hok:DI c.toNat n with
     |false=>
      have hno:R=none:=by rw[HE.out,hok];rfl
      rw[hok]at HT;clear HE;go_wp2_with fail;refine nJ 13 (by kernel_rfl) (by kernel_rfl) ?_;simp only[aC,aO,aG,aQ];repeat (go_big_quiet_step ((go_at_call 166;exact dN (GX.out _))))
      refine bF ?_;intro _ hw';obtain⟨k3,hw''⟩:=hw';subst hw'';go_wp2_with fail;refine(HT.out _).mono ?_;rintro e w2 ⟨rfl,hm2⟩;have r0:w2.cell? (Ad w.heap.size 0)=some (.int .u8 0):=jH hm2.out;have r1:w2.cell? (Ad w.heap.size 1)=some (Im 0):=jH hm2.out;have r2:w2.cell? (Ad w.heap.size 2)=some (Im 0):=jH hm2.out;have r3:w2.cell? (Ad w.heap.size 3)=some (Im 0):=jH hm2.out;have r4:w2.cell? (Ad w.heap.size 4)=some (Im 0):=jH hm2.out;have r5:w2.cell? (Ad w.heap.size 5)=some (Im 0):=jH hm2.out;have r6:w2.cell? (Ad w.heap.size 6)=some (Im 0):=jH hm2.out;have rf:∀j,w2.frozen? (Ad w.heap.size j)=false:=λj=>oh hm2.out;have HM:Hid (uN B w L s l vs vb vl cs s[p].toNat w2 (k+1) pp (yF c.toNat n sl) ns):=hm2;clear hm2;go_wp2_with fail;refine cu (Wq _ _ w.heap.size 0 [] false rfl rfl (ad7 w2 w.heap.size 125 HM.out.out)) rfl ?_;exact KT.none (((((((HM.out.VX.set _ _).set _ _).set _ _).set _ _).set _ _).set _ _).set _ _) hno
     |true=>
      have HE2:Hid (R=(wI s.data.toList (cs.drop (k+1)) (pp+z) (yF c.toNat n sl)).map λr=>(ns++[n]++r.1,r.2)):=by
       show _=_;rw[HE.out,hok];simp
      rw[hok]at HT;clear HE;have i4:(k:Int)<4:=by omega
      have i5:(0:Int)<=(k:Int):=by omega
      obtain⟨y,hy⟩:∃y:Nat,pp+z=y:=⟨_,rfl⟩;have hyI:(pp:Int)+(z:Int)=(y:Int):=by omega
      have hlen':s.data.toList.length=s.size:=by simp
      have hys:y<=s.size:=by omega
      rw[hy]at HE2;clear hy;go_wp2_with fail;refine nJ 13 (by kernel_rfl) (by kernel_rfl) ?_;simp only[aC,aO,aG,aQ];repeat (go_big_quiet_step ((go_at_call 166;exact dN (GX.out _))))
      refine bF ?_;intro _ hw';obtain⟨k3,hw''⟩:=hw';subst hw'';go_wp2_with fail;refine(HT.out _).mono ?_;rintro e w2 ⟨rfl,hm2⟩;have bx:w2.cell? (Ad (w.heap.size+1) (1+k))=(vw s[p].toNat ns)[1+k]? :=jH hm2.box;have bf:∀j,w2.frozen? (Ad (w.heap.size+1) j)=false:=λj=>oh hm2.box;have m1:=hm2.load.c1;have mf:=hm2.load.fr 1;simp only at m1;have HP:Hid (uN B w L s l vs vb vl cs s[p].toNat ((w2.setCell (Ad (w.heap.size+1) (1+ns.length)) (Im n)).setCell (Ad L 1) (Im y)) (k+1) y (yF c.toNat n sl) (ns++[n])):=hm2.store n (by omega) y;rw[hlen]at HP;obtain⟨bv,hbv⟩:∃bv,(vw s[p].toNat ns)[1+k]? =some bv:=⟨_,Array.getElem?_eq_getElem (show 1+k<(vw s[p].toNat ns).size from by show 1+k<7;omega)⟩;rw[hbv]at bx;clear hm2 hbv;go_wp2_with fail;refine⟨⟨k+1,y,yF c.toNat n sl,ns++[n],HP.out,by simp[hlen],by omega,hys,HE2.out⟩,?_⟩;have hmu2:((w2.setCell (Ad (w.heap.size+1) (1+k)) (Im n)).setCell (Ad L 1) (Im y)).iterPos (w.heap.size+1+1)=k+1:=by
       unfold World.iterPos;rw[HP.out.iter]
      rw[hmu,hmu2];omega
   .have hkl:=hr.kl;have hk':¬k<(⟨cs.toArray⟩:jm).size:=by simpa [ByteArray.size]using hk
    have hnext:∀ty,(Instr.next (Pt (w.heap.size+1+1) 0) true ty).run prog wr=.ok (.tuple #[.bool false]) wr:=λty=>Lib.run_next_end_at (P:=prog) wr (w.heap.size+1+1) ⟨cs.toArray⟩ k ty hr.mid.iter hk';have hR:R=some (ns,pp,sl):=by
     rw[hr.eq,fH (by omega)];simp[wI]
    have hmid:=hr.mid;have r0:wr.cell? (Ad w.heap.size 0)=some (.int .u8 0):=jH hmid.out;have r1:wr.cell? (Ad w.heap.size 1)=some (Im 0):=jH hmid.out;have r2:wr.cell? (Ad w.heap.size 2)=some (Im 0):=jH hmid.out;have r3:wr.cell? (Ad w.heap.size 3)=some (Im 0):=jH hmid.out;have r4:wr.cell? (Ad w.heap.size 4)=some (Im 0):=jH hmid.out;have r5:wr.cell? (Ad w.heap.size 5)=some (Im 0):=jH hmid.out;have r6:wr.cell? (Ad w.heap.size 6)=some (Im 0):=jH hmid.out;have rf:∀j,wr.frozen? (Ad w.heap.size j)=false:=λj=>oh hmid.out;have q0:wr.cell? (Ad (w.heap.size+1) 0)=some (.int .u8 s[p].toNat):=jH hmid.box;have q1:wr.cell? (Ad (w.heap.size+1) 1)=some (Im (ns.getD 0 0)):=jH hmid.box;have q2:wr.cell? (Ad (w.heap.size+1) 2)=some (Im (ns.getD 1 0)):=jH hmid.box;have q3:wr.cell? (Ad (w.heap.size+1) 3)=some (Im (ns.getD 2 0)):=jH hmid.box;have q4:wr.cell? (Ad (w.heap.size+1) 4)=some (Im (ns.getD 3 0)):=jH hmid.box;have q5:wr.cell? (Ad (w.heap.size+1) 5)=some (Im 0):=jH hmid.box;have q6:wr.cell? (Ad (w.heap.size+1) 6)=some (Im 0):=jH hmid.box;have HM:Hid (uN B w L s l vs vb vl cs s[p].toNat wr k pp sl ns):=hmid;clear hmid hr;go_wp2_with fail;refine cu (Wq _ _ w.heap.size s[p].toNat ns ok rfl rfl (aof wr w.heap.size 125 s[p].toNat ns HM.out.out)) rfl ?_;have ho:=(((((((HM.out.VX.set 0 (.int .u8 s[p].toNat)).set 1 (Im (ns.getD 0 0))).set 2 (Im (ns.getD 1 0))).set 3 (Im (ns.getD 2 0))).set 4 (Im (ns.getD 3 0))).set 5 (Im 0)).set 6 (Im 0));exact⟨_,ho.1,ho.2.1,ji ⟨ns,pp,sl,hR,rfl,rfl⟩⟩
end
end
end Go.Proofs.YthllhabjfchgiaaGreatDoor
