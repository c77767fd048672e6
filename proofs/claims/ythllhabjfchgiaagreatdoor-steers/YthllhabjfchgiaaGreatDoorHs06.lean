import Derived.Test.YthllhabjfchgiaaGreatDoorHs05
import Derived.Test.YthllhabjfchgiaaGreatDoorHs04
import Derived.Lib.OthersKept
import Derived.Deep.CutBlock
import Derived.Deep.DeepCutAuto
set_option maxRecDepth 100000
set_option maxHeartbeats 8000000
set_option linter.unusedSimpArgs false
namespace Go.Proofs.YthllhabjfchgiaaGreatDoor
open _root_.Go.Proofs.Tryz
namespace Hx
open Go.RowKit
section
variable {l:Ls}
theorem anI(h:Inv l)(init:List Bk)(R b:Bk)(e:l.jH=init++[R]++[b])(o:Nat)(so st:St)(ho:b.opener=o)(n:l.jB[o]? =some so)(N:so.op=2)(ab:¬0<b.other)(O:st.op=3)(hb:yJ l.jD.toNat st)
 (y:(ES l st o so).bad=false):Inv (ES l st o so):=by
 have aa:=h.bound b (by rw[e];simp);have X:=h.chain;rw[e,Aw]at X;obtain⟨f,s',c1,c2,S,c4,c5⟩:=X;have:f=o:=by omega
 subst this;rw[n]at S;cases S;rcases c4 with⟨P,_⟩|⟨P,Q,Y,E,c,a5,Z⟩|⟨P,x,t,Q,Y,_⟩
 .omega
 rotate_left
 .omega
 unfold ES GI at y⊢;rw[add_eq e st]at y⊢;rw[wrap_small (x:=b.jC+1) (by omega) (by omega)]at y⊢;have C:Ls.top {l with jB:=l.jB++[st],jH:=init++[R]++[{b with jC:=b.jC+1}],bad:=l.bad||decide (40000040<b.jC+1)}={b with jC:=b.jC+1}:=by simp[Ls.top]
 rw[C]at y⊢;simp only[List.dropLast_concat]at y⊢;simp only[h.bad,gZ,decide_eq_false_iff_not]at y;have M:=J6 n;have i:(l.jB++[st]).length=l.jB.length+1:=by simp
 have D:(l.jB++[st])[f]? =some so:=by rw[aT M];exact n
 have a:=H8 D ((l.jB++[st]).length:Int);have m:=Et l.jB st;have j:((l.jB++[st]).set f {so with kD:=((l.jB++[st]).length:Int)})[f]? =some {so with kD:=((l.jB++[st]).length:Int)}:=dY (by omega);have v:∀k,k≠f->k<l.jB.length->((l.jB++[st]).set f {so with kD:=((l.jB++[st]).length:Int)})[k]? =l.jB[k]? :=λk A hl=>by
  rw[dQ (λe=>A e.symm),aT hl]
 have g:((l.jB++[st]).set f {so with kD:=((l.jB++[st]).length:Int)})[l.jB.length]? =some st:=by
  rw[dQ (by omega),eu]
 have d:kU (l.jB++[st]) (l.jB.length+1)=kU l.jB l.jB.length:=Po _ _ (by omega) (by omega);refine⟨?_,?_,h.eight,?_,?_,h.jD,by simp[h.bad];omega⟩
 .rw[Aw];simp only[iI,i]at j g v a⊢;refine⟨f,{so with kD:=((l.jB.length+1:Nat):Int)},ho,by omega,j,je (je ⟨N,l.jB.length,st,rfl,by omega,by omega,g,O,by show((l.jB.length+1:Nat):Int)=_;omega,?_,?_,⟨c,?_,Z.keep λk A H=>v k (by omega) H⟩,0,rfl,pW.nil _ _⟩),c5.keep λk A=>v k (by omega) (by omega)⟩
  .rw[a,a,m _ (aj _),m f (by omega)];exact E
  .rw[a,a,d,m f (by omega)];exact E
  .show b.jC+1=_;omega
 .simp only[iI,i]at a⊢;rw[a,d];exact h.jY
 .intro k s A;have G:Du ((l.jB++[st]).set f {so with kD:=((l.jB++[st]).length:Int)}) f {so with kD:=((l.jB++[st]).length:Int)}:=λ_=>by
   refine⟨by show(0:Int)<=((l.jB++[st]).length:Int);omega,by show f<((l.jB++[st]).length:Int).toNat;omega,by simp,?_⟩;rw[a,a];rw[bK,i,d,m f (by omega)];exact E
  rcases Vy D A with⟨rfl,rfl⟩|⟨J,u⟩
  .obtain⟨F,T,U⟩:=h.each k so n;exact⟨Nw F _,⟨λW=>by have:so.op=4:=W;omega,λV=>by have:so.op=0\/so.op=5:=V;omega⟩,λ_=>G⟩
  .rcases get_append u with⟨I,u⟩|⟨rfl,rfl⟩
   .obtain⟨F,T,U⟩:=h.each k s u;refine⟨F,(T.append (by omega) _).FM D _,λr=>((U ?_).append I _).FM D _⟩;rw[e,Aw];rw[Aw]at r;simp only[opens,BD,Q,c1]at r⊢
    exactλK=>(dh.1 K).elim (λe=>J (by simp at e;omega)) λK=>r (aI _ K)
   .refine⟨hb,⟨λW=>by omega,λV=>by omega⟩,λr=>?_⟩;rw[Aw]at r;simp only[opens,BD]at r;rw[jh (by omega)]at r;exact jl aW r
 .intro x z;rcases List.mem_append.1 z with z|z
  .exact h.bound x (by rw[e];exact eP _ z)
  .rw[cO]at z;subst z;exact⟨by simp,by simp,by show 0<=b.jC+1;omega,by show b.jC+1<=_;omega⟩
structure Jz(l:Ls):Prop where
 sound:Sound l.jB l.jD.toNat
 jC:(jw l.jB 0:Int)<=l.jC
 wu:l.jC<=40000040
 jD:8<=l.jD/\l.jD<=2008
 jH:l.jH=[]
theorem alN(h:Inv l)(I:l.jH.length=1)(hl:l.jB.length<=900000)(E:(Ba l).bad=false):Jz (Ba l):=by
 obtain⟨A,b,e⟩:=h.split;have Y:A=[]:=by
  rw[e]at I;simp at I;exact I
 subst Y;have X:=h.bound b (by rw[e];simp);have O:=h.chain;rw[e]at O;obtain⟨c1,c2,c,c3,R⟩:=O;unfold Ba at E⊢;rw[add_eq e ⟨1,0,0,0,0,0,0⟩]at E⊢;rw[wrap_small (x:=b.jC+1) (by omega) (by omega)]at E⊢;have z:Ls.top {l with jB:=l.jB++[⟨1,0,0,0,0,0,0⟩],jH:=[]++[{b with jC:=b.jC+1}],bad:=l.bad||decide (40000040<b.jC+1)}={b with jC:=b.jC+1}:=by simp[Ls.top]
 rw[z];simp only[h.bad,gZ,decide_eq_false_iff_not]at E;have i:=Et l.jB ⟨1,0,0,0,0,0,0⟩;have n:(l.jB++[(⟨1,0,0,0,0,0,0⟩:St)]).length=l.jB.length+1:=by simp
 have t:(l.jB++[(⟨1,0,0,0,0,0,0⟩:St)])[l.jB.length]? =some ⟨1,0,0,0,0,0,0⟩:=eu ..;have o:=λ(k:Nat)(s:St)(d:l.jB[k]? =some s)=>(h.each k s d).2.2 (by rw[e];simp[opens]);have f:∀(k:Nat)(s:St),l.jB[k]? =some s->(s.op=0\/s.op=5)->Wv (l.jB++[⟨1,0,0,0,0,0,0⟩]) l.jD.toNat s.kD:=λk s d g=>by
  obtain⟨m,D,U⟩:=h.each k s d;obtain⟨Q,u⟩:=D.back g;cases J:kU l.jB k with
  |nil=>rw[J]at u;cases u
  |cons p r=>
   rw[J]at u;simp only[List.head?_cons,bJ]at u;obtain⟨sl,F,P,l3,l4⟩:=ahu l.jB k p r J;have Z:=J6 F;obtain⟨j,v,C,y⟩:=o p sl F (je (je P));obtain⟨S,_,T⟩:=(h.each p sl F).1.jY P;refine⟨sl,Q,?_,by rw[n];omega,j,by rw[n];omega,S,T⟩;rw[<-u,aT Z];exact F
 have G:Sound (l.jB++[⟨1,0,0,0,0,0,0⟩]) l.jD.toNat:=by
  refine⟨⟨by omega,by omega,λk s d=>?_⟩,λk s d g=>?_,λk s d g=>?_,λk s d g=>?_⟩
  .rcases get_append d with⟨d,a⟩|⟨rfl,rfl⟩
   .obtain⟨m,D,U⟩:=h.each k s a;have H:=o k s a;refine⟨by have:=m.op;omega,λ_ _ _=>by omega,λK=>?_,λW=>?_,λM=>?_,λN=>⟨m.Js N,f k s a (je N)⟩,λV=>f k s a (jf V),m.Jl,m.works⟩
    .obtain⟨j,v,C,y⟩:=H (jf K);exact⟨m.ifs K,j,by omega⟩
    .obtain⟨j,v,C,y⟩:=H (je (jf W));exact⟨j,by omega⟩
    .obtain⟨j,v,C,y⟩:=H (je (je M));exact⟨j,by omega,m.jY M⟩
   .exact⟨by simp,λh=>jl rfl h,λh=>by simp at h,λh=>by simp at h,λh=>by simp at h,λh=>by simp at h,λh=>by simp at h,λh=>by simp at h,λh=>jl rfl h⟩
  .rcases get_append d with⟨d,a⟩|⟨rfl,rfl⟩
   .obtain⟨j,v,C,y⟩:=o k s a g;exact⟨v,by rw[i _ (by omega),i _ (by omega)];exact y⟩
   .simp at g
  .rcases get_append d with⟨d,a⟩|⟨rfl,rfl⟩
   .rw[i _ (by omega)];exact(h.each k s a).2.1.depth g
   .simp at g
  .rcases get_append d with⟨d,a⟩|⟨rfl,rfl⟩
   .rw[i _ (by omega)];exact((h.each k s a).2.1.back g).2
   .simp at g
 refine⟨G,?_,by show b.jC+1<=_;omega,h.jD,rfl⟩;have m:=R.2 _ G.ahead λk _ d=>aT d;have D:=ER G.ahead t;rw[jh (je rfl)]at D;show(jw (l.jB++[⟨1,0,0,0,0,0,0⟩]) 0:Int)<=b.jC+1;omega
theorem adX(h:Inv l)(s:St)(z:yJ l.jD.toNat s)(U:l.jB.length<=900000)(a:(lH l s).bad=false):Inv (lH l s)\/Jz (lH l s):=by
 unfold lH at a⊢;by_cases C:s.op=2
 .rw[jh C]at a⊢;exact jf (adY h s z (jf C) (λe=>by omega) l.jY (by rw[jg (by omega)]) h.eight a)
 rw[jg C]at a⊢;by_cases y:s.op=4
 .rw[jh y]at a⊢;by_cases O:l.jY.length=8
  .rw[jh O]at a;cases a
  .rw[jg O]at a⊢;have W:=h.eight;exact jf (adY h {s with depth:=l.jY.length} (ajT z _ (by omega) (by omega)) (je y) (λ_=>rfl) _ (by rw[jh y]) (by simp;omega) a)
 rw[jg y]at a⊢;by_cases D:s.op=3
 .rw[jh D]at a⊢;by_cases g:l.jH.length=1\/0<l.top.other
  .rw[jh g]at a;cases a
  .rw[jg g]at a⊢;obtain⟨f,v,b,e⟩:=h.split2 (λe=>g (jf e));have E:=h.chain;rw[e,Aw]at E;obtain⟨o,n,j,S,m,N,T⟩:=E;have F:=TI e;have u:l.top.opener.toNat=o:=by rw[F,j];simp
   rw[u,m]at a⊢;simp only at a⊢;by_cases d:n.op=2
   .rw[jh d]at a⊢;exact jf (anI h f v b e o n s j m d (λe=>g (je (by rw[F];exact e))) D z a)
   .rw[jg d]at a;cases a
 rw[jg D]at a⊢;by_cases A:s.op=0
 .rw[jh A]at a⊢;by_cases g:l.jH.length=1
  .rw[jh g]at a⊢;exact je (alN h g U a)
  .rw[jg g]at a⊢;obtain⟨f,v,b,e⟩:=h.split2 g;have E:=h.chain;rw[e,Aw]at E;obtain⟨o,n,j,S,m,N,T⟩:=E;have F:=TI e;have u:l.top.opener.toNat=o:=by rw[F,j];simp
   have J:l.jH.dropLast=f++[v]:=by rw[e];simp
   rw[u,m]at a⊢;simp only at a⊢;by_cases d:n.op=4
   .rw[jh d]at a⊢;exact jf (anJ h f v b e o n s j m d A z a)
   .rw[jg d]at a⊢;rw[F,J]at a⊢;rcases N with⟨G,_⟩|⟨G,M,Q,R,c,H,V⟩|⟨G,x,t,M,Q,R,H,_⟩
    .exact jl G d
    .rw[jg (by omega)]at a⊢;exact jf (adV h f v b e o o n n j m d m (by unfold BD;rw[jg (by omega),j]) a)
    .have K:b.other.toNat=x:=by omega
     rw[jh (by omega),K,H]at a⊢;simp only at a⊢;exact jf (adV h f v b e o x n t j m d H (by unfold BD;rw[jh (by omega),M]) a)
 rw[jg A]at a⊢;by_cases I:s.op=5
 .rw[jh I]at a⊢;unfold Jr at a⊢;by_cases g:l.jY=[]
  .rw[jh g]at a;cases a
  .rw[jg g]at a⊢;refine jf (adU h {s with kD:=l.jY.getLastD 0} (Nw z _) A C D y (λ_=>?_) a);have i:=h.jY;cases P:kU l.jB l.jB.length with
   |nil=>rw[P]at i;exact jl i g
   |cons p r=>
    rw[P]at i;have:l.jY.getLastD 0=(p:Int):=by rw[i];simp
    show 0<=l.jY.getLastD 0/\_=some (l.jY.getLastD 0).toNat;rw[this];exact⟨by omega,by simp⟩
 .rw[jg I]at a⊢;exact jf (adU h s z A C D y (λe=>jl e I) a)
end
theorem anv(x:Int)(a:0<=x)(b:x<18446744073709551616):jK (signed x):=by
 unfold signed;split
 .exact Kv _ _ _
 .unfold jK;omega
theorem aqM(x y:Int):0<=bits .or .u64 x y/\bits .or .u64 x y<18446744073709551616:=⟨bits_lo_u64 _ _ _,by have:=bits_hi_u64 .or x y;omega⟩
theorem adL(s:List UInt8)(p:Nat):∀(r i:Nat)(a:Int),jK (uw s p r i a).1/\0<=(uw s p r i a).2/\(uw s p r i a).2<=i+r
 |0,i,a=>⟨D8,by simp[uw],by simp only[uw];omega⟩
 |r+1,i,a=>by
  have b:=adL s p r (i+1) (bits .or .u64 a (IntKind.u64.wrap (((s.getD (p+i) 0).toNat%128:Nat) * 2^(i * 7))));have c:=aqM a (IntKind.u64.wrap (((s.getD (p+i) 0).toNat%128:Nat) * 2^(i * 7)));simp only[uw];split
  .exact⟨D8,by simp,by simp only;omega⟩
  .split
   .exact⟨anv _ c.1 c.2,by simp only;omega,by simp only;omega⟩
   .exact⟨b.1,b.2.1,by have:=b.2.2;push_cast at this;omega⟩
theorem adK(s:List UInt8)(p:Nat)(a:p<=s.length):jK (read s p).1/\0<=(read s p).2/\(p:Int)+(read s p).2<=s.length:=by
 have:=adL s p (min (s.length-p) 10) 0 0;unfold read;exact⟨this.1,this.2.1,by have:=this.2.2;omega⟩
theorem O5(bs:List UInt8):∀(cs:List UInt8)(p:Nat)(sl:Int)(ns:List Int)(d:Nat)(a:Int),xk bs cs p sl=some (ns,d,a)->p<=bs.length->sl<=2008->
 ns.length=cs.length/\p<=d/\d<=bs.length/\sl<=a/\a<=2008/\(∀x∈ns,jK x)/\(∀i,cs[i]? =some 115->0<=ns.getD i 0/\ns.getD i 0<a)
 |[],p,sl,ns,d,a,h,hp,hs=>by
  simp only[xk]at h;cases h;exact⟨rfl,aj _,hp,aV _,hs,by simp,by simp⟩
 |c::cs,p,sl,ns,d,a,h,hp,hs=>by
  obtain⟨D,M,N⟩:=adK bs p hp;simp only[xk]at h;split at h
  .cases h
  rename_i H;split at h
  .cases h
  rename_i A;split at h
  .cases h
  rename_i I;cases j:xk bs cs (p+(read bs p).2.toNat) (if c=115 then max sl ((read bs p).1+1)else sl)with
  |none=>rw[j]at h;cases h
  |some q=>
   obtain⟨C,K,E⟩:=q;rw[j]at h;simp only[iH,bJ,Prod.mk.injEq]at h;obtain⟨n,o,r⟩:=h;subst n;subst o;subst r;have b:(if c=115 then max sl ((read bs p).1+1)else sl)<=2008/\sl<=(if c=115 then max sl ((read bs p).1+1)else sl)/\(c=115->0<=(read bs p).1/\(read bs p).1<(if c=115 then max sl ((read bs p).1+1)else sl)):=by
    by_cases f:c=115
    .have J:¬((read bs p).1<0\/2008<=(read bs p).1):=λe=>A ⟨f,e⟩;simp only[jh f];refine⟨by omega,by omega,λ_=>⟨by omega,by omega⟩⟩
    .simp only[jg f];exact⟨hs,aV _,λe=>jl e f⟩
   obtain⟨t,F,u,G,v,y,z⟩:=O5 bs cs _ _ _ _ _ j (by omega) b.1;refine⟨by simp[t],by omega,u,by omega,v,λx m=>?_,λi g=>?_⟩
   .rcases dh.1 m with rfl|m
    .exact D
    .exact y x m
   .cases i with
    |zero=>
     simp only[dw,bJ]at g;have:=b.2.2 g;simp only[iR];omega
    |succ i=>
     simp only[iY]at g;simp only[iT];exact z i g
theorem ajU(o:Int)(ns:List Int)(n:Nat)(E:8<=n)(v:0<=o)(y:o<=36)(m:ns.length=(shape o).length)(j:∀x∈ns,jK x)(f:∀i:Nat,(shape o)[i]? =some 115->St.slot n (ns.getD i 0)):
 yJ n ⟨o,ns.getD 0 0,ns.getD 1 0,ns.getD 2 0,ns.getD 3 0,0,0⟩:=by
 have g:∀i:Nat,(shape o).length<=i->St.slot n (ns.getD i 0):=λi z=>by
  rw[aU,bV (by omega)];exact⟨by simp,by simp;omega⟩
 have e:jK (ns.getD 1 0):=by
  rw[aU];cases u:ns[1]?with
  |none=>exact D8
  |some x=>exact j x (bT u)
 have A:=f 0;have B:=f 1;have C:=f 2;have D:=f 3;have r:=g 2;clear m j f g;generalize ns.getD 0 0=a at *;generalize ns.getD 1 0=b at *;generalize ns.getD 2 0=c at *;generalize ns.getD 3 0=d at *;have t:o=0\/o=1\/o=2\/o=3\/o=4\/o=5\/o=6\/o=7\/o=8\/o=9\/o=10\/o=11\/o=12\/o=13\/o=14\/o=15\/o=16\/o=17\/o=18\/o=19\/o=20\/o=21\/o=22\/o=23\/o=24\/o=25\/o=26\/o=27\/o=28\/o=29\/o=30\/o=31\/o=32\/o=33\/o=34\/o=35\/o=36:=by omega
 rcases t with rfl|rfl|rfl|rfl|rfl|rfl|rfl|rfl|rfl|rfl|rfl|rfl|rfl|rfl|rfl|rfl|rfl|rfl|rfl|rfl|rfl|rfl|rfl|rfl|rfl|rfl|rfl|rfl|rfl|rfl|rfl|rfl|rfl|rfl|rfl|rfl|rfl;all_goals refine⟨⟨by simp,by simp⟩,?_,?_,?_,?_,?_⟩
 all_goals first
  |(intro h;simp at h;done)
  |exactλ_=>A (by decide)
  |exactλ_=>⟨A (by decide),B (by decide)⟩
  |exactλ_=>⟨B (by decide),C (by decide),by simp,by simp⟩
  |exactλ_ _ _ _ _ _ h=>jl rfl h
  |exactλ_ _ _ _ _ h _=>jl rfl h
  |exactλ_ _ _ _ h _ _=>jl rfl h
  |exactλ_ _ _ h _ _ _=>jl rfl h
  |exactλ_ _ h _ _ _ _=>jl rfl h
  |exactλ_ h _ _ _ _ _=>jl rfl h
  |exactλh _ _ _ _ _ _=>jl rfl h
  |exactλ_ _ _ _ _ _ _=>⟨e,A (by decide),jf rfl⟩
  |exactλ_ _ _ _ _ _ _=>⟨e,A (by decide),je (jf rfl)⟩
  |exactλ_ _ _ _ _ _ _=>⟨e,A (by decide),je (je ⟨B (by decide),jf rfl⟩)⟩
  |(refineλ_ _ _ _ _ _ _=>⟨e,A (by decide),je (je ⟨B (by decide),je ⟨C (by decide),λh=>?_⟩⟩)⟩;simp at h;done)
  |(refineλ_ _ _ _ _ _ _=>⟨e,A (by decide),je (je ⟨B (by decide),je ⟨r (by decide),λh=>?_⟩⟩)⟩;simp at h;done)
  |exactλ_ _ _ _ _ _ _=>⟨e,A (by decide),je (je ⟨B (by decide),je ⟨C (by decide),λ_=>D (by decide)⟩⟩)⟩
theorem O6{bs:List UInt8}{l a:Ls}{s:St}(h:xW bs l=some (s,a))(A:0<=l.pos)(e:8<=l.jD/\l.jD<=2008):
 yJ a.jD.toNat s/\l.pos<a.pos/\a.pos<=bs.length/\l.jD<=a.jD/\a.jD<=2008/\a={l with pos:=a.pos,jD:=a.jD}:=by
 unfold xW at h;split at h
 .cases h
 rename_i o f;have u:l.pos.toNat<bs.length:=by
  rcases dG l.pos.toNat bs.length with c|c
  .exact c
  .rw[bV c]at f;cases f
 split at h
 .rename_i d;split at h
  .cases h
  rename_i ns p sl v;cases h;obtain⟨g,y,z,j,m,n,r⟩:=O5 bs _ _ _ _ _ _ v (by omega) e.2;have b:0<=(o.toNat:Int)/\(o.toNat:Int)<=36:=of_decide_eq_true d;refine⟨ajU _ _ _ (by show 8<=sl.toNat;omega) b.1 b.2 g n (λi t=>?_),by show l.pos<(p:Int);omega,by show(p:Int)<=_;omega,j,m,rfl⟩;obtain⟨x,C⟩:=r i t;exact⟨x,by show _<(sl.toNat:Int);omega⟩
 .cases h
theorem Inv.read{l:Ls}(h:Inv l){p sl:Int}(c:l.jD<=sl)(b:sl<=2008):Inv {l with pos:=p,jD:=sl}:=
 ⟨h.chain,h.jY,h.eight,λk s a=>⟨(h.each k s a).1.more (by show l.jD.toNat<=sl.toNat;omega),(h.each k s a).2⟩,h.bound,⟨by show 8<=sl;have:=h.jD;omega,b⟩,h.bad⟩
theorem adS(l:Ls)(s:St):(lH l s).jB.length<=l.jB.length+1/\(lH l s).pos=l.pos:=by
 unfold lH;repeat' split
 all_goals first
  |exact⟨Nat.le_succ _,rfl⟩
  |(refine⟨?_,rfl⟩;simp[xR,Ja,ES,GI,Ba,Bc,GK,uf,mP,Ls.count];done)
  |skip
 .unfold Jr;split
  .exact⟨Nat.le_succ _,rfl⟩
  .refine⟨?_,rfl⟩;simp[mP,Ls.count]
theorem BJ.len{S:List St}:∀{a:List Bk}{d e:Nat},BJ S d e a->a.length<=e+1
 |[],_,_,h=>h.elim
 |[b],d,e,_=>by simp
 |b::b'::r,d,e,⟨o,s,h1,h2,h3,h4,h5⟩=>by
  have:=h5.len;simp only[aF]at this⊢;omega
theorem Inv.jH{l:Ls}(h:Inv l):l.jH≠[]/\l.jH.length<=l.jB.length+1:=by
 obtain⟨a,b,e⟩:=h.split;refine⟨by rw[e];simp,?_⟩;have:=h.chain.len;simpa using this
theorem aeo(bs:List UInt8)(f:Nat)(l:Ls)(h:l.bad=true):vw bs f l=l:=by
 cases f with
 |zero=>rfl
 |succ f=>simp only[vw,jh (show l.jH=[]\/l.bad=true from je h)]
theorem aep(bs:List UInt8)(f:Nat)(l:Ls)(h:l.jH=[]):vw bs f l=l:=by
 cases f with
 |zero=>rfl
 |succ f=>simp only[vw,jh (show l.jH=[]\/l.bad=true from jf h)]
theorem aes(bs:List UInt8)(f:Nat)(l a:Ls)(s:St)(h:Inv l)(c:xW bs l=some (s,a)):vw bs (f+1) l=vw bs f (lH a s):=by
 have b:¬(l.jH=[]\/l.bad=true):=λe=>e.elim h.jH.1 (λe=>by rw[h.bad]at e;cases e);simp only[vw,jg b,c]
theorem aer(bs:List UInt8)(i:bs.length<=100000):∀(f:Nat)(l:Ls),Inv l->0<=l.pos->(l.jB.length:Int)<=l.pos->l.pos<=bs.length->bs.length-l.pos<f->(vw bs f l).bad=false->Jz (vw bs f l)
 |0,l,_,_,_,h2,h3,_=>by omega
 |f+1,l,h,h0,h1,h2,h3,hb=>by
  have v:¬(l.jH=[]\/l.bad=true):=λe=>e.elim h.jH.1 (λe=>by rw[h.bad]at e;cases e);cases hr:xW bs l with
  |none=>
   simp only[vw,jg v,hr]at hb;cases hb
  |some q=>
   obtain⟨s,a⟩:=q;rw[aes bs f l a s h hr]at hb⊢;obtain⟨n,y,o,r,t,j⟩:=O6 hr h0 h.jD;have u:Inv a:=by rw[j];exact h.read r t
   have m:a.jB=l.jB:=by rw[j]
   obtain⟨x,g⟩:=adS a s;have b:(lH a s).bad=false:=by
    cases c:(lH a s).bad with
    |false=>rfl
    |true=>rw[aeo bs f _ c,c]at hb;cases hb
   rcases adX u s n (by rw[m];omega) b with d|d
   .exact aer bs i f _ d (by rw[g];omega) (by rw[g];rw[m]at x;omega) (by rw[g];exact o) (by rw[g];omega) hb
   .rw[aep bs f _ d.jH];exact d
theorem adW:Inv ug:=by
 refine⟨⟨rfl,rfl,0,rfl,pW.nil _ _⟩,rfl,by simp[ug],λk s c=>by simp[ug]at c,λb a=>?_,⟨by simp[ug],by simp[ug]⟩,rfl⟩;simp only[ug,cO]at a;subst a;exact⟨by simp,by simp,by simp,by simp⟩
theorem RF(bs:List UInt8)(a:bs.length<=100000)(b:(mF bs).bad=false):Jz (mF bs):=
 aer bs a _ _ adW (by simp[ug]) (by simp[ug]) (by simp[ug]) (by simp only[ug];omega) b
theorem aoR(bs:List UInt8)(c:bs.length<=100000)(i:(mF bs).bad=false)(v:Vw)(o:v.small)(jF:List Int)(m:Mc)(j:xH m)(f:Nat):
 (runs v (mF bs).jB jF (mF bs).jC.toNat 0 m).status≠2/\
 ((runs v (mF bs).jB jF f 0 m).status=2->f<(mF bs).jC.toNat)/\
 ((runs v (mF bs).jB jF f 0 m).status≠2->runs v (mF bs).jB jF f 0 m=runs v (mF bs).jB jF (mF bs).jC.toNat 0 m):=by
 have d:=RF bs c i;have e:=d.sound.fits.pos;have n:=d.jC;have b:∀g,(mF bs).jC.toNat<=g->(runs v (mF bs).jB jF g 0 m).status≠2:=λg r=>by
  refine agL d.sound o g 0 m (aV _) (by omega) j ?_;show jw (mF bs).jB 0+zx (mF bs).jB m.left []<=g;simp only[zx];omega
 refine⟨b _ (aj _),λh=>?_,λh=>?_⟩
 .rcases dG f (mF bs).jC.toNat with a|a
  .exact a
  .exact jl h (b f a)
 .rcases gX f (mF bs).jC.toNat with a|a
  .exact(SN _ _ _ _ a h).symm
  .exact SN _ _ _ _ a (b _ (aj _))
end Hx
section
abbrev aK:=@Go.heap_setCell_same
abbrev dI:=@Go.World.size_setCell
end
section
open Go.RowKit
open Hx (St Bk Ls jK)
attribute [local go_sem ↓] Go.wp_at_zero Go.wp_at_succ
attribute [local go_sem] kN
section
variable {B:Nat}{w:jk}{L:Nat}{s:ji}{l:Ls}{vs vb vl:jm}
theorem jT.agn(h:jT B w L s l vs vb vl)(x:Int):jT B (w.setCell (Ad L 1) (Im x)) L s {l with pos:=x} vs vb vl:=by
 have a:∀j,j≠1->(w.setCell (Ad L 1) (Im x)).cell? (Ad L j)=w.cell? (Ad L j):=λj b=>bG _ _ _ _ (by intro e;cases e;exact b rfl);exact h.put 1 _ _ vs vb vl (dB _ _ _ h.c1) (by rw[a 2 (by omega)];exact h.c2) (by rw[a 3 (by omega)];exact h.c3) (by rw[a 4 (by omega)];exact h.c4) (by rw[a 5 (by omega)];exact h.c5) (by rw[a 6 (by omega)];exact h.c6) (by rw[a 7 (by omega)];exact h.c7) (by omega) h.jB h.jH h.jY h.ns h.nb h.nl h.sb h.sl h.bl
def Ew(c n:Int):Bool:=if c=115 then decide (0<=n/\n<2008)else if c=108 then decide (0<=n/\n<3)else true
def yZ(c n sl:Int):Int:=if c=115/\0<=n/\n<2008 then max sl (n+1)else sl
theorem auQ(h:jT B w L s l vs vb vl)(c n:Int):
 Calls prog 167 #[Pt L 0,.int .i32 c,Im n] w λe b=>e=.returned (.bool (Ew c n))/\jT B b L s {l with jD:=yZ c n l.jD} vs vb vl/\jV L w vs vb vl b vs vb vl:=by
 by_cases f:c=115
 .subst f;by_cases a:0<=n/\n<2008
  .refine(auU h n a.1 a.2).mono ?_;rintro e b ⟨rfl,g,i⟩;refine⟨by simp[Ew,a],?_,i⟩;rw[show yZ 115 n l.jD=max l.jD (n+1) by simp[yZ,a]];exact g
  .refine(auS h n (by omega)).mono ?_;rintro e b ⟨rfl,rfl⟩;refine⟨by simp[Ew,a],?_,jV.refl _ _ _ _ _⟩;rw[show yZ 115 n l.jD=l.jD by simp[yZ];omega];exact h
 .have d:yZ c n l.jD=l.jD:=by simp[yZ,f]
  by_cases a:c=108
  .subst a;refine(auT n w L).mono ?_;rintro e b ⟨rfl,rfl⟩;rw[d];exact⟨by simp[Ew],h,jV.refl _ _ _ _ _⟩
  .refine(auR c n w L (by simpa using f) (by simpa using a)).mono ?_;rintro e b ⟨rfl,rfl⟩;rw[d];exact⟨by simp[Ew,f,a],h,jV.refl _ _ _ _ _⟩
theorem jT.pI(h:jT B w L s l vs vb vl){w':jk}{g:Nat}(b:w.grownBy w' (some g))(i:L≠g)(d:vs.ownBlock≠some g)(e:vb.ownBlock≠some g)(f:vl.ownBlock≠some g):jT B w' L s l vs vb vl:=by
 have c:w'.heap[L]? =w.heap[L]? :=b.block L h.lt (by simpa using i);have a:∀j,w'.cell? (Ad L j)=w.cell? (Ad L j):=λj=>bQ c;have m:∀j,w'.frozen? (Ad L j)=w.frozen? (Ad L j):=λj=>dZ c;exact⟨h.bL,by rw[a];exact h.c0,by rw[a];exact h.c1,by rw[a];exact h.c2,by rw[a];exact h.c3,by rw[a];exact h.c4,by rw[a];exact h.c5,by rw[a];exact h.c6,by rw[a];exact h.c7,
  λj=>by rw[m];exact h.fr j,h.jB.kept b (je d),h.jH.kept b (je e),h.jY.kept b (je f),h.ns,h.nb,h.nl,h.sb,h.sl,h.bl⟩
theorem jV.pI{f:jk}{d b c:jm}(h:jV L f d b c w vs vb vl){w':jk}{g:Nat}(a:w.grownBy w' (some g))(r:f.heap.size<=g):jV L f d b c w' vs vb vl:=
 ⟨a.os.trans h.os,a.tape.trans h.tape,a.output.trans h.output,dH h.size a.size,
   λk i j m n o=>by rw[a.block k (Nat.lt_of_lt_of_le i h.size) (by intro e;cases e;omega)];exact h.block k i j m n o,h.fs,h.fb,h.fl⟩
theorem mM(w:jk)(g o:Nat)(u:jm):w.grownBy (w.setCell (Ad g o) u) (some g):=
 ⟨rfl,rfl,rfl,by simp,λk _ a=>bC _ _ _ _ (by intro e;subst e;exact a rfl)⟩
theorem al5(w:jk)(g:Nat)(u:ji)(k:Nat):w.grownBy (w.iterAt g u k) (some g):=
 ⟨rfl,rfl,rfl,by rw[Lib.iterAt_size];exact aj _,λj _ a=>Lib.iterAt_other _ _ _ _ _ (by intro e;subst e;exact a rfl)⟩
def vS(q:Int)(ns:List Int):Array jm:=#[.int .u8 q,Im (ns.getD 0 0),Im (ns.getD 1 0),Im (ns.getD 2 0),Im (ns.getD 3 0),Im 0,Im 0]
theorem akA(q:Int)(ns:List Int)(n:Int)(h:ns.length<4):(vS q ns).setIfInBounds (1+ns.length) (Im n)=vS q (ns++[n]):=by
 match ns,h with
 |[],_=>rfl
 |[a],_=>rfl
 |[a,b],_=>rfl
 |[a,b,c],_=>rfl
theorem atw(o:Int):(Hx.shape o).length<=4/\∀c∈Hx.shape o,c.toNat<128:=by
 unfold Hx.shape;repeat' split
 all_goals exact⟨by decide,by decide⟩
structure uU(B:Nat)(w:jk)(L:Nat)(s:ji)(l:Ls)(vs vb vl:jm)(cs:List UInt8)(q:Int)(wr:jk)(k p:Nat)(sl:Int)(ns:List Int):Prop where
 load:jT B wr L s {l with pos:=p,jD:=sl} vs vb vl
 OI:jV L w vs vb vl wr vs vb vl
 iter:wr.heap[w.heap.size+1+1]? =some (.stringIter ⟨cs.toArray⟩ k)
 box:wr.heap[w.heap.size+1]? =some (.cells (vS q ns) 125)
 out:wr.heap[w.heap.size]? =some (.cells (vS 0 []) 125)
 lt:L<w.heap.size
 own:∀g,w.heap.size<=g->vs.ownBlock≠some g/\vb.ownBlock≠some g/\vl.ownBlock≠some g
structure aaY(B:Nat)(w:jk)(L:Nat)(s:ji)(l:Ls)(vs vb vl:jm)(cs:List UInt8)(q:Int)(R:Option (List Int×Nat×Int))(wr:jk)(k p:Nat)(sl:Int)(ns:List Int):Prop where
 mid:uU B w L s l vs vb vl cs q wr k p sl ns
 len:ns.length=k
 kl:k<=cs.length
 ps:p<=s.size
 eq:R=(xk s.data.toList (cs.drop k) p sl).map λr=>(ns++r.1,r.2)
theorem jG{g j:Nat}{a:Array jm}{T:jo}(h:w.heap[g]? =some (.cells a T)):w.cell? (Ad g j)=a[j]? :=by simp[World.cell?,h]
theorem nA{g j:Nat}{a:Array jm}{T:jo}(h:w.heap[g]? =some (.cells a T)):w.frozen? (Ad g j)=false:=by simp[World.frozen?,h]
theorem jJ{g:Nat}{a:Array jm}{T:jo}{v:jm}(j:Nat)(h:w.heap[g]? =some (.cells a T))(b:a[j]? =some v):w.cell? (Ad g j)=some v:=(jG h).trans b
theorem qV{g:Nat}{a:Array jm}{T:jo}(h:w.heap[g]? =some (.cells a T)):∀j,w.frozen? (Ad g j)=false:=λ_=>nA h
theorem Yu(w:jk)(a b c:Obj)(k:Nat):((((w.alloc a).drewN k).alloc b).alloc c).heap[w.heap.size]? =some a/\((((w.alloc a).drewN k).alloc b).alloc c).heap[w.heap.size+1]? =some b/\((((w.alloc a).drewN k).alloc b).alloc c).heap[w.heap.size+1+1]? =some c:=by
 have e:((((w.alloc a).drewN k).alloc b).alloc c).heap=((w.heap.push a).push b).push c:=rfl;rw[e];refine⟨?_,?_,?_⟩
 .rw[eH,jg (by simp;omega),eH,jg (by simp),eH,jh rfl]
 .rw[eH,jg (by simp),eH,jh (by simp)]
 .rw[eH,jh (by simp)]
section
variable {wr:jk}{cs:List UInt8}{q:Int}{k p:Nat}{sl:Int}{ns:List Int}
theorem lT{g:Nat}{o:Obj}(h:w.heap[g]? =some o):g<w.heap.size:=by
 rcases dG g w.heap.size with a|a
 .exact a
 .rw[Array.getElem?_eq_none a]at h;cases h
theorem uU.next(h:uU B w L s l vs vb vl cs q wr k p sl ns):uU B w L s l vs vb vl cs q (wr.iterAt (w.heap.size+1+1) ⟨cs.toArray⟩ (k+1)) (k+1) p sl ns:=by
 obtain⟨b,c,d⟩:=h.own (w.heap.size+1+1) (by omega);have a:=al5 wr (w.heap.size+1+1) ⟨cs.toArray⟩ (k+1);have e:=h.lt;refine⟨h.load.pI a (by omega) b c d,h.OI.pI a (by omega),Lib.iterAt_heap _ _ _ _ _ h.iter,?_,?_,h.lt,h.own⟩
 .rw[Lib.iterAt_other _ _ _ _ _ (by omega)];exact h.box
 .rw[Lib.iterAt_other _ _ _ _ _ (by omega)];exact h.out
theorem uU.drewN(h:uU B w L s l vs vb vl cs q wr k p sl ns)(n:Nat):uU B w L s l vs vb vl cs q (wr.drewN n) k p sl ns:=
 ⟨h.load.drewN n,h.OI.trans (jV.grow L _ _ _ _ (lu _ n)),h.iter,h.box,h.out,h.lt,h.own⟩
theorem uU.auX(h:uU B w L s l vs vb vl cs q wr k p sl ns){c:jk}{b:Int}(j:jT B c L s {l with pos:=p,jD:=b} vs vb vl)(d:jV L wr vs vb vl c vs vb vl):uU B w L s l vs vb vl cs q c k p b ns:=by
 have t:=h.lt;have a:∀g o,w.heap.size<=g->wr.heap[g]? =some o->c.heap[g]? =some o:=λg o i f=>by
  obtain⟨m,n,r⟩:=h.own g i;rw[d.block g (lT f) (by omega) (λe=>m e.symm) (λe=>n e.symm) (λe=>r e.symm)];exact f
 exact⟨j,h.OI.trans d,a _ _ (by omega) h.iter,a _ _ (by omega) h.box,a _ _ (by omega) h.out,h.lt,h.own⟩
theorem uU.store(h:uU B w L s l vs vb vl cs q wr k p sl ns)(n:Int)(e:ns.length<4)(a:Nat):uU B w L s l vs vb vl cs q ((wr.setCell (Ad (w.heap.size+1) (1+ns.length)) (Im n)).setCell (Ad L 1) (Im a)) k a sl (ns++[n]):=by
 obtain⟨f,g,i⟩:=h.own (w.heap.size+1) (by omega);have b:=mM wr (w.heap.size+1) (1+ns.length) (Im n);have j:=h.lt;have c:=h.load.pI b (by omega) f g i;have d:=c.agn (a:Int);refine⟨d,(h.OI.pI b (by omega)).trans (jV.own L _ _ _ _ 1 _),?_,?_,?_,h.lt,h.own⟩
 .rw[bC _ _ _ _ (by show _≠L;omega),bC _ _ _ _ (by show _≠w.heap.size+1;omega)];exact h.iter
 .rw[bC _ _ _ _ (by show _≠L;omega),aK _ _ _ _ _ _ h.box,akA _ _ _ e]
 .rw[bC _ _ _ _ (by show _≠L;omega),bC _ _ _ _ (by show _≠w.heap.size+1;omega)];exact h.out
def Gn(B:Nat)(w:jk)(L:Nat)(s:ji)(l:Ls)(vs vb vl:jm)(x:jk):Prop:=
 jT B x L s l vs vb vl/\jV L w vs vb vl x vs vb vl/\L<w.heap.size/\∀g,w.heap.size<=g->vs.ownBlock≠some g/\vb.ownBlock≠some g/\vl.ownBlock≠some g
theorem uU.XC(h:uU B w L s l vs vb vl cs q wr k p sl ns):Gn B w L s {l with pos:=p,jD:=sl} vs vb vl wr:=⟨h.load,h.OI,h.lt,h.own⟩
theorem Gn.set{x:jk}(h:Gn B w L s l vs vb vl x)(j:Nat)(a:jm):Gn B w L s l vs vb vl (x.setCell (Ad w.heap.size j) a):=by
 obtain⟨c,d,e,b⟩:=h;obtain⟨f,g,i⟩:=b w.heap.size (aj _);exact⟨c.pI (mM _ _ _ _) (by omega) f g i,d.pI (mM _ _ _ _) (aj _),e,b⟩
theorem Gn.drewN{x:jk}(h:Gn B w L s l vs vb vl x)(k:Nat):Gn B w L s l vs vb vl (x.drewN k):=
 ⟨h.1.drewN k,h.2.1.trans (jV.grow L _ _ _ _ (lu _ k)),h.2.2⟩
theorem ar4(bs:List UInt8)(c:UInt8)(d:List UInt8)(p:Nat)(sl:Int)(ns:List Int):((xk bs (c::d) p sl).map λr=>(ns++r.1,r.2))=
 if (Hx.read bs p).2=0 then none else if Ew c.toNat (Hx.read bs p).1=false then none
 else (xk bs d (p+(Hx.read bs p).2.toNat) (yZ c.toNat (Hx.read bs p).1 sl)).map λr=>(ns++[(Hx.read bs p).1]++r.1,r.2):=by
 have h:c=115↔(c.toNat:Int)=115:=⟨λe=>by rw[e];rfl,λe=>by
  have:c.toNat=115:=by omega
  exact UInt8.toNat_inj.1 this⟩
 have i:c=108↔(c.toNat:Int)=108:=⟨λe=>by rw[e];rfl,λe=>by
  have:c.toNat=108:=by omega
  exact UInt8.toNat_inj.1 this⟩
 simp only[xk,Ew,yZ,h,i];generalize (Hx.read bs p).1=n;generalize (Hx.read bs p).2=z;generalize (c.toNat:Int)=x;by_cases g:z=0
 .simp[g]
 simp only[jg g];by_cases f:x=115
 .by_cases a:0<=n/\n<2008
  .have b:¬(n<0\/2008<=n):=by omega
   simp[f,a,b,Option.map_map,Function.comp_def]
  .have b:n<0\/2008<=n:=by omega
   simp[f,a,b]
 .by_cases a:x=108
  .by_cases b:0<=n/\n<3
   .simp[a,b,Option.map_map,Function.comp_def]
   .simp[a,b]
  .simp[f,a,Option.map_map,Function.comp_def]
end
theorem agS(w:jk)(g:Nat)(T:jo)(u t r n m i f a b c d e j o:jm)(h:w.heap[g]? =some (.cells #[u,t,r,n,m,i,f] T)):
 (((((((w.setCell (Ad g 0) a).setCell (Ad g 1) b).setCell (Ad g 2) c).setCell (Ad g 3) d).setCell (Ad g 4) e).setCell (Ad g 5) j).setCell (Ad g 6) o).heap[g]? =some (.cells #[a,b,c,d,e,j,o] T):=by
 have v:(w.setCell (Ad g 0) a).heap[g]? =some (.cells #[a,t,r,n,m,i,f] T):=aK _ _ _ _ _ _ h;have x:((w.setCell (Ad g 0) a).setCell (Ad g 1) b).heap[g]? =some (.cells #[a,b,r,n,m,i,f] T):=aK _ _ _ _ _ _ v;have y:(((w.setCell (Ad g 0) a).setCell (Ad g 1) b).setCell (Ad g 2) c).heap[g]? =some (.cells #[a,b,c,n,m,i,f] T):=aK _ _ _ _ _ _ x;have z:((((w.setCell (Ad g 0) a).setCell (Ad g 1) b).setCell (Ad g 2) c).setCell (Ad g 3) d).heap[g]? =some (.cells #[a,b,c,d,m,i,f] T):=aK _ _ _ _ _ _ y;have A:(((((w.setCell (Ad g 0) a).setCell (Ad g 1) b).setCell (Ad g 2) c).setCell (Ad g 3) d).setCell (Ad g 4) e).heap[g]? =some (.cells #[a,b,c,d,e,i,f] T):=aK _ _ _ _ _ _ z;have C:((((((w.setCell (Ad g 0) a).setCell (Ad g 1) b).setCell (Ad g 2) c).setCell (Ad g 3) d).setCell (Ad g 4) e).setCell (Ad g 5) j).heap[g]? =some (.cells #[a,b,c,d,e,j,f] T):=aK _ _ _ _ _ _ A;have D:(((((((w.setCell (Ad g 0) a).setCell (Ad g 1) b).setCell (Ad g 2) c).setCell (Ad g 3) d).setCell (Ad g 4) e).setCell (Ad g 5) j).setCell (Ad g 6) o).heap[g]? =some (.cells #[a,b,c,d,e,j,o] T):=aK _ _ _ _ _ _ C;exact D
theorem afM(x:jk)(g:Nat)(T:jo)(h:x.heap[g]? =some (.cells (vS 0 []) T)):(((((((x.setCell (Ad g 0) (.int .u8 0)).setCell (Ad g 1) (Im 0)).setCell (Ad g 2) (Im 0)).setCell (Ad g 3) (Im 0)).setCell (Ad g 4) (Im 0)).setCell (Ad g 5) (Im 0)).setCell (Ad g 6) (Im 0)).heap[g]? =some (.cells (vS 0 []) T):=agS x g T _ _ _ _ _ _ _ _ _ _ _ _ _ _ h
theorem aqS(x:jk)(g:Nat)(T:jo)(k:Nat)(h:x.heap[g]? =some (.cells (vS 0 []) T)):((((((((x.setCell (Ad g 0) (.int .u8 0)).setCell (Ad g 1) (Im 0)).setCell (Ad g 2) (Im 0)).setCell (Ad g 3) (Im 0)).setCell (Ad g 4) (Im 0)).setCell (Ad g 5) (Im 0)).setCell (Ad g 6) (Im 0)).drewN k).heap[g]? =some (.cells (vS 0 []) T):=by
 rw[show∀y:jk,(y.drewN k).heap=y.heap fromλ_=>rfl];exact afM x g T h
theorem aqO(x:jk)(g:Nat)(T:jo)(q:Int)(ns:List Int)(h:x.heap[g]? =some (.cells (vS 0 []) T)):(((((((x.setCell (Ad g 0) (.int .u8 q)).setCell (Ad g 1) (Im (ns.getD 0 0))).setCell (Ad g 2) (Im (ns.getD 1 0))).setCell (Ad g 3) (Im (ns.getD 2 0))).setCell (Ad g 4) (Im (ns.getD 3 0))).setCell (Ad g 5) (Im 0)).setCell (Ad g 6) (Im 0)).heap[g]? =some (.cells (vS q ns) T):=agS x g T _ _ _ _ _ _ _ _ _ _ _ _ _ _ h
theorem XO(a:Array jm)(w:jk)(g:Nat)(q:Int)(ns:List Int)(b:Bool)(c:a[2]? =some (Pt g 0))(d:a[3]? =some (.bool b))(h:w.heap[g]? =some (.cells (vS q ns) 125)):
 (results Tryz.f112 a).run prog w=.ok (.tuple #[.agg (vS q ns),.bool b]) w:=by
 have e:w.cell? (Ad g 0)=some (.int .u8 q):=jG h;have f:w.cell? (Ad g 1)=some (Im (ns.getD 0 0)):=jG h;have i:w.cell? (Ad g 2)=some (Im (ns.getD 1 0)):=jG h;have j:w.cell? (Ad g 3)=some (Im (ns.getD 2 0)):=jG h;have m:w.cell? (Ad g 4)=some (Im (ns.getD 3 0)):=jG h;have n:w.cell? (Ad g 5)=some (Im 0):=jG h;have o:w.cell? (Ad g 6)=some (Im 0):=jG h;simp[results,Tryz.results112,go_sem,c,d,e,f,i,j,m,n,o,vS]
def Nb(B:Nat)(w:jk)(L:Nat)(s:ji)(l:Ls)(vs vb vl:jm)(q:Int)(ok:Bool)(R:Option (List Int×Nat×Int))(e:Ending)(w':jk):Prop:=
 ∃l',jT B w' L s l' vs vb vl/\jV L w vs vb vl w' vs vb vl/\
    ((∃ns p' sl',R=some (ns,p',sl')/\l'={l with pos:=p',jD:=sl'}/\e=.returned (.tuple #[.agg (vS q ns),.bool ok]))\/
     (R=none/\(∃x y,l'={l with pos:=x,jD:=y})/\e=.returned (.tuple #[.agg (vS 0 []),.bool false])))
theorem Nb.none{q:Int}{b:Bool}{R:Option (List Int×Nat×Int)}{p:Nat}{sl:Int}{x:jk}(h:Gn B w L s {l with pos:=p,jD:=sl} vs vb vl x)(a:R=none):Nb B w L s l vs vb vl q b R (.returned (.tuple #[.agg (vS 0 []),.bool false])) x:=
 ⟨_,h.1,h.2.1,je ⟨a,⟨_,_,rfl⟩,rfl⟩⟩
theorem ar8(h:jT B w L s l vs vb vl)(p:Nat)(hp:l.pos=p)(ac:p<s.size)(hs:s.size<=100000)(R:Option (List Int×Nat×Int))(HR:Hid (xk s.data.toList (Hx.shape s[p].toNat) (p+1) l.jD=R)):
 Calls prog 112 #[Pt L 0] w (Nb B w L s l vs vb vl s[p].toNat (Hx.Fp s[p].toNat) R):=by
 have c0:=h.c0;have c1:=h.c1;have f1:=h.fr 1;have hL:=h.lt;rw[hp]at c1;have n1:¬L=w.heap.size:=by omega
 have n2:¬L=w.heap.size+1:=by omega
 have d1:((p:Int)==(s.size:Int))=false:=by simp;omega
 have i0:(0:Int)<=(p:Int):=by omega
 have i1:(p:Int)<(s.size:Int):=by omega
 have Z:=atw s[p].toNat;have HS:Hid (∀w,Calls prog 165 #[.int .u8 s[p].toNat] w λe C=>e=.returned (.tuple #[.string ⟨(Hx.shape s[p].toNat).toArray⟩,.bool (Hx.Fp s[p].toNat)])/\C=w):=λw=>atv _ w (by omega);generalize Hx.Fp s[p].toNat=ok at *;generalize Hx.shape s[p].toNat=cs at *;have HA:Hid (∀k,aaY B w L s l vs vb vl cs s[p].toNat R (((((w.setCell (Ad L 1) (Im ((p:Int)+1))).alloc (.cells #[.int .u8 0,Im 0,Im 0,Im 0,Im 0,Im 0,Im 0] 125)).drewN k).alloc (.cells #[.int .u8 s[p].toNat,Im 0,Im 0,Im 0,Im 0,Im 0,Im 0] 125)).iter ⟨cs.toArray⟩ 0) 0 (p+1) l.jD []):=λk=>by
  have e1:((p:Int)+1)=((p+1:Nat):Int):=by omega
  refine⟨⟨?_,?_,?_,?_,?_,hL,λg hg=>⟨λe=>?_,λe=>?_,λe=>?_⟩⟩,rfl,bD _,by omega,?_⟩
  .rw[e1];exact((((h.agn ((p+1:Nat):Int)).alloc _).drewN k).alloc _).alloc _
  .exact(jV.own L w vs vb vl 1 _).trans ((jV.grow L _ _ _ _ (ah _ _ none)).trans ((jV.grow L _ _ _ _ (lu _ k)).trans ((jV.grow L _ _ _ _ (ah _ _ none)).trans (jV.grow L _ _ _ _ (ah _ _ none)))))
  .have:=(Yu (w.setCell (Ad L 1) (Im ((p:Int)+1))) (.cells #[.int .u8 0,Im 0,Im 0,Im 0,Im 0,Im 0,Im 0] 125) (.cells #[.int .u8 s[p].toNat,Im 0,Im 0,Im 0,Im 0,Im 0,Im 0] 125) (.stringIter ⟨cs.toArray⟩ 0) k).2.2
   rwa [dI]at this
  .have:=(Yu (w.setCell (Ad L 1) (Im ((p:Int)+1))) (.cells #[.int .u8 0,Im 0,Im 0,Im 0,Im 0,Im 0,Im 0] 125) (.cells #[.int .u8 s[p].toNat,Im 0,Im 0,Im 0,Im 0,Im 0,Im 0] 125) (.stringIter ⟨cs.toArray⟩ 0) k).2.1
   rwa [dI]at this
  .have:=(Yu (w.setCell (Ad L 1) (Im ((p:Int)+1))) (.cells #[.int .u8 0,Im 0,Im 0,Im 0,Im 0,Im 0,Im 0] 125) (.cells #[.int .u8 s[p].toNat,Im 0,Im 0,Im 0,Im 0,Im 0,Im 0] 125) (.stringIter ⟨cs.toArray⟩ 0) k).1
   rwa [dI]at this
  .have:=(h.jB.lt g e).2;omega
  .have:=(h.jH.lt g e).2;omega
  .have:=(h.jY.lt g e).2;omega
  .rw[<-HR.out,aQ];cases xk s.data.toList cs (p+1) l.jD with
   |none=>rfl
   |some r=>rfl
 clear h;go_enter func112,ntmps112;go_wp2_with fail;refine nO 9 (by kernel_rfl) (by kernel_rfl) ?_;simp only[aC,aO,aG,aQ];repeat (go_big_quiet_step (fail))
 refine bF ?_;intro _ i;obtain⟨k1,d⟩:=i;subst d;go_upto_region 3 with fail;go_cut [4] (λx wx=>x=Pt (w.heap.size+1) 0/\wx=((w.alloc (.cells #[.int .u8 0,Im 0,Im 0,Im 0,Im 0,Im 0,Im 0] 125)).drewN (k1+1)).alloc (.cells #[.int .u8 s[p].toNat,Im 0,Im 0,Im 0,Im 0,Im 0,Im 0] 125))
 case first=>
  go_region_held3 (λC=>C.cell? (Ad L 0)=some (.string s)/\C.cell? (Ad L 1)=some (Im p)) (go_keep) (fail);all_goals (go_wp2_with fail;go_meet;exact⟨rfl,rfl⟩)
 case rest=>
  obtain⟨rfl,rfl⟩:=hcut;go_wp2_with (go_at_call 165;refine(HS.out _).mono ?_;rintro e w1 ⟨rfl,rfl⟩);clear HS HR;go_loopw [7,8,9,10] (λ_ _ _ _ wr=>∃(k f:Nat)(sl:Int)(ns:List Int),aaY B w L s l vs vb vl cs s[p].toNat R wr k f sl ns) (λ_ _ _ _ wr=>cs.length-wr.iterPos (w.heap.size+1+1))
  case atStart=>exact⟨0,p+1,l.jD,[],HA.out _⟩
  case round=>
   obtain⟨k,f,sl,ns,o⟩:=hrel;clear HA;by_cases S:k<cs.length
   .have W:cs.drop k=cs[k]::cs.drop (k+1):=dA S;have v:k<(⟨cs.toArray⟩:ji).size:=by simpa [ByteArray.size]using S
    have D:(⟨cs.toArray⟩:ji)[k]'v=cs[k]:=rfl;have G:∀I,(Instr.next (Pt (w.heap.size+1+1) 0) true I).run prog wr=.ok (.tuple #[.bool true,Im k,.int .i32 (cs[k].toNat)]) (wr.iterAt (w.heap.size+1+1) ⟨cs.toArray⟩ (k+1)):=λI=>by
     have:=Lib.run_next_ascii_at (P:=prog) wr (w.heap.size+1+1) ⟨cs.toArray⟩ k I o.mid.iter v (by rw[D];exact Z.2 _ (fG S));rw[this,D]
    have Y:wr.iterPos (w.heap.size+1+1)=k:=by simp[World.iterPos,o.mid.iter]
    have a:=o.mid.next;have F:=o.eq;rw[W,ar4]at F;have E:=o.len;have O:=o.ps;clear o;generalize cs[k]=c at *;generalize wr.iterAt (w.heap.size+1+1) ⟨cs.toArray⟩ (k+1)=u at *;obtain⟨b0,b1,b2⟩:=Hx.adK s.data.toList f (by simpa using O);have V:Hid (∀w,Calls prog 166 #[.string s,Im f] w λe C=>e=.returned (.tuple #[Im (Hx.read s.data.toList f).1,Im (Hx.read s.data.toList f).2])/\C=w):=λw=>ar5 s f w hs O;generalize (Hx.read s.data.toList f).1=n at *;generalize (Hx.read s.data.toList f).2=z at *;obtain⟨z,rfl⟩:=bI b1;have m0:=a.load.c0;have m1:=a.load.c1;simp only at m1;have r0:u.cell? (Ad w.heap.size 0)=some (.int .u8 0):=jG a.out;have r1:u.cell? (Ad w.heap.size 1)=some (Im 0):=jG a.out;have r2:u.cell? (Ad w.heap.size 2)=some (Im 0):=jG a.out;have r3:u.cell? (Ad w.heap.size 3)=some (Im 0):=jG a.out;have r4:u.cell? (Ad w.heap.size 4)=some (Im 0):=jG a.out;have r5:u.cell? (Ad w.heap.size 5)=some (Im 0):=jG a.out;have r6:u.cell? (Ad w.heap.size 6)=some (Im 0):=jG a.out;have rf:∀j,u.frozen? (Ad w.heap.size j)=false:=λj=>nA a.out;have t:Hid (uU B w L s l vs vb vl cs s[p].toNat u (k+1) f sl ns):=a;have J:Hid (R=if ((z:Nat):Int)=0 then none else if Ew c.toNat n=false then none else (xk s.data.toList (cs.drop (k+1)) (f+((z:Nat):Int).toNat) (yZ c.toNat n sl)).map λr=>(ns++[n]++r.1,r.2)):=F;clear a F;by_cases hz:z=0
    .subst hz;go_wp2_with fail;refine nO 13 (by kernel_rfl) (by kernel_rfl) ?_;simp only[aC,aO,aG,aQ];repeat (go_big_quiet_step ((go_at_call 166;exact dN (V.out _))))
     refine bF ?_;intro _ i;obtain⟨k3,d⟩:=i;subst d;go_wp2_with fail;have H:R=none:=by rw[J.out];simp
     refine cu (XO _ _ w.heap.size 0 [] false rfl rfl (aqS u w.heap.size 125 k3 t.out.out)) rfl ?_;exact Nb.none ((((((((t.out.XC.set _ _).set _ _).set _ _).set _ _).set _ _).set _ _).set _ _).drewN _) H
    .have dz:(((z:Nat):Int)==0)=false:=by simp;omega
     have Q:Hid (∀T,Calls prog 167 #[Pt L 0,.int .i32 c.toNat,Im n] (u.drewN T) λe C=>e=.returned (.bool (Ew c.toNat n))/\uU B w L s l vs vb vl cs s[p].toNat C (k+1) f (yZ c.toNat n sl) ns):=λT=>by
      refine(auQ (t.out.drewN T).load c.toNat n).mono ?_;rintro e C ⟨h1,h2,h3⟩;exact⟨h1,(t.out.drewN T).auX h2 h3⟩
     clear r0 r1 r2 r3 r4 r5 r6 rf t;rw[jg (by omega)]at J;cases A:Ew c.toNat n with
     |false=>
      have H:R=none:=by rw[J.out,A];rfl
      rw[A]at Q;clear J;go_wp2_with fail;refine nO 13 (by kernel_rfl) (by kernel_rfl) ?_;simp only[aC,aO,aG,aQ];repeat (go_big_quiet_step ((go_at_call 166;exact dN (V.out _))))
      refine bF ?_;intro _ i;obtain⟨k3,d⟩:=i;subst d;go_wp2_with fail;refine(Q.out _).mono ?_;rintro e m ⟨rfl,b⟩;have r0:m.cell? (Ad w.heap.size 0)=some (.int .u8 0):=jG b.out;have r1:m.cell? (Ad w.heap.size 1)=some (Im 0):=jG b.out;have r2:m.cell? (Ad w.heap.size 2)=some (Im 0):=jG b.out;have r3:m.cell? (Ad w.heap.size 3)=some (Im 0):=jG b.out;have r4:m.cell? (Ad w.heap.size 4)=some (Im 0):=jG b.out;have r5:m.cell? (Ad w.heap.size 5)=some (Im 0):=jG b.out;have r6:m.cell? (Ad w.heap.size 6)=some (Im 0):=jG b.out;have rf:∀j,m.frozen? (Ad w.heap.size j)=false:=λj=>nA b.out;have t:Hid (uU B w L s l vs vb vl cs s[p].toNat m (k+1) f (yZ c.toNat n sl) ns):=b;clear b;go_wp2_with fail;refine cu (XO _ _ w.heap.size 0 [] false rfl rfl (afM m w.heap.size 125 t.out.out)) rfl ?_;exact Nb.none (((((((t.out.XC.set _ _).set _ _).set _ _).set _ _).set _ _).set _ _).set _ _) H
     |true=>
      have K:Hid (R=(xk s.data.toList (cs.drop (k+1)) (f+z) (yZ c.toNat n sl)).map λr=>(ns++[n]++r.1,r.2)):=by
       show _=_;rw[J.out,A];simp
      rw[A]at Q;clear J;have i4:(k:Int)<4:=by omega
      have i5:(0:Int)<=(k:Int):=by omega
      obtain⟨y,hy⟩:∃y:Nat,f+z=y:=⟨_,rfl⟩;have ad:(f:Int)+(z:Int)=(y:Int):=by omega
      have X:s.data.toList.length=s.size:=by simp
      have aa:y<=s.size:=by omega
      rw[hy]at K;clear hy;go_wp2_with fail;refine nO 13 (by kernel_rfl) (by kernel_rfl) ?_;simp only[aC,aO,aG,aQ];repeat (go_big_quiet_step ((go_at_call 166;exact dN (V.out _))))
      refine bF ?_;intro _ i;obtain⟨k3,d⟩:=i;subst d;go_wp2_with fail;refine(Q.out _).mono ?_;rintro e m ⟨rfl,b⟩;have bx:m.cell? (Ad (w.heap.size+1) (1+k))=(vS s[p].toNat ns)[1+k]? :=jG b.box;have bf:∀j,m.frozen? (Ad (w.heap.size+1) j)=false:=λj=>nA b.box;have m1:=b.load.c1;have mf:=b.load.fr 1;simp only at m1;have U:Hid (uU B w L s l vs vb vl cs s[p].toNat ((m.setCell (Ad (w.heap.size+1) (1+ns.length)) (Im n)).setCell (Ad L 1) (Im y)) (k+1) y (yZ c.toNat n sl) (ns++[n])):=b.store n (by omega) y;rw[E]at U;obtain⟨bv,M⟩:∃bv,(vS s[p].toNat ns)[1+k]? =some bv:=⟨_,Array.getElem?_eq_getElem (show 1+k<(vS s[p].toNat ns).size from by show 1+k<7;omega)⟩;rw[M]at bx;clear b M;go_wp2_with fail;refine⟨⟨k+1,y,yZ c.toNat n sl,ns++[n],U.out,by simp[E],by omega,aa,K.out⟩,?_⟩;have N:((m.setCell (Ad (w.heap.size+1) (1+k)) (Im n)).setCell (Ad L 1) (Im y)).iterPos (w.heap.size+1+1)=k+1:=by
       unfold World.iterPos;rw[U.out.iter]
      rw[Y,N];omega
   .have ab:=o.kl;have v:¬k<(⟨cs.toArray⟩:ji).size:=by simpa [ByteArray.size]using S
    have G:∀I,(Instr.next (Pt (w.heap.size+1+1) 0) true I).run prog wr=.ok (.tuple #[.bool false]) wr:=λI=>Lib.run_next_end_at (P:=prog) wr (w.heap.size+1+1) ⟨cs.toArray⟩ k I o.mid.iter v;have hR:R=some (ns,f,sl):=by
     rw[o.eq,fH (by omega)];simp[xk]
    have a:=o.mid;have r0:wr.cell? (Ad w.heap.size 0)=some (.int .u8 0):=jG a.out;have r1:wr.cell? (Ad w.heap.size 1)=some (Im 0):=jG a.out;have r2:wr.cell? (Ad w.heap.size 2)=some (Im 0):=jG a.out;have r3:wr.cell? (Ad w.heap.size 3)=some (Im 0):=jG a.out;have r4:wr.cell? (Ad w.heap.size 4)=some (Im 0):=jG a.out;have r5:wr.cell? (Ad w.heap.size 5)=some (Im 0):=jG a.out;have r6:wr.cell? (Ad w.heap.size 6)=some (Im 0):=jG a.out;have rf:∀j,wr.frozen? (Ad w.heap.size j)=false:=λj=>nA a.out;have q0:wr.cell? (Ad (w.heap.size+1) 0)=some (.int .u8 s[p].toNat):=jG a.box;have q1:wr.cell? (Ad (w.heap.size+1) 1)=some (Im (ns.getD 0 0)):=jG a.box;have q2:wr.cell? (Ad (w.heap.size+1) 2)=some (Im (ns.getD 1 0)):=jG a.box;have q3:wr.cell? (Ad (w.heap.size+1) 3)=some (Im (ns.getD 2 0)):=jG a.box;have q4:wr.cell? (Ad (w.heap.size+1) 4)=some (Im (ns.getD 3 0)):=jG a.box;have q5:wr.cell? (Ad (w.heap.size+1) 5)=some (Im 0):=jG a.box;have q6:wr.cell? (Ad (w.heap.size+1) 6)=some (Im 0):=jG a.box;have t:Hid (uU B w L s l vs vb vl cs s[p].toNat wr k f sl ns):=a;clear a o;go_wp2_with fail;refine cu (XO _ _ w.heap.size s[p].toNat ns ok rfl rfl (aqO wr w.heap.size 125 s[p].toNat ns t.out.out)) rfl ?_;have ho:=(((((((t.out.XC.set 0 (.int .u8 s[p].toNat)).set 1 (Im (ns.getD 0 0))).set 2 (Im (ns.getD 1 0))).set 3 (Im (ns.getD 2 0))).set 4 (Im (ns.getD 3 0))).set 5 (Im 0)).set 6 (Im 0));exact⟨_,ho.1,ho.2.1,jf ⟨ns,f,sl,hR,rfl,rfl⟩⟩
end
end
end Go.Proofs.YthllhabjfchgiaaGreatDoor
