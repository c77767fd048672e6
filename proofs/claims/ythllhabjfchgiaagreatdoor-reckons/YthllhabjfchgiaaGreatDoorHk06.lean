import Derived.Test.YthllhabjfchgiaaGreatDoorHk05
import Derived.Lib.OthersKept
import Derived.Deep.CutBlock
import Derived.Deep.DeepCutAuto
import Derived.Scope
import Derived.ScopeJumps
set_option maxRecDepth 100000
set_option maxHeartbeats 8000000
set_option linter.unusedSimpArgs false
namespace Go.Proofs.YthllhabjfchgiaaGreatDoor
open _root_.Go.Proofs.Tryz
namespace Hx
open Go.RowKit
theorem al5(x:Int)(h0:0<=x)(h1:x<18446744073709551616):jJ (signed x):=by
 unfold signed;split
 .exact Js _ _ _
 .unfold jJ;omega
theorem ao6(x y:Int):0<=bits .or .u64 x y/\bits .or .u64 x y<18446744073709551616:=⟨bits_lo_u64 _ _ _,by have:=bits_hi_u64 .or x y;omega⟩
theorem acg(s:List UInt8)(p:Nat):∀(r i:Nat)(acc:Int),jJ (um s p r i acc).1/\0<=(um s p r i acc).2/\(um s p r i acc).2<=i+r
 |0,i,acc=>⟨Dw,by simp[um],by simp only[um];omega⟩
 |r+1,i,acc=>by
  have ih:=acg s p r (i+1) (bits .or .u64 acc (IntKind.u64.wrap (((s.getD (p+i) 0).toNat%128:Nat) * 2^(i * 7))));have hb:=ao6 acc (IntKind.u64.wrap (((s.getD (p+i) 0).toNat%128:Nat) * 2^(i * 7)));simp only[um];split
  .exact⟨Dw,by simp,by simp only;omega⟩
  .split
   .exact⟨al5 _ hb.1 hb.2,by simp only;omega,by simp only;omega⟩
   .exact⟨ih.1,ih.2.1,by have:=ih.2.2;push_cast at this;omega⟩
theorem acf(s:List UInt8)(p:Nat)(hp:p<=s.length):jJ (read s p).1/\0<=(read s p).2/\(p:Int)+(read s p).2<=s.length:=by
 have:=acg s p (min (s.length-p) 10) 0 0;unfold read;exact⟨this.1,this.2.1,by have:=this.2.2;omega⟩
theorem Nz(bs:List UInt8):∀(cs:List UInt8)(p:Nat)(sl:Int)(ns:List Int)(p':Nat)(sl':Int),wP bs cs p sl=some (ns,p',sl')->p<=bs.length->sl<=2008->
 ns.length=cs.length/\p<=p'/\p'<=bs.length/\sl<=sl'/\sl'<=2008/\(∀x∈ns,jJ x)/\(∀i,cs[i]? =some 115->0<=ns.getD i 0/\ns.getD i 0<sl')
 |[],p,sl,ns,p',sl',h,hp,hs=>by
  simp only[wP]at h;cases h;exact⟨rfl,aj _,hp,aV _,hs,by simp,by simp⟩
 |c::cs,p,sl,ns,p',sl',h,hp,hs=>by
  obtain⟨r1,r2,r3⟩:=acf bs p hp;simp only[wP]at h;split at h
  .cases h
  rename_i h0;split at h
  .cases h
  rename_i h1;split at h
  .cases h
  rename_i h2;cases hr:wP bs cs (p+(read bs p).2.toNat) (if c=115 then max sl ((read bs p).1+1)else sl)with
  |none=>rw[hr]at h;cases h
  |some q=>
   obtain⟨ns1,p1,sl1⟩:=q;rw[hr]at h;simp only[iH,bJ,Prod.mk.injEq]at h;obtain⟨e1,e2,e3⟩:=h;subst e1;subst e2;subst e3;have hsl:(if c=115 then max sl ((read bs p).1+1)else sl)<=2008/\sl<=(if c=115 then max sl ((read bs p).1+1)else sl)/\(c=115->0<=(read bs p).1/\(read bs p).1<(if c=115 then max sl ((read bs p).1+1)else sl)):=by
    by_cases hc:c=115
    .have h3:¬((read bs p).1<0\/2008<=(read bs p).1):=λe=>h1 ⟨hc,e⟩;simp only[jh hc];refine⟨by omega,by omega,λ_=>⟨by omega,by omega⟩⟩
    .simp only[jg hc];exact⟨hs,aV _,λe=>jl e hc⟩
   obtain⟨g1,g2,g3,g4,g5,g6,g7⟩:=Nz bs cs _ _ _ _ _ hr (by omega) hsl.1;refine⟨by simp[g1],by omega,g3,by omega,g5,λx hx=>?_,λi hi=>?_⟩
   .rcases dh.1 hx with rfl|hx
    .exact r1
    .exact g6 x hx
   .cases i with
    |zero=>
     simp only[dw,bJ]at hi;have:=hsl.2.2 hi;simp only[iR];omega
    |succ i=>
     simp only[iY]at hi;simp only[iT];exact g7 i hi
theorem aiR(o:Int)(ns:List Int)(n:Nat)(hn:8<=n)(h0:0<=o)(h1:o<=36)(hlen:ns.length=(shape o).length)(hin:∀x∈ns,jJ x)(f:∀i:Nat,(shape o)[i]? =some 115->St.slot n (ns.getD i 0)):
 yw n ⟨o,ns.getD 0 0,ns.getD 1 0,ns.getD 2 0,ns.getD 3 0,0,0⟩:=by
 have g:∀i:Nat,(shape o).length<=i->St.slot n (ns.getD i 0):=λi hi=>by
  rw[aU,bV (by omega)];exact⟨by simp,by simp;omega⟩
 have hb:jJ (ns.getD 1 0):=by
  rw[aU];cases he:ns[1]?with
  |none=>exact Dw
  |some x=>exact hin x (bT he)
 have A:=f 0;have B:=f 1;have C:=f 2;have D:=f 3;have gC:=g 2;clear hlen hin f g;generalize ns.getD 0 0=a at *;generalize ns.getD 1 0=b at *;generalize ns.getD 2 0=c at *;generalize ns.getD 3 0=d at *;have hc:o=0\/o=1\/o=2\/o=3\/o=4\/o=5\/o=6\/o=7\/o=8\/o=9\/o=10\/o=11\/o=12\/o=13\/o=14\/o=15\/o=16\/o=17\/o=18\/o=19\/o=20\/o=21\/o=22\/o=23\/o=24\/o=25\/o=26\/o=27\/o=28\/o=29\/o=30\/o=31\/o=32\/o=33\/o=34\/o=35\/o=36:=by omega
 rcases hc with rfl|rfl|rfl|rfl|rfl|rfl|rfl|rfl|rfl|rfl|rfl|rfl|rfl|rfl|rfl|rfl|rfl|rfl|rfl|rfl|rfl|rfl|rfl|rfl|rfl|rfl|rfl|rfl|rfl|rfl|rfl|rfl|rfl|rfl|rfl|rfl|rfl;all_goals refine⟨⟨by simp,by simp⟩,?_,?_,?_,?_,?_⟩
 all_goals first
  |(intro h;simp at h;done)
  |exactλ_=>A (by decide)
  |exactλ_=>⟨A (by decide),B (by decide)⟩
  |exactλ_=>⟨B (by decide),C (by decide),by simp,by simp⟩
  |exactλ_ _ _ _ _ _ h=>jl rfl h
  |exactλ_ _ _ _ _ h _=>jl rfl h
  |exactλ_ _ _ _ h _ _=>jl rfl h
  |exactλ_ _ _ h _ _ _=>jl rfl h
  |exactλ_ _ h _ _ _ _=>jl rfl h
  |exactλ_ h _ _ _ _ _=>jl rfl h
  |exactλh _ _ _ _ _ _=>jl rfl h
  |exactλ_ _ _ _ _ _ _=>⟨hb,A (by decide),jf rfl⟩
  |exactλ_ _ _ _ _ _ _=>⟨hb,A (by decide),je (jf rfl)⟩
  |exactλ_ _ _ _ _ _ _=>⟨hb,A (by decide),je (je ⟨B (by decide),jf rfl⟩)⟩
  |(refineλ_ _ _ _ _ _ _=>⟨hb,A (by decide),je (je ⟨B (by decide),je ⟨C (by decide),λh=>?_⟩⟩)⟩;simp at h;done)
  |(refineλ_ _ _ _ _ _ _=>⟨hb,A (by decide),je (je ⟨B (by decide),je ⟨gC (by decide),λh=>?_⟩⟩)⟩;simp at h;done)
  |exactλ_ _ _ _ _ _ _=>⟨hb,A (by decide),je (je ⟨B (by decide),je ⟨C (by decide),λ_=>D (by decide)⟩⟩)⟩
theorem NC{bs:List UInt8}{l l':Ls}{s:St}(h:xH bs l=some (s,l'))(hp:0<=l.pos)(hsl:8<=l.jD/\l.jD<=2008):
 yw l'.jD.toNat s/\l.pos<l'.pos/\l'.pos<=bs.length/\l.jD<=l'.jD/\l'.jD<=2008/\l'={l with pos:=l'.pos,jD:=l'.jD}:=by
 unfold xH at h;split at h
 .cases h
 rename_i o ho;have hlt:l.pos.toNat<bs.length:=by
  rcases dG l.pos.toNat bs.length with h'|h'
  .exact h'
  .rw[bV h']at ho;cases ho
 split at h
 .rename_i hop;split at h
  .cases h
  rename_i ns p sl hr;cases h;obtain⟨g1,g2,g3,g4,g5,g6,g7⟩:=Nz bs _ _ _ _ _ _ hr (by omega) hsl.2;have hop':0<=(o.toNat:Int)/\(o.toNat:Int)<=36:=of_decide_eq_true hop;refine⟨aiR _ _ _ (by show 8<=sl.toNat;omega) hop'.1 hop'.2 g1 g6 (λi hi=>?_),by show l.pos<(p:Int);omega,by show(p:Int)<=_;omega,g4,g5,rfl⟩;obtain⟨k1,k2⟩:=g7 i hi;exact⟨k1,by show _<(sl.toNat:Int);omega⟩
 .cases h
theorem Inv.read{l:Ls}(h:Inv l){p sl:Int}(h1:l.jD<=sl)(h2:sl<=2008):Inv {l with pos:=p,jD:=sl}:=
 ⟨h.chain,h.jV,h.eight,λk s hk=>⟨(h.each k s hk).1.more (by show l.jD.toNat<=sl.toNat;omega),(h.each k s hk).2⟩,h.bound,⟨by show 8<=sl;have:=h.jD;omega,h2⟩,h.bad⟩
theorem acn(l:Ls)(s:St):(lH l s).jB.length<=l.jB.length+1/\(lH l s).pos=l.pos:=by
 unfold lH;repeat' split
 all_goals first
  |exact⟨Nat.le_succ _,rfl⟩
  |(refine⟨?_,rfl⟩;simp[xA,Hy,Ec,FC,Am,Ap,FD,tX,mM,Ls.count];done)
  |skip
 .unfold Ip;split
  .exact⟨Nat.le_succ _,rfl⟩
  .refine⟨?_,rfl⟩;simp[mM,Ls.count]
theorem Bf.len{S:List St}:∀{bs:List Bk}{d e:Nat},Bf S d e bs->bs.length<=e+1
 |[],_,_,h=>h.elim
 |[b],d,e,_=>by simp
 |b::b'::r,d,e,⟨o,s,h1,h2,h3,h4,h5⟩=>by
  have:=h5.len;simp only[aF]at this⊢;omega
theorem Inv.jH{l:Ls}(h:Inv l):l.jH≠[]/\l.jH.length<=l.jB.length+1:=by
 obtain⟨init,b,e⟩:=h.split;refine⟨by rw[e];simp,?_⟩;have:=h.chain.len;simpa using this
theorem ac8(bs:List UInt8)(f:Nat)(l:Ls)(h:l.bad=true):uX bs f l=l:=by
 cases f with
 |zero=>rfl
 |succ f=>simp only[uX,jh (show l.jH=[]\/l.bad=true from je h)]
theorem ac9(bs:List UInt8)(f:Nat)(l:Ls)(h:l.jH=[]):uX bs f l=l:=by
 cases f with
 |zero=>rfl
 |succ f=>simp only[uX,jh (show l.jH=[]\/l.bad=true from jf h)]
theorem adb(bs:List UInt8)(f:Nat)(l l':Ls)(s:St)(h:Inv l)(hr:xH bs l=some (s,l')):uX bs (f+1) l=uX bs f (lH l' s):=by
 have h1:¬(l.jH=[]\/l.bad=true):=λe=>e.elim h.jH.1 (λe=>by rw[h.bad]at e;cases e);simp only[uX,jg h1,hr]
theorem ada(bs:List UInt8)(hbs:bs.length<=100000):∀(f:Nat)(l:Ls),Inv l->0<=l.pos->(l.jB.length:Int)<=l.pos->l.pos<=bs.length->bs.length-l.pos<f->(uX bs f l).bad=false->IB (uX bs f l)
 |0,l,_,_,_,h2,h3,_=>by omega
 |f+1,l,h,h0,h1,h2,h3,hb=>by
  have hn:¬(l.jH=[]\/l.bad=true):=λe=>e.elim h.jH.1 (λe=>by rw[h.bad]at e;cases e);cases hr:xH bs l with
  |none=>
   simp only[uX,jg hn,hr]at hb;cases hb
  |some q=>
   obtain⟨s,l'⟩:=q;rw[adb bs f l l' s h hr]at hb⊢;obtain⟨g1,g2,g3,g4,g5,g6⟩:=NC hr h0 h.jD;have hi:Inv l':=by rw[g6];exact h.read g4 g5
   have hs:l'.jB=l.jB:=by rw[g6]
   obtain⟨k1,k2⟩:=acn l' s;have hbad:(lH l' s).bad=false:=by
    cases hbb:(lH l' s).bad with
    |false=>rfl
    |true=>rw[ac8 bs f _ hbb,hbb]at hb;cases hb
   rcases acv hi s g1 (by rw[hs];omega) hbad with hv|hv
   .exact ada bs hbs f _ hv (by rw[k2];omega) (by rw[k2];rw[hs]at k1;omega) (by rw[k2];exact g3) (by rw[k2];omega) hb
   .rw[ac9 bs f _ hv.jH];exact hv
theorem acu:Inv tY:=by
 refine⟨⟨rfl,rfl,0,rfl,pU.nil _ _⟩,rfl,by simp[tY],λk s hk=>by simp[tY]at hk,λb hb=>?_,⟨by simp[tY],by simp[tY]⟩,rfl⟩;simp only[tY,cO]at hb;subst hb;exact⟨by simp,by simp,by simp,by simp⟩
theorem Qc(bs:List UInt8)(hbs:bs.length<=100000)(hb:(mG bs).bad=false):IB (mG bs):=
 ada bs hbs _ _ acu (by simp[tY]) (by simp[tY]) (by simp[tY]) (by simp only[tY];omega) hb
theorem am1(bs:List UInt8)(hbs:bs.length<=100000)(hb:(mG bs).bad=false)(v:Vw)(hv:v.small)(jF:List Int)(m:Mc)(hm:wZ m)(f:Nat):
 (runs v (mG bs).jB jF (mG bs).jC.toNat 0 m).status≠2/\
 ((runs v (mG bs).jB jF f 0 m).status=2->f<(mG bs).jC.toNat)/\
 ((runs v (mG bs).jB jF f 0 m).status≠2->runs v (mG bs).jB jF f 0 m=runs v (mG bs).jB jF (mG bs).jC.toNat 0 m):=by
 have hf:=Qc bs hbs hb;have hpos:=hf.sound.fits.pos;have hne:=hf.jC;have key:∀g,(mG bs).jC.toNat<=g->(runs v (mG bs).jB jF g 0 m).status≠2:=λg hg=>by
  refine afz hf.sound hv g 0 m (aV _) (by omega) hm ?_;show jw (mG bs).jB 0+yQ (mG bs).jB m.left []<=g;simp only[yQ];omega
 refine⟨key _ (aj _),λh=>?_,λh=>?_⟩
 .rcases dG f (mG bs).jC.toNat with h'|h'
  .exact h'
  .exact jl h (key f h')
 .rcases gX f (mG bs).jC.toNat with h'|h'
  .exact(QM _ _ _ _ h' h).symm
  .exact QM _ _ _ _ h' (key _ (aj _))
end Hx
section
abbrev aK:=@Go.heap_setCell_same
abbrev dI:=@Go.World.size_setCell
end
section
open Go.RowKit
open Hx (St Bk Ls jJ)
attribute [local go_sem ↓] Go.wp_at_zero Go.wp_at_succ
attribute [local go_sem] kP
section
variable {B:Nat}{w:jk}{L:Nat}{s:ji}{l:Ls}{vs vb vl:jm}
theorem jS.aeX(h:jS B w L s l vs vb vl)(x:Int):jS B (w.setCell (Ad L 1) (Im x)) L s {l with pos:=x} vs vb vl:=by
 have hc:∀j,j≠1->(w.setCell (Ad L 1) (Im x)).cell? (Ad L j)=w.cell? (Ad L j):=λj hj=>bG _ _ _ _ (by intro e;cases e;exact hj rfl);exact h.put 1 _ _ vs vb vl (dB _ _ _ h.c1) (by rw[hc 2 (by omega)];exact h.c2) (by rw[hc 3 (by omega)];exact h.c3) (by rw[hc 4 (by omega)];exact h.c4) (by rw[hc 5 (by omega)];exact h.c5) (by rw[hc 6 (by omega)];exact h.c6) (by rw[hc 7 (by omega)];exact h.c7) (by omega) h.jB h.jH h.jV h.ns h.nb h.nl h.sb h.sl h.bl
def DK(c n:Int):Bool:=if c=115 then decide (0<=n/\n<2008)else if c=108 then decide (0<=n/\n<3)else true
def yI(c n sl:Int):Int:=if c=115/\0<=n/\n<2008 then max sl (n+1)else sl
theorem atj(h:jS B w L s l vs vb vl)(c n:Int):
 Calls prog 167 #[Pt L 0,.int .i32 c,Im n] w λe w'=>e=.returned (.bool (DK c n))/\jS B w' L s {l with jD:=yI c n l.jD} vs vb vl/\jT L w vs vb vl w' vs vb vl:=by
 by_cases h1:c=115
 .subst h1;by_cases h2:0<=n/\n<2008
  .refine(ato h n h2.1 h2.2).mono ?_;rintro e w' ⟨rfl,g1,g2⟩;refine⟨by simp[DK,h2],?_,g2⟩;rw[show yI 115 n l.jD=max l.jD (n+1) by simp[yI,h2]];exact g1
  .refine(atm h n (by omega)).mono ?_;rintro e w' ⟨rfl,rfl⟩;refine⟨by simp[DK,h2],?_,jT.refl _ _ _ _ _⟩;rw[show yI 115 n l.jD=l.jD by simp[yI];omega];exact h
 .have hsl:yI c n l.jD=l.jD:=by simp[yI,h1]
  by_cases h2:c=108
  .subst h2;refine(atn n w L).mono ?_;rintro e w' ⟨rfl,rfl⟩;rw[hsl];exact⟨by simp[DK],h,jT.refl _ _ _ _ _⟩
  .refine(atl c n w L (by simpa using h1) (by simpa using h2)).mono ?_;rintro e w' ⟨rfl,rfl⟩;rw[hsl];exact⟨by simp[DK,h1,h2],h,jT.refl _ _ _ _ _⟩
theorem jS.pF(h:jS B w L s l vs vb vl){w':jk}{g:Nat}(hg:w.grownBy w' (some g))(hL:L≠g)(h1:vs.ownBlock≠some g)(h2:vb.ownBlock≠some g)(h3:vl.ownBlock≠some g):jS B w' L s l vs vb vl:=by
 have hb:w'.heap[L]? =w.heap[L]? :=hg.block L h.lt (by simpa using hL);have hc:∀j,w'.cell? (Ad L j)=w.cell? (Ad L j):=λj=>bQ hb;have hf:∀j,w'.frozen? (Ad L j)=w.frozen? (Ad L j):=λj=>dZ hb;exact⟨h.bL,by rw[hc];exact h.c0,by rw[hc];exact h.c1,by rw[hc];exact h.c2,by rw[hc];exact h.c3,by rw[hc];exact h.c4,by rw[hc];exact h.c5,by rw[hc];exact h.c6,by rw[hc];exact h.c7,
  λj=>by rw[hf];exact h.fr j,h.jB.kept hg (je h1),h.jH.kept hg (je h2),h.jV.kept hg (je h3),h.ns,h.nb,h.nl,h.sb,h.sl,h.bl⟩
theorem jT.pF{w0:jk}{YN vb0 vl0:jm}(h:jT L w0 YN vb0 vl0 w vs vb vl){w':jk}{g:Nat}(hg:w.grownBy w' (some g))(hn:w0.heap.size<=g):jT L w0 YN vb0 vl0 w' vs vb vl:=
 ⟨hg.os.trans h.os,hg.tape.trans h.tape,hg.output.trans h.output,dH h.size hg.size,
   λk hk h1 h2 h3 h4=>by rw[hg.block k (Nat.lt_of_lt_of_le hk h.size) (by intro e;cases e;omega)];exact h.block k hk h1 h2 h3 h4,h.fs,h.fb,h.fl⟩
theorem nK(w:jk)(g o:Nat)(u:jm):w.grownBy (w.setCell (Ad g o) u) (some g):=
 ⟨rfl,rfl,rfl,by simp,λk _ hne=>bC _ _ _ _ (by intro e;subst e;exact hne rfl)⟩
theorem akO(w:jk)(g:Nat)(u:ji)(k:Nat):w.grownBy (w.iterAt g u k) (some g):=
 ⟨rfl,rfl,rfl,by rw[Lib.iterAt_size];exact aj _,λj _ hne=>Lib.iterAt_other _ _ _ _ _ (by intro e;subst e;exact hne rfl)⟩
def vK(q:Int)(ns:List Int):Array jm:=#[.int .u8 q,Im (ns.getD 0 0),Im (ns.getD 1 0),Im (ns.getD 2 0),Im (ns.getD 3 0),Im 0,Im 0]
theorem ajs(q:Int)(ns:List Int)(n:Int)(h:ns.length<4):(vK q ns).setIfInBounds (1+ns.length) (Im n)=vK q (ns++[n]):=by
 match ns,h with
 |[],_=>rfl
 |[a],_=>rfl
 |[a,b],_=>rfl
 |[a,b,c],_=>rfl
theorem asC(o:Int):(Hx.shape o).length<=4/\∀c∈Hx.shape o,c.toNat<128:=by
 unfold Hx.shape;repeat' split
 all_goals exact⟨by decide,by decide⟩
structure uQ(B:Nat)(w:jk)(L:Nat)(s:ji)(l:Ls)(vs vb vl:jm)(cs:List UInt8)(q:Int)(wr:jk)(k p:Nat)(sl:Int)(ns:List Int):Prop where
 load:jS B wr L s {l with pos:=p,jD:=sl} vs vb vl
 Nk:jT L w vs vb vl wr vs vb vl
 iter:wr.heap[w.heap.size+1+1]? =some (.stringIter ⟨cs.toArray⟩ k)
 box:wr.heap[w.heap.size+1]? =some (.cells (vK q ns) 125)
 out:wr.heap[w.heap.size]? =some (.cells (vK 0 []) 125)
 lt:L<w.heap.size
 own:∀g,w.heap.size<=g->vs.ownBlock≠some g/\vb.ownBlock≠some g/\vl.ownBlock≠some g
structure ZA(B:Nat)(w:jk)(L:Nat)(s:ji)(l:Ls)(vs vb vl:jm)(cs:List UInt8)(q:Int)(R:Option (List Int×Nat×Int))(wr:jk)(k p:Nat)(sl:Int)(ns:List Int):Prop where
 mid:uQ B w L s l vs vb vl cs q wr k p sl ns
 len:ns.length=k
 kl:k<=cs.length
 ps:p<=s.size
 eq:R=(wP s.data.toList (cs.drop k) p sl).map λr=>(ns++r.1,r.2)
theorem jI{g j:Nat}{a:Array jm}{T:jo}(h:w.heap[g]? =some (.cells a T)):w.cell? (Ad g j)=a[j]? :=by simp[World.cell?,h]
theorem oQ{g j:Nat}{a:Array jm}{T:jo}(h:w.heap[g]? =some (.cells a T)):w.frozen? (Ad g j)=false:=by simp[World.frozen?,h]
theorem jK{g:Nat}{a:Array jm}{T:jo}{v:jm}(j:Nat)(h:w.heap[g]? =some (.cells a T))(hv:a[j]? =some v):w.cell? (Ad g j)=some v:=(jI h).trans hv
theorem qV{g:Nat}{a:Array jm}{T:jo}(h:w.heap[g]? =some (.cells a T)):∀j,w.frozen? (Ad g j)=false:=λ_=>oQ h
theorem WZ(w:jk)(o1 o2 o3:Obj)(k:Nat):((((w.alloc o1).drewN k).alloc o2).alloc o3).heap[w.heap.size]? =some o1/\((((w.alloc o1).drewN k).alloc o2).alloc o3).heap[w.heap.size+1]? =some o2/\((((w.alloc o1).drewN k).alloc o2).alloc o3).heap[w.heap.size+1+1]? =some o3:=by
 have e:((((w.alloc o1).drewN k).alloc o2).alloc o3).heap=((w.heap.push o1).push o2).push o3:=rfl;rw[e];refine⟨?_,?_,?_⟩
 .rw[eH,jg (by simp;omega),eH,jg (by simp),eH,jh rfl]
 .rw[eH,jg (by simp),eH,jh (by simp)]
 .rw[eH,jh (by simp)]
section
variable {wr:jk}{cs:List UInt8}{q:Int}{k p:Nat}{sl:Int}{ns:List Int}
theorem lY{g:Nat}{o:Obj}(h:w.heap[g]? =some o):g<w.heap.size:=by
 rcases dG g w.heap.size with h'|h'
 .exact h'
 .rw[Array.getElem?_eq_none h']at h;cases h
theorem uQ.next(h:uQ B w L s l vs vb vl cs q wr k p sl ns):uQ B w L s l vs vb vl cs q (wr.iterAt (w.heap.size+1+1) ⟨cs.toArray⟩ (k+1)) (k+1) p sl ns:=by
 obtain⟨o1,o2,o3⟩:=h.own (w.heap.size+1+1) (by omega);have hg:=akO wr (w.heap.size+1+1) ⟨cs.toArray⟩ (k+1);have hL:=h.lt;refine⟨h.load.pF hg (by omega) o1 o2 o3,h.Nk.pF hg (by omega),Lib.iterAt_heap _ _ _ _ _ h.iter,?_,?_,h.lt,h.own⟩
 .rw[Lib.iterAt_other _ _ _ _ _ (by omega)];exact h.box
 .rw[Lib.iterAt_other _ _ _ _ _ (by omega)];exact h.out
theorem uQ.drewN(h:uQ B w L s l vs vb vl cs q wr k p sl ns)(n:Nat):uQ B w L s l vs vb vl cs q (wr.drewN n) k p sl ns:=
 ⟨h.load.drewN n,h.Nk.trans (jT.grow L _ _ _ _ (lK _ n)),h.iter,h.box,h.out,h.lt,h.own⟩
theorem uQ.atq(h:uQ B w L s l vs vb vl cs q wr k p sl ns){w2:jk}{sl':Int}(hl:jS B w2 L s {l with pos:=p,jD:=sl'} vs vb vl)(hm:jT L wr vs vb vl w2 vs vb vl):uQ B w L s l vs vb vl cs q w2 k p sl' ns:=by
 have hL:=h.lt;have key:∀g o,w.heap.size<=g->wr.heap[g]? =some o->w2.heap[g]? =some o:=λg o hg ho=>by
  obtain⟨o1,o2,o3⟩:=h.own g hg;rw[hm.block g (lY ho) (by omega) (λe=>o1 e.symm) (λe=>o2 e.symm) (λe=>o3 e.symm)];exact ho
 exact⟨hl,h.Nk.trans hm,key _ _ (by omega) h.iter,key _ _ (by omega) h.box,key _ _ (by omega) h.out,h.lt,h.own⟩
theorem uQ.store(h:uQ B w L s l vs vb vl cs q wr k p sl ns)(n:Int)(hn:ns.length<4)(p':Nat):uQ B w L s l vs vb vl cs q ((wr.setCell (Ad (w.heap.size+1) (1+ns.length)) (Im n)).setCell (Ad L 1) (Im p')) k p' sl (ns++[n]):=by
 obtain⟨o1,o2,o3⟩:=h.own (w.heap.size+1) (by omega);have hg:=nK wr (w.heap.size+1) (1+ns.length) (Im n);have hL:=h.lt;have h1:=h.load.pF hg (by omega) o1 o2 o3;have h2:=h1.aeX (p':Int);refine⟨h2,(h.Nk.pF hg (by omega)).trans (jT.own L _ _ _ _ 1 _),?_,?_,?_,h.lt,h.own⟩
 .rw[bC _ _ _ _ (by show _≠L;omega),bC _ _ _ _ (by show _≠w.heap.size+1;omega)];exact h.iter
 .rw[bC _ _ _ _ (by show _≠L;omega),aK _ _ _ _ _ _ h.box,ajs _ _ _ hn]
 .rw[bC _ _ _ _ (by show _≠L;omega),bC _ _ _ _ (by show _≠w.heap.size+1;omega)];exact h.out
def E8(B:Nat)(w:jk)(L:Nat)(s:ji)(l:Ls)(vs vb vl:jm)(x:jk):Prop:=
 jS B x L s l vs vb vl/\jT L w vs vb vl x vs vb vl/\L<w.heap.size/\∀g,w.heap.size<=g->vs.ownBlock≠some g/\vb.ownBlock≠some g/\vl.ownBlock≠some g
theorem uQ.VJ(h:uQ B w L s l vs vb vl cs q wr k p sl ns):E8 B w L s {l with pos:=p,jD:=sl} vs vb vl wr:=⟨h.load,h.Nk,h.lt,h.own⟩
theorem E8.set{x:jk}(h:E8 B w L s l vs vb vl x)(j:Nat)(a:jm):E8 B w L s l vs vb vl (x.setCell (Ad w.heap.size j) a):=by
 obtain⟨h1,h2,h3,h4⟩:=h;obtain⟨o1,o2,o3⟩:=h4 w.heap.size (aj _);exact⟨h1.pF (nK _ _ _ _) (by omega) o1 o2 o3,h2.pF (nK _ _ _ _) (aj _),h3,h4⟩
theorem E8.drewN{x:jk}(h:E8 B w L s l vs vb vl x)(k:Nat):E8 B w L s l vs vb vl (x.drewN k):=
 ⟨h.1.drewN k,h.2.1.trans (jT.grow L _ _ _ _ (lK _ k)),h.2.2⟩
theorem aqv(bs:List UInt8)(c:UInt8)(cs':List UInt8)(p:Nat)(sl:Int)(ns:List Int):((wP bs (c::cs') p sl).map λr=>(ns++r.1,r.2))=
 if (Hx.read bs p).2=0 then none else if DK c.toNat (Hx.read bs p).1=false then none
 else (wP bs cs' (p+(Hx.read bs p).2.toNat) (yI c.toNat (Hx.read bs p).1 sl)).map λr=>(ns++[(Hx.read bs p).1]++r.1,r.2):=by
 have e1:c=115↔(c.toNat:Int)=115:=⟨λe=>by rw[e];rfl,λe=>by
  have:c.toNat=115:=by omega
  exact UInt8.toNat_inj.1 this⟩
 have e2:c=108↔(c.toNat:Int)=108:=⟨λe=>by rw[e];rfl,λe=>by
  have:c.toNat=108:=by omega
  exact UInt8.toNat_inj.1 this⟩
 simp only[wP,DK,yI,e1,e2];generalize (Hx.read bs p).1=n;generalize (Hx.read bs p).2=z;generalize (c.toNat:Int)=x;by_cases hz:z=0
 .simp[hz]
 simp only[jg hz];by_cases h1:x=115
 .by_cases h2:0<=n/\n<2008
  .have h3:¬(n<0\/2008<=n):=by omega
   simp[h1,h2,h3,Option.map_map,Function.comp_def]
  .have h3:n<0\/2008<=n:=by omega
   simp[h1,h2,h3]
 .by_cases h2:x=108
  .by_cases h3:0<=n/\n<3
   .simp[h2,h3,Option.map_map,Function.comp_def]
   .simp[h2,h3]
  .simp[h1,h2,Option.map_map,Function.comp_def]
end
theorem afG(w:jk)(g:Nat)(T:jo)(a0 a1 a2 a3 a4 a5 a6 v0 v1 v2 v3 v4 v5 v6:jm)(h:w.heap[g]? =some (.cells #[a0,a1,a2,a3,a4,a5,a6] T)):
 (((((((w.setCell (Ad g 0) v0).setCell (Ad g 1) v1).setCell (Ad g 2) v2).setCell (Ad g 3) v3).setCell (Ad g 4) v4).setCell (Ad g 5) v5).setCell (Ad g 6) v6).heap[g]? =some (.cells #[v0,v1,v2,v3,v4,v5,v6] T):=by
 have h0:(w.setCell (Ad g 0) v0).heap[g]? =some (.cells #[v0,a1,a2,a3,a4,a5,a6] T):=aK _ _ _ _ _ _ h;have h1:((w.setCell (Ad g 0) v0).setCell (Ad g 1) v1).heap[g]? =some (.cells #[v0,v1,a2,a3,a4,a5,a6] T):=aK _ _ _ _ _ _ h0;have h2:(((w.setCell (Ad g 0) v0).setCell (Ad g 1) v1).setCell (Ad g 2) v2).heap[g]? =some (.cells #[v0,v1,v2,a3,a4,a5,a6] T):=aK _ _ _ _ _ _ h1;have h3:((((w.setCell (Ad g 0) v0).setCell (Ad g 1) v1).setCell (Ad g 2) v2).setCell (Ad g 3) v3).heap[g]? =some (.cells #[v0,v1,v2,v3,a4,a5,a6] T):=aK _ _ _ _ _ _ h2;have h4:(((((w.setCell (Ad g 0) v0).setCell (Ad g 1) v1).setCell (Ad g 2) v2).setCell (Ad g 3) v3).setCell (Ad g 4) v4).heap[g]? =some (.cells #[v0,v1,v2,v3,v4,a5,a6] T):=aK _ _ _ _ _ _ h3;have h5:((((((w.setCell (Ad g 0) v0).setCell (Ad g 1) v1).setCell (Ad g 2) v2).setCell (Ad g 3) v3).setCell (Ad g 4) v4).setCell (Ad g 5) v5).heap[g]? =some (.cells #[v0,v1,v2,v3,v4,v5,a6] T):=aK _ _ _ _ _ _ h4;have h6:(((((((w.setCell (Ad g 0) v0).setCell (Ad g 1) v1).setCell (Ad g 2) v2).setCell (Ad g 3) v3).setCell (Ad g 4) v4).setCell (Ad g 5) v5).setCell (Ad g 6) v6).heap[g]? =some (.cells #[v0,v1,v2,v3,v4,v5,v6] T):=aK _ _ _ _ _ _ h5;exact h6
theorem ael(x:jk)(g:Nat)(T:jo)(h:x.heap[g]? =some (.cells (vK 0 []) T)):(((((((x.setCell (Ad g 0) (.int .u8 0)).setCell (Ad g 1) (Im 0)).setCell (Ad g 2) (Im 0)).setCell (Ad g 3) (Im 0)).setCell (Ad g 4) (Im 0)).setCell (Ad g 5) (Im 0)).setCell (Ad g 6) (Im 0)).heap[g]? =some (.cells (vK 0 []) T):=afG x g T _ _ _ _ _ _ _ _ _ _ _ _ _ _ h
theorem apb(x:jk)(g:Nat)(T:jo)(k:Nat)(h:x.heap[g]? =some (.cells (vK 0 []) T)):((((((((x.setCell (Ad g 0) (.int .u8 0)).setCell (Ad g 1) (Im 0)).setCell (Ad g 2) (Im 0)).setCell (Ad g 3) (Im 0)).setCell (Ad g 4) (Im 0)).setCell (Ad g 5) (Im 0)).setCell (Ad g 6) (Im 0)).drewN k).heap[g]? =some (.cells (vK 0 []) T):=by
 rw[show∀y:jk,(y.drewN k).heap=y.heap fromλ_=>rfl];exact ael x g T h
theorem ao7(x:jk)(g:Nat)(T:jo)(q:Int)(ns:List Int)(h:x.heap[g]? =some (.cells (vK 0 []) T)):(((((((x.setCell (Ad g 0) (.int .u8 q)).setCell (Ad g 1) (Im (ns.getD 0 0))).setCell (Ad g 2) (Im (ns.getD 1 0))).setCell (Ad g 3) (Im (ns.getD 2 0))).setCell (Ad g 4) (Im (ns.getD 3 0))).setCell (Ad g 5) (Im 0)).setCell (Ad g 6) (Im 0)).heap[g]? =some (.cells (vK q ns) T):=afG x g T _ _ _ _ _ _ _ _ _ _ _ _ _ _ h
theorem VY(tmps:Array jm)(w:jk)(g:Nat)(q:Int)(ns:List Int)(b:Bool)(h2:tmps[2]? =some (Pt g 0))(h3:tmps[3]? =some (.bool b))(h:w.heap[g]? =some (.cells (vK q ns) 125)):
 (results Tryz.f112 tmps).run prog w=.ok (.tuple #[.agg (vK q ns),.bool b]) w:=by
 have q0:w.cell? (Ad g 0)=some (.int .u8 q):=jI h;have q1:w.cell? (Ad g 1)=some (Im (ns.getD 0 0)):=jI h;have q2:w.cell? (Ad g 2)=some (Im (ns.getD 1 0)):=jI h;have q3:w.cell? (Ad g 3)=some (Im (ns.getD 2 0)):=jI h;have q4:w.cell? (Ad g 4)=some (Im (ns.getD 3 0)):=jI h;have q5:w.cell? (Ad g 5)=some (Im 0):=jI h;have q6:w.cell? (Ad g 6)=some (Im 0):=jI h;simp[results,Tryz.results112,go_sem,h2,h3,q0,q1,q2,q3,q4,q5,q6,vK]
def KU(B:Nat)(w:jk)(L:Nat)(s:ji)(l:Ls)(vs vb vl:jm)(q:Int)(ok:Bool)(R:Option (List Int×Nat×Int))(e:Ending)(w':jk):Prop:=
 ∃l',jS B w' L s l' vs vb vl/\jT L w vs vb vl w' vs vb vl/\
    ((∃ns p' sl',R=some (ns,p',sl')/\l'={l with pos:=p',jD:=sl'}/\e=.returned (.tuple #[.agg (vK q ns),.bool ok]))\/
     (R=none/\(∃x y,l'={l with pos:=x,jD:=y})/\e=.returned (.tuple #[.agg (vK 0 []),.bool false])))
theorem KU.none{q:Int}{ok:Bool}{R:Option (List Int×Nat×Int)}{p:Nat}{sl:Int}{x:jk}(h:E8 B w L s {l with pos:=p,jD:=sl} vs vb vl x)(hR:R=none):KU B w L s l vs vb vl q ok R (.returned (.tuple #[.agg (vK 0 []),.bool false])) x:=
 ⟨_,h.1,h.2.1,je ⟨hR,⟨_,_,rfl⟩,rfl⟩⟩
theorem aqz(h:jS B w L s l vs vb vl)(p:Nat)(hp:l.pos=p)(hlt:p<s.size)(hs:s.size<=100000)(R:Option (List Int×Nat×Int))(HR:Hid (wP s.data.toList (Hx.shape s[p].toNat) (p+1) l.jD=R)):
 Calls prog 112 #[Pt L 0] w (KU B w L s l vs vb vl s[p].toNat (Hx.Ew s[p].toNat) R):=by
 have c0:=h.c0;have c1:=h.c1;have f1:=h.fr 1;have hL:=h.lt;rw[hp]at c1;have n1:¬L=w.heap.size:=by omega
 have n2:¬L=w.heap.size+1:=by omega
 have d1:((p:Int)==(s.size:Int))=false:=by simp;omega
 have i0:(0:Int)<=(p:Int):=by omega
 have i1:(p:Int)<(s.size:Int):=by omega
 have hsm:=asC s[p].toNat;have HS:Hid (∀w,Calls prog 165 #[.int .u8 s[p].toNat] w λe w'=>e=.returned (.tuple #[.string ⟨(Hx.shape s[p].toNat).toArray⟩,.bool (Hx.Ew s[p].toNat)])/\w'=w):=λw=>asB _ w (by omega);generalize Hx.Ew s[p].toNat=ok at *;generalize Hx.shape s[p].toNat=cs at *;have HA:Hid (∀k,ZA B w L s l vs vb vl cs s[p].toNat R (((((w.setCell (Ad L 1) (Im ((p:Int)+1))).alloc (.cells #[.int .u8 0,Im 0,Im 0,Im 0,Im 0,Im 0,Im 0] 125)).drewN k).alloc (.cells #[.int .u8 s[p].toNat,Im 0,Im 0,Im 0,Im 0,Im 0,Im 0] 125)).iter ⟨cs.toArray⟩ 0) 0 (p+1) l.jD []):=λk=>by
  have e1:((p:Int)+1)=((p+1:Nat):Int):=by omega
  refine⟨⟨?_,?_,?_,?_,?_,hL,λg hg=>⟨λe=>?_,λe=>?_,λe=>?_⟩⟩,rfl,bD _,by omega,?_⟩
  .rw[e1];exact((((h.aeX ((p+1:Nat):Int)).alloc _).drewN k).alloc _).alloc _
  .exact(jT.own L w vs vb vl 1 _).trans ((jT.grow L _ _ _ _ (ah _ _ none)).trans ((jT.grow L _ _ _ _ (lK _ k)).trans ((jT.grow L _ _ _ _ (ah _ _ none)).trans (jT.grow L _ _ _ _ (ah _ _ none)))))
  .have:=(WZ (w.setCell (Ad L 1) (Im ((p:Int)+1))) (.cells #[.int .u8 0,Im 0,Im 0,Im 0,Im 0,Im 0,Im 0] 125) (.cells #[.int .u8 s[p].toNat,Im 0,Im 0,Im 0,Im 0,Im 0,Im 0] 125) (.stringIter ⟨cs.toArray⟩ 0) k).2.2
   rwa [dI]at this
  .have:=(WZ (w.setCell (Ad L 1) (Im ((p:Int)+1))) (.cells #[.int .u8 0,Im 0,Im 0,Im 0,Im 0,Im 0,Im 0] 125) (.cells #[.int .u8 s[p].toNat,Im 0,Im 0,Im 0,Im 0,Im 0,Im 0] 125) (.stringIter ⟨cs.toArray⟩ 0) k).2.1
   rwa [dI]at this
  .have:=(WZ (w.setCell (Ad L 1) (Im ((p:Int)+1))) (.cells #[.int .u8 0,Im 0,Im 0,Im 0,Im 0,Im 0,Im 0] 125) (.cells #[.int .u8 s[p].toNat,Im 0,Im 0,Im 0,Im 0,Im 0,Im 0] 125) (.stringIter ⟨cs.toArray⟩ 0) k).1
   rwa [dI]at this
  .have:=(h.jB.lt g e).2;omega
  .have:=(h.jH.lt g e).2;omega
  .have:=(h.jV.lt g e).2;omega
  .rw[<-HR.out,aQ];cases wP s.data.toList cs (p+1) l.jD with
   |none=>rfl
   |some r=>rfl
 clear h;go_enter func112,ntmps112;go_wp2_with fail;refine nP 9 (by kernel_rfl) (by kernel_rfl) ?_;simp only[aC,aO,aG,aQ];repeat (go_big_quiet_step (fail))
 refine bF ?_;intro _ hw';obtain⟨k1,hw''⟩:=hw';subst hw'';go_upto_region 3 with fail;go_cut [4] (λx wx=>x=Pt (w.heap.size+1) 0/\wx=((w.alloc (.cells #[.int .u8 0,Im 0,Im 0,Im 0,Im 0,Im 0,Im 0] 125)).drewN (k1+1)).alloc (.cells #[.int .u8 s[p].toNat,Im 0,Im 0,Im 0,Im 0,Im 0,Im 0] 125))
 case first=>
  go_region_held3 (λw'=>w'.cell? (Ad L 0)=some (.string s)/\w'.cell? (Ad L 1)=some (Im p)) (go_keep) (fail);all_goals (go_wp2_with fail;go_meet;exact⟨rfl,rfl⟩)
 case rest=>
  obtain⟨rfl,rfl⟩:=hcut;go_wp2_with (go_at_call 165;refine(HS.out _).mono ?_;rintro e w1 ⟨rfl,rfl⟩);clear HS HR;go_loopw [7,8,9,10] (λ_ _ _ _ wr=>∃(k pp:Nat)(sl:Int)(ns:List Int),ZA B w L s l vs vb vl cs s[p].toNat R wr k pp sl ns) (λ_ _ _ _ wr=>cs.length-wr.iterPos (w.heap.size+1+1))
  case atStart=>exact⟨0,p+1,l.jD,[],HA.out _⟩
  case round=>
   obtain⟨k,pp,sl,ns,hr⟩:=hrel;clear HA;by_cases hk:k<cs.length
   .have hkc:cs.drop k=cs[k]::cs.drop (k+1):=dA hk;have hk':k<(⟨cs.toArray⟩:ji).size:=by simpa [ByteArray.size]using hk
    have hget:(⟨cs.toArray⟩:ji)[k]'hk'=cs[k]:=rfl;have hnext:∀ty,(Instr.next (Pt (w.heap.size+1+1) 0) true ty).run prog wr=.ok (.tuple #[.bool true,Im k,.int .i32 (cs[k].toNat)]) (wr.iterAt (w.heap.size+1+1) ⟨cs.toArray⟩ (k+1)):=λty=>by
     have:=Lib.run_next_ascii_at (P:=prog) wr (w.heap.size+1+1) ⟨cs.toArray⟩ k ty hr.mid.iter hk' (by rw[hget];exact hsm.2 _ (fG hk));rw[this,hget]
    have hmu:wr.iterPos (w.heap.size+1+1)=k:=by simp[World.iterPos,hr.mid.iter]
    have hmid:=hr.mid.next;have heq:=hr.eq;rw[hkc,aqv]at heq;have hlen:=hr.len;have hps:=hr.ps;clear hr;generalize cs[k]=c at *;generalize wr.iterAt (w.heap.size+1+1) ⟨cs.toArray⟩ (k+1)=W1 at *;obtain⟨b0,b1,b2⟩:=Hx.acf s.data.toList pp (by simpa using hps);have Gy:Hid (∀w,Calls prog 166 #[.string s,Im pp] w λe w'=>e=.returned (.tuple #[Im (Hx.read s.data.toList pp).1,Im (Hx.read s.data.toList pp).2])/\w'=w):=λw=>aqw s pp w hs hps;generalize (Hx.read s.data.toList pp).1=n at *;generalize (Hx.read s.data.toList pp).2=z at *;obtain⟨z,rfl⟩:=bI b1;have m0:=hmid.load.c0;have m1:=hmid.load.c1;simp only at m1;have r0:W1.cell? (Ad w.heap.size 0)=some (.int .u8 0):=jI hmid.out;have r1:W1.cell? (Ad w.heap.size 1)=some (Im 0):=jI hmid.out;have r2:W1.cell? (Ad w.heap.size 2)=some (Im 0):=jI hmid.out;have r3:W1.cell? (Ad w.heap.size 3)=some (Im 0):=jI hmid.out;have r4:W1.cell? (Ad w.heap.size 4)=some (Im 0):=jI hmid.out;have r5:W1.cell? (Ad w.heap.size 5)=some (Im 0):=jI hmid.out;have r6:W1.cell? (Ad w.heap.size 6)=some (Im 0):=jI hmid.out;have rf:∀j,W1.frozen? (Ad w.heap.size j)=false:=λj=>oQ hmid.out;have HM:Hid (uQ B w L s l vs vb vl cs s[p].toNat W1 (k+1) pp sl ns):=hmid;have HE:Hid (R=if ((z:Nat):Int)=0 then none else if DK c.toNat n=false then none else (wP s.data.toList (cs.drop (k+1)) (pp+((z:Nat):Int).toNat) (yI c.toNat n sl)).map λr=>(ns++[n]++r.1,r.2)):=heq;clear hmid heq;by_cases hz:z=0
    .subst hz;go_wp2_with fail;refine nP 13 (by kernel_rfl) (by kernel_rfl) ?_;simp only[aC,aO,aG,aQ];repeat (go_big_quiet_step ((go_at_call 166;exact dN (Gy.out _))))
     refine bF ?_;intro _ hw';obtain⟨k3,hw''⟩:=hw';subst hw'';go_wp2_with fail;have hno:R=none:=by rw[HE.out];simp
     refine cu (VY _ _ w.heap.size 0 [] false rfl rfl (apb W1 w.heap.size 125 k3 HM.out.out)) rfl ?_;exact KU.none ((((((((HM.out.VJ.set _ _).set _ _).set _ _).set _ _).set _ _).set _ _).set _ _).drewN _) hno
    .have dz:(((z:Nat):Int)==0)=false:=by simp;omega
     have HT:Hid (∀kk,Calls prog 167 #[Pt L 0,.int .i32 c.toNat,Im n] (W1.drewN kk) λe w'=>e=.returned (.bool (DK c.toNat n))/\uQ B w L s l vs vb vl cs s[p].toNat w' (k+1) pp (yI c.toNat n sl) ns):=λkk=>by
      refine(atj (HM.out.drewN kk).load c.toNat n).mono ?_;rintro e w' ⟨h1,h2,h3⟩;exact⟨h1,(HM.out.drewN kk).atq h2 h3⟩
     clear r0 r1 r2 r3 r4 r5 r6 rf HM;rw[jg (by omega)]at HE;cases hok:DK c.toNat n with
     |false=>
      have hno:R=none:=by rw[HE.out,hok];rfl
      rw[hok]at HT;clear HE;go_wp2_with fail;refine nP 13 (by kernel_rfl) (by kernel_rfl) ?_;simp only[aC,aO,aG,aQ];repeat (go_big_quiet_step ((go_at_call 166;exact dN (Gy.out _))))
      refine bF ?_;intro _ hw';obtain⟨k3,hw''⟩:=hw';subst hw'';go_wp2_with fail;refine(HT.out _).mono ?_;rintro e w2 ⟨rfl,hm2⟩;have r0:w2.cell? (Ad w.heap.size 0)=some (.int .u8 0):=jI hm2.out;have r1:w2.cell? (Ad w.heap.size 1)=some (Im 0):=jI hm2.out;have r2:w2.cell? (Ad w.heap.size 2)=some (Im 0):=jI hm2.out;have r3:w2.cell? (Ad w.heap.size 3)=some (Im 0):=jI hm2.out;have r4:w2.cell? (Ad w.heap.size 4)=some (Im 0):=jI hm2.out;have r5:w2.cell? (Ad w.heap.size 5)=some (Im 0):=jI hm2.out;have r6:w2.cell? (Ad w.heap.size 6)=some (Im 0):=jI hm2.out;have rf:∀j,w2.frozen? (Ad w.heap.size j)=false:=λj=>oQ hm2.out;have HM:Hid (uQ B w L s l vs vb vl cs s[p].toNat w2 (k+1) pp (yI c.toNat n sl) ns):=hm2;clear hm2;go_wp2_with fail;refine cu (VY _ _ w.heap.size 0 [] false rfl rfl (ael w2 w.heap.size 125 HM.out.out)) rfl ?_;exact KU.none (((((((HM.out.VJ.set _ _).set _ _).set _ _).set _ _).set _ _).set _ _).set _ _) hno
     |true=>
      have HE2:Hid (R=(wP s.data.toList (cs.drop (k+1)) (pp+z) (yI c.toNat n sl)).map λr=>(ns++[n]++r.1,r.2)):=by
       show _=_;rw[HE.out,hok];simp
      rw[hok]at HT;clear HE;have i4:(k:Int)<4:=by omega
      have i5:(0:Int)<=(k:Int):=by omega
      obtain⟨y,hy⟩:∃y:Nat,pp+z=y:=⟨_,rfl⟩;have hyI:(pp:Int)+(z:Int)=(y:Int):=by omega
      have hlen':s.data.toList.length=s.size:=by simp
      have hys:y<=s.size:=by omega
      rw[hy]at HE2;clear hy;go_wp2_with fail;refine nP 13 (by kernel_rfl) (by kernel_rfl) ?_;simp only[aC,aO,aG,aQ];repeat (go_big_quiet_step ((go_at_call 166;exact dN (Gy.out _))))
      refine bF ?_;intro _ hw';obtain⟨k3,hw''⟩:=hw';subst hw'';go_wp2_with fail;refine(HT.out _).mono ?_;rintro e w2 ⟨rfl,hm2⟩;have bx:w2.cell? (Ad (w.heap.size+1) (1+k))=(vK s[p].toNat ns)[1+k]? :=jI hm2.box;have bf:∀j,w2.frozen? (Ad (w.heap.size+1) j)=false:=λj=>oQ hm2.box;have m1:=hm2.load.c1;have mf:=hm2.load.fr 1;simp only at m1;have HP:Hid (uQ B w L s l vs vb vl cs s[p].toNat ((w2.setCell (Ad (w.heap.size+1) (1+ns.length)) (Im n)).setCell (Ad L 1) (Im y)) (k+1) y (yI c.toNat n sl) (ns++[n])):=hm2.store n (by omega) y;rw[hlen]at HP;obtain⟨bv,hbv⟩:∃bv,(vK s[p].toNat ns)[1+k]? =some bv:=⟨_,Array.getElem?_eq_getElem (show 1+k<(vK s[p].toNat ns).size from by show 1+k<7;omega)⟩;rw[hbv]at bx;clear hm2 hbv;go_wp2_with fail;refine⟨⟨k+1,y,yI c.toNat n sl,ns++[n],HP.out,by simp[hlen],by omega,hys,HE2.out⟩,?_⟩;have hmu2:((w2.setCell (Ad (w.heap.size+1) (1+k)) (Im n)).setCell (Ad L 1) (Im y)).iterPos (w.heap.size+1+1)=k+1:=by
       unfold World.iterPos;rw[HP.out.iter]
      rw[hmu,hmu2];omega
   .have hkl:=hr.kl;have hk':¬k<(⟨cs.toArray⟩:ji).size:=by simpa [ByteArray.size]using hk
    have hnext:∀ty,(Instr.next (Pt (w.heap.size+1+1) 0) true ty).run prog wr=.ok (.tuple #[.bool false]) wr:=λty=>Lib.run_next_end_at (P:=prog) wr (w.heap.size+1+1) ⟨cs.toArray⟩ k ty hr.mid.iter hk';have hR:R=some (ns,pp,sl):=by
     rw[hr.eq,fH (by omega)];simp[wP]
    have hmid:=hr.mid;have r0:wr.cell? (Ad w.heap.size 0)=some (.int .u8 0):=jI hmid.out;have r1:wr.cell? (Ad w.heap.size 1)=some (Im 0):=jI hmid.out;have r2:wr.cell? (Ad w.heap.size 2)=some (Im 0):=jI hmid.out;have r3:wr.cell? (Ad w.heap.size 3)=some (Im 0):=jI hmid.out;have r4:wr.cell? (Ad w.heap.size 4)=some (Im 0):=jI hmid.out;have r5:wr.cell? (Ad w.heap.size 5)=some (Im 0):=jI hmid.out;have r6:wr.cell? (Ad w.heap.size 6)=some (Im 0):=jI hmid.out;have rf:∀j,wr.frozen? (Ad w.heap.size j)=false:=λj=>oQ hmid.out;have q0:wr.cell? (Ad (w.heap.size+1) 0)=some (.int .u8 s[p].toNat):=jI hmid.box;have q1:wr.cell? (Ad (w.heap.size+1) 1)=some (Im (ns.getD 0 0)):=jI hmid.box;have q2:wr.cell? (Ad (w.heap.size+1) 2)=some (Im (ns.getD 1 0)):=jI hmid.box;have q3:wr.cell? (Ad (w.heap.size+1) 3)=some (Im (ns.getD 2 0)):=jI hmid.box;have q4:wr.cell? (Ad (w.heap.size+1) 4)=some (Im (ns.getD 3 0)):=jI hmid.box;have q5:wr.cell? (Ad (w.heap.size+1) 5)=some (Im 0):=jI hmid.box;have q6:wr.cell? (Ad (w.heap.size+1) 6)=some (Im 0):=jI hmid.box;have HM:Hid (uQ B w L s l vs vb vl cs s[p].toNat wr k pp sl ns):=hmid;clear hmid hr;go_wp2_with fail;refine cu (VY _ _ w.heap.size s[p].toNat ns ok rfl rfl (ao7 wr w.heap.size 125 s[p].toNat ns HM.out.out)) rfl ?_;have ho:=(((((((HM.out.VJ.set 0 (.int .u8 s[p].toNat)).set 1 (Im (ns.getD 0 0))).set 2 (Im (ns.getD 1 0))).set 3 (Im (ns.getD 2 0))).set 4 (Im (ns.getD 3 0))).set 5 (Im 0)).set 6 (Im 0));exact⟨_,ho.1,ho.2.1,jf ⟨ns,pp,sl,hR,rfl,rfl⟩⟩
end
end
section
open Go
section
variable {P:Program}{ops:Array Oper}{md:Region.Mode}{S:jk->Prop}{Q:Exit->Act->jk->Prop}
def Cb(n:Nat)(ds:List Nat):Array Bool:=ds.foldr (λi m=>m.setIfInBounds i true) (Array.replicate n false)
theorem Vd(n:Nat):∀ds:List Nat,(Cb n ds).size=n
 |[]=>by simp[Cb]
 |i::ds=>by
  show((Cb n ds).setIfInBounds i true).size=n;rw[Array.size_setIfInBounds];exact Vd n ds
theorem adu(n:Nat):∀(ds:List Nat)(j:Nat),j∉ds->(Cb n ds).getD j false=false
 |[],j,_=>getD_replicate_false n j
 |i::ds,j,h=>by
  show((Cb n ds).setIfInBounds i true).getD j false=false;rw[getD_set_ne false (λe=>h (by rw[e];exact aW))];exact adu n ds j (λe=>h (aI _ e))
theorem Vb(n:Nat):∀(ds:List Nat)(j:Nat),j∈ds->j<n->(Cb n ds).getD j false=true
 |[],j,h,_=>jl h dU
 |i::ds,j,h,hj=>by
  show((Cb n ds).setIfInBounds i true).getD j false=true;by_cases e:i=j
  .subst e;have:=Vd n ds;simp[this,hj]
  .rw[getD_set_ne false e];rcases dh.1 h with e2|e2
   .exact jl e2.symm e
   .exact Vb n ds j e2 hj
def TP(md:Region.Mode)(ops:Array Oper)(ds:List Nat)(i:Nat):Bool:=
 match ops[i]?with
 |none=>false
 |some oi=>(List.range ops.size).all λj=>j==i||ds.contains j||match ops[j]?with
   |some oj=>oj.after.any (λe=>Region.binds md e&&e.on==i)||oi.apart ops oj
   |none=>true
theorem akF{ds:List Nat}{i:Nat}{oi:Oper}(hi:ops[i]? =some oi)(h:TP md ops ds i=true)(j:Nat)(oj:Oper)(hj:ops[j]? =some oj)(hne:j≠i)(hun:j∉ds)(hno:∀e∈oj.after,Region.binds md e=true->e.on≠i):oi.apart ops oj=true:=by
 simp only[TP,hi,List.all_eq_true,List.mem_range]at h;have h1:=h j (Array.getElem?_eq_some_iff.1 hj).1;have h2:ds.contains j=false:=by simpa using hun
 simp only[hj,iU,beq_iff_eq,hne,false_or,h2,aH]at h1;rcases h1 with h1|h1
 .obtain⟨k,hk,hx⟩:=Array.any_eq_true.1 h1;simp only[dD,beq_iff_eq]at hx;exact jl hx.2 (hno _ (Array.getElem_mem hk) hx.1)
 .exact h1
def agD(md:Region.Mode)(ops:Array Oper)(ds:List Nat)(i:Nat):Bool:=
 !ds.contains i&&TP md ops ds i&&((ops[i]?).map (·.after.all λe=>!Region.binds md e||(ds.contains e.on&&decide (e.on<ops.size)))).getD false
def Rj(md:Region.Mode)(ops:Array Oper):List Nat->List Nat->Bool
 |[],_=>true
 |i::is,ds=>agD md ops ds i&&Rj md ops is (i::ds)
def yO(P:Program)(ops:Array Oper)(S:jk->Prop):List Oper->(Act->Prop)->Act->Prop
 |[],K,a=>K a
 |o::os,K,a=>∃v,YieldsIf P ops S o v a/\yO P ops S os K (a.put o.dst v)
theorem yO.nil{K:Act->Prop}{a:Act}(h:K a):yO P ops S [] K a:=h
theorem yO.cons{o:Oper}{os:List Oper}{K:Act->Prop}{a:Act}{v:jm}(h:Region.wanted o (yielded ops a.tmps)=true)(hy:∀w,S w->(execOp a.eval o).run P w=.ok (.value v) w)(hr:yO P ops S os K (a.put o.dst v)):yO P ops S (o::os) K a:=⟨v,jf ⟨h,hy⟩,hr⟩
theorem ahd{w:jk}{f:Nat}(hs:Region.noSelect ops=true)(hQ:∀c a d v w,Q (.panic c) (Act.put a d v) w->Q (.panic c) a w)(hS:S w):
 ∀(is:List Nat)(os:List Oper)(ds:List Nat)(a:Act),is.map (λi=>ops[i]?)=os.map some->Rj md ops is ds=true->yO P ops S os (λa'=>wpAnyH P md ops Q S f (Cb ops.size (is.reverse++ds)) a' w) a->wpAnyH P md ops Q S (is.length+f) (Cb ops.size ds) a w
 |[],[],ds,a,_,_,h=>by
  rw[bg,gW];exact h
 |[],_::_,_,_,he,_,_=>by cases he
 |_::_,[],_,_,he,_,_=>by cases he
 |i::is,o::os,ds,a,he,hB,h=>by
  simp only[Rj,agD,dD,Bool.not_eq_true',List.contains_eq_mem,decide_eq_false_iff_not]at hB;obtain⟨⟨⟨h1,h2⟩,h3⟩,h4⟩:=hB;obtain⟨v,hy,hr⟩:=h;simp only[dL,iy]at he;obtain⟨ho,he⟩:=he;rw[ho]at h3;simp only[iH,Option.getD_some,Array.all_eq_true_iff_forall_mem]at h3;have hi:i<ops.size:=(Array.getElem?_eq_some_iff.1 ho).1;rw[aF,show is.length+1+f=(is.length+f)+1 by omega];refine wpAnyH_first ho (Region.noSelect_spec hs) (λc a w=>hQ c a _ _ w) _ _ a w (λj oj hj hne hun hno=>akF ho h2 j oj hj hne (λhm=>?_) hno) ?_ hy hS ?_
  .have k1:=Vb ops.size ds j hm (Array.getElem?_eq_some_iff.1 hj).1;rw[getD_both hun]at k1;cases k1
  .refine mem_ready.2 ⟨getD_in (by rw[Vd];exact hi) (adu _ ds i h1),o,ho,λe he hb=>?_⟩;have:=h3 e he;rw[hb]at this;simp only[jc,gZ,dD,decide_eq_true_eq]at this;exact Vb _ ds _ (by simpa using this.1) this.2
  .have key:wpAnyH P md ops Q S (is.length+f) (Cb ops.size (i::ds)) (a.put o.dst v) w:=ahd hs hQ hS is os (i::ds) (a.put o.dst v) he h4 (by
    rw[fJ,bY]at hr;exact hr)
   exact key
theorem YT{id f:Nat}{a:Act}{w:jk}{l:List Oper}(S:jk->Prop)(is:List Nat)(m:Array Bool)(os:List Oper->List Oper)(hm:P.follows .mixedOrders=true)(hs:Region.noSelect l.toArray=true)(hf:is.length+f=l.toArray.size)(ho:is.map (λi=>l.toArray[i]?)=(os l).map some)(hB:Rj .any l.toArray is []=true)(hmk:Cb l.toArray.size (is.reverse++[])=m)(hS:S w.drew)
 (h:S w.drew->yO P l.toArray S (os l) (λa'=>wpAnyH P .any l.toArray (NoPanic Q) S f m a' w.drew) a):(Code.region id l.toArray true).wp P Q a w:=by
 refine wp_region_noPanic (wp_region_held_drew (S:=S) hm hS λhh=>?_);have:=ahd (P:=P) (md:=.any) (ops:=l.toArray) (Q:=NoPanic Q) (f:=f) hs (λc a d v w h=>h) hS is (os l) [] a ho hB (by rw[hmk];exact h hh);rw[hf]at this;exact this
theorem lV{fuel:Nat}{listed:Array Bool}{a:Act}{w:jk}{i:Nat}{o:Oper}{rs:List Nat}{l:List Oper}(ho:l[i]? =some o)
 (h:∀K':Act->jk->Prop,Shut (∀a w,S w->(S w->wpAnyH P md l.toArray Q S fuel (listed.setIfInBounds i true) a w)->K' a w)->if Region.wanted o (yielded l.toArray a.tmps)=true then Oper.wp P o a w K' Q else K' (a.put o.dst undef) w)
 (hs:AllReadyH P md l.toArray Q S fuel listed a w rs):AllReadyH P md l.toArray Q S fuel listed a w (i::rs):=
 AllReadyH.cons (o:=o) (by simpa using ho) h hs
end
section
def Zw(J:Nat->Act->jk->Prop)(Q:Exit->Act->jk->Prop):Exit->Act->jk->Prop
 | .goto l,a,w=>J l a w
 |e,a,w=>Q e a w
variable {P:Program}{a:Act}{w:jk}{Q:Exit->Act->jk->Prop}
theorem aui{c:Code}(rest:Nat->Code)(J:Nat->Act->jk->Prop)(μ:Nat->Act->jk->Nat)(hf:∀l a w,J l a w->findLabel c l=some (rest l))
 (first:c.wp P (Zw J Q) a w)
 (pass:∀l a w,J l a w->(rest l).wp P (Zw (λl' a' w'=>J l' a' w'/\μ l' a' w'<μ l a w) Q) a w):(Code.scope c).wp P Q a w:=by
 intro b k cs;have hg:∀l a w,J l a w->gotoIn l (.inScope c::k)=some (.code (rest l)::.inScope c::k):=λl a w h=>by simp[gotoIn,hf l a w h]
 have key:∀n l a w,μ l a w=n->J l a w->∃e a' w',Q e a' w'/\Arrives P (lone (b.at a (.code (rest l)::.inScope c::k)) cs w) b k cs e a' w':=by
  intro n;induction n using Nat.strongRecOn with
  |_ n ih=>
   intro l a w hn hJ;obtain⟨e,a1,w1,hq,harr⟩:=pass l a w hJ b (.inScope c::k) cs;cases e with
   |normal=>exact⟨.normal,a1,w1,hq,Steps.trans harr (.one step_inScope)⟩
   |exit id=>exact⟨.exit id,a1,w1,hq,λk' hk=>harr k' (by simp[exitTo,hk])⟩
   |goto l'=>
    obtain⟨hJ',hlt⟩:=hq;obtain⟨e2,a2,w2,hq2,Ub⟩:=ih _ (by omega) l' a1 w1 rfl hJ';exact⟨e2,a2,w2,hq2,.of_steps (harr _ (hg l' a1 w1 hJ')) Ub⟩
   |ret=>exact⟨_,a1,w1,hq,harr⟩
   |panic ch=>exact⟨_,a1,w1,hq,harr⟩
   |outgrown=>exact⟨_,a1,w1,hq,harr⟩
 obtain⟨e,a1,w1,hq,harr⟩:=first b (.inScope c::k) cs
 cases e with
 |normal=>exact⟨.normal,a1,w1,hq,.head step_scope (Steps.trans harr (.one step_inScope))⟩
 |exit id=>exact⟨.exit id,a1,w1,hq,λk' hk=>.head step_scope (harr k' (by simp[exitTo,hk]))⟩
 |goto l'=>
  obtain⟨e2,a2,w2,hq2,Ub⟩:=key _ l' a1 w1 rfl hq;exact⟨e2,a2,w2,hq2,.of_steps (.head step_scope (harr _ (hg l' a1 w1 hq))) Ub⟩
 |ret=>exact⟨_,a1,w1,hq,.of_steps (.one step_scope) harr⟩
 |panic ch=>exact⟨_,a1,w1,hq,.of_steps (.one step_scope) harr⟩
 |outgrown=>exact⟨_,a1,w1,hq,.of_steps (.one step_scope) harr⟩
end
end
end Go.Proofs.YthllhabjfchgiaaGreatDoor
