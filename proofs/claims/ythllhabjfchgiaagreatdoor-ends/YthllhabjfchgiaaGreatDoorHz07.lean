import Derived.Test.YthllhabjfchgiaaGreatDoorHz06
import Derived.Lib.OthersKept
import Derived.Deep.CutBlock
import Derived.Deep.DeepCutAuto
import Derived.Scope
import Derived.ScopeJumps
set_option maxRecDepth 100000
set_option maxHeartbeats 8000000
namespace Go.Proofs.YthllhabjfchgiaaGreatDoor
open _root_.Go.Proofs.Tryz
section
open Go.RowKit
open Hx (St Bk Ls aZ)
attribute [local go_sem ↓] Go.wp_at_zero Go.wp_at_succ
attribute [local go_sem] bT
section
variable {B:Nat}{w:World}{L:Nat}{s:ByteArray}{l:Ls}{vs vb vl:Value}
theorem bn.Xe(h:bn B w L s l vs vb vl)(x:Int):bn B (w.setCell (Ad L 1) (Im x)) L s {l with pos:=x} vs vb vl:=by
 have hc:∀j,j≠1->(w.setCell (Ad L 1) (Im x)).cell? (Ad L j)=w.cell? (Ad L j):=fun j hj=>World.cell?_setCell_other _ _ _ _ (by intro e;cases e;exact hj rfl);exact h.put 1 _ _ vs vb vl (World.cell?_setCell_same _ _ _ h.c1) (by rw[hc 2 (by omega)];exact h.c2) (by rw[hc 3 (by omega)];exact h.c3) (by rw[hc 4 (by omega)];exact h.c4) (by rw[hc 5 (by omega)];exact h.c5) (by rw[hc 6 (by omega)];exact h.c6) (by rw[hc 7 (by omega)];exact h.c7) (by omega) h.ay h.aI h.bH h.ns h.nb h.nl h.sb h.sl h.bl
def zh(c n:Int):Bool:=if c=115 then decide (0<=n/\n<2008)else if c=108 then decide (0<=n/\n<3)else true
def sJ(c n sl:Int):Int:=if c=115/\0<=n/\n<2008 then max sl (n+1)else sl
theorem aiH(h:bn B w L s l vs vb vl)(c n:Int):
 Calls prog 167 #[Pt L 0,.int .i32 c,Im n] w fun e w'=>e=.returned (.bool (zh c n))/\bn B w' L s {l with aF:=sJ c n l.aF} vs vb vl/\bF L w vs vb vl w' vs vb vl:=by
 by_cases h1:c=115
 .subst h1;by_cases h2:0<=n/\n<2008
  .refine(aiM h n h2.1 h2.2).mono ?_;rintro e w' ⟨rfl,g1,g2⟩;refine⟨by simp[zh,h2],?_,g2⟩;rw[show sJ 115 n l.aF=max l.aF (n+1) by simp[sJ,h2]];exact g1
  .refine(aiK h n (by omega)).mono ?_;rintro e w' ⟨rfl,rfl⟩;refine⟨by simp[zh,h2],?_,bF.refl _ _ _ _ _⟩;rw[show sJ 115 n l.aF=l.aF by simp[sJ];omega];exact h
 .have hsl:sJ c n l.aF=l.aF:=by simp[sJ,h1]
  by_cases h2:c=108
  .subst h2;refine(aiL n w L).mono ?_;rintro e w' ⟨rfl,rfl⟩;rw[hsl];exact⟨by simp[zh],h,bF.refl _ _ _ _ _⟩
  .refine(aiJ c n w L (by simpa using h1) (by simpa using h2)).mono ?_;rintro e w' ⟨rfl,rfl⟩;rw[hsl];exact⟨by simp[zh,h1,h2],h,bF.refl _ _ _ _ _⟩
theorem bn.lK(h:bn B w L s l vs vb vl){w':World}{g:Nat}(hg:w.grownBy w' (some g))(hL:L≠g)(h1:vs.ownBlock≠some g)(h2:vb.ownBlock≠some g)(h3:vl.ownBlock≠some g):bn B w' L s l vs vb vl:=by
 have hb:w'.heap[L]? =w.heap[L]? :=hg.block L h.lt (by simpa using hL);have hc:∀j,w'.cell? (Ad L j)=w.cell? (Ad L j):=fun j=>World.cell?_of_block hb;have hf:∀j,w'.frozen? (Ad L j)=w.frozen? (Ad L j):=fun j=>World.frozen?_of_block hb;exact⟨h.bL,by rw[hc];exact h.c0,by rw[hc];exact h.c1,by rw[hc];exact h.c2,by rw[hc];exact h.c3,by rw[hc];exact h.c4,by rw[hc];exact h.c5,by rw[hc];exact h.c6,by rw[hc];exact h.c7,
  fun j=>by rw[hf];exact h.fr j,h.ay.kept hg (Or.inr h1),h.aI.kept hg (Or.inr h2),h.bH.kept hg (Or.inr h3),h.ns,h.nb,h.nl,h.sb,h.sl,h.bl⟩
theorem bF.lK{w0:World}{QW vb0 YF:Value}(h:bF L w0 QW vb0 YF w vs vb vl){w':World}{g:Nat}(hg:w.grownBy w' (some g))(hn:w0.heap.size<=g):bF L w0 QW vb0 YF w' vs vb vl:=
 ⟨hg.os.trans h.os,hg.tape.trans h.tape,hg.output.trans h.output,Nat.le_trans h.size hg.size,
   fun k hk h1 h2 h3 h4=>by rw[hg.block k (Nat.lt_of_lt_of_le hk h.size) (by intro e;cases e;omega)];exact h.block k hk h1 h2 h3 h4,h.fs,h.fb,h.fl⟩
theorem dV(w:World)(g o:Nat)(u:Value):w.grownBy (w.setCell (Ad g o) u) (some g):=
 ⟨rfl,rfl,rfl,by simp,fun k _ hne=>Below.heap_setCell _ _ _ _ (by intro e;subst e;exact hne rfl)⟩
theorem abL(w:World)(g:Nat)(u:ByteArray)(k:Nat):w.grownBy (w.iterAt g u k) (some g):=
 ⟨rfl,rfl,rfl,by rw[Lib.iterAt_size];exact Nat.le_refl _,fun j _ hne=>Lib.iterAt_other _ _ _ _ _ (by intro e;subst e;exact hne rfl)⟩
def pI(q:Int)(ns:List Int):Array Value:=#[.int .u8 q,Im (ns.getD 0 0),Im (ns.getD 1 0),Im (ns.getD 2 0),Im (ns.getD 3 0),Im 0,Im 0]
theorem aaA(q:Int)(ns:List Int)(n:Int)(h:ns.length<4):(pI q ns).setIfInBounds (1+ns.length) (Im n)=pI q (ns++[n]):=by
 match ns,h with
 |[],_=>rfl
 |[a],_=>rfl
 |[a,b],_=>rfl
 |[a,b,c],_=>rfl
theorem ahX(o:Int):(Hx.shape o).length<=4/\∀c∈Hx.shape o,c.toNat<128:=by
 unfold Hx.shape;repeat' split
 all_goals exact⟨by decide,by decide⟩
structure oJ(B:Nat)(w:World)(L:Nat)(s:ByteArray)(l:Ls)(vs vb vl:Value)(cs:List UInt8)(q:Int)(wr:World)(k p:Nat)(sl:Int)(ns:List Int):Prop where
 load:bn B wr L s {l with pos:=p,aF:=sl} vs vb vl
 Ih:bF L w vs vb vl wr vs vb vl
 iter:wr.heap[w.heap.size+1+1]? =some (.stringIter ⟨cs.toArray⟩ k)
 box:wr.heap[w.heap.size+1]? =some (.cells (pI q ns) 125)
 out:wr.heap[w.heap.size]? =some (.cells (pI 0 []) 125)
 lt:L<w.heap.size
 own:∀g,w.heap.size<=g->vs.ownBlock≠some g/\vb.ownBlock≠some g/\vl.ownBlock≠some g
structure Si(B:Nat)(w:World)(L:Nat)(s:ByteArray)(l:Ls)(vs vb vl:Value)(cs:List UInt8)(q:Int)(R:Option (List Int×Nat×Int))(wr:World)(k p:Nat)(sl:Int)(ns:List Int):Prop where
 mid:oJ B w L s l vs vb vl cs q wr k p sl ns
 len:ns.length=k
 kl:k<=cs.length
 ps:p<=s.size
 eq:R=(rE s.data.toList (cs.drop k) p sl).map fun r=>(ns++r.1,r.2)
theorem aA{g j:Nat}{a:Array Value}{T:TypeId}(h:w.heap[g]? =some (.cells a T)):w.cell? (Ad g j)=a[j]? :=by simp[World.cell?,h]
theorem eu{g j:Nat}{a:Array Value}{T:TypeId}(h:w.heap[g]? =some (.cells a T)):w.frozen? (Ad g j)=false:=by simp[World.frozen?,h]
theorem QI(w:World)(o1 o2 o3:Obj)(k:Nat):((((w.alloc o1).drewN k).alloc o2).alloc o3).heap[w.heap.size]? =some o1/\((((w.alloc o1).drewN k).alloc o2).alloc o3).heap[w.heap.size+1]? =some o2/\((((w.alloc o1).drewN k).alloc o2).alloc o3).heap[w.heap.size+1+1]? =some o3:=by
 have e:((((w.alloc o1).drewN k).alloc o2).alloc o3).heap=((w.heap.push o1).push o2).push o3:=rfl;rw[e];refine⟨?_,?_,?_⟩
 .rw[Array.getElem?_push,if_neg (by simp;omega),Array.getElem?_push,if_neg (by simp),Array.getElem?_push,if_pos rfl]
 .rw[Array.getElem?_push,if_neg (by simp),Array.getElem?_push,if_pos (by simp)]
 .rw[Array.getElem?_push,if_pos (by simp)]
section
variable {wr:World}{cs:List UInt8}{q:Int}{k p:Nat}{sl:Int}{ns:List Int}
theorem dS{g:Nat}{o:Obj}(h:w.heap[g]? =some o):g<w.heap.size:=by
 rcases Nat.lt_or_ge g w.heap.size with h'|h'
 .exact h'
 .rw[Array.getElem?_eq_none h']at h;cases h
theorem oJ.next(h:oJ B w L s l vs vb vl cs q wr k p sl ns):oJ B w L s l vs vb vl cs q (wr.iterAt (w.heap.size+1+1) ⟨cs.toArray⟩ (k+1)) (k+1) p sl ns:=by
 obtain⟨o1,o2,o3⟩:=h.own (w.heap.size+1+1) (by omega);have hg:=abL wr (w.heap.size+1+1) ⟨cs.toArray⟩ (k+1);have hL:=h.lt;refine⟨h.load.lK hg (by omega) o1 o2 o3,h.Ih.lK hg (by omega),Lib.iterAt_heap _ _ _ _ _ h.iter,?_,?_,h.lt,h.own⟩
 .rw[Lib.iterAt_other _ _ _ _ _ (by omega)];exact h.box
 .rw[Lib.iterAt_other _ _ _ _ _ (by omega)];exact h.out
theorem oJ.drewN(h:oJ B w L s l vs vb vl cs q wr k p sl ns)(n:Nat):oJ B w L s l vs vb vl cs q (wr.drewN n) k p sl ns:=
 ⟨h.load.drewN n,h.Ih.trans (bF.grow L _ _ _ _ (dh _ n)),h.iter,h.box,h.out,h.lt,h.own⟩
theorem oJ.aiU(h:oJ B w L s l vs vb vl cs q wr k p sl ns){w2:World}{sl':Int}(hl:bn B w2 L s {l with pos:=p,aF:=sl'} vs vb vl)(hm:bF L wr vs vb vl w2 vs vb vl):oJ B w L s l vs vb vl cs q w2 k p sl' ns:=by
 have hL:=h.lt;have key:∀g o,w.heap.size<=g->wr.heap[g]? =some o->w2.heap[g]? =some o:=fun g o hg ho=>by
  obtain⟨o1,o2,o3⟩:=h.own g hg;rw[hm.block g (dS ho) (by omega) (fun e=>o1 e.symm) (fun e=>o2 e.symm) (fun e=>o3 e.symm)];exact ho
 exact⟨hl,h.Ih.trans hm,key _ _ (by omega) h.iter,key _ _ (by omega) h.box,key _ _ (by omega) h.out,h.lt,h.own⟩
theorem oJ.store(h:oJ B w L s l vs vb vl cs q wr k p sl ns)(n:Int)(hn:ns.length<4)(p':Nat):oJ B w L s l vs vb vl cs q ((wr.setCell (Ad (w.heap.size+1) (1+ns.length)) (Im n)).setCell (Ad L 1) (Im p')) k p' sl (ns++[n]):=by
 obtain⟨o1,o2,o3⟩:=h.own (w.heap.size+1) (by omega);have hg:=dV wr (w.heap.size+1) (1+ns.length) (Im n);have hL:=h.lt;have h1:=h.load.lK hg (by omega) o1 o2 o3;have h2:=h1.Xe (p':Int);refine⟨h2,(h.Ih.lK hg (by omega)).trans (bF.own L _ _ _ _ 1 _),?_,?_,?_,h.lt,h.own⟩
 .rw[Below.heap_setCell _ _ _ _ (by show _≠L;omega),Below.heap_setCell _ _ _ _ (by show _≠w.heap.size+1;omega)];exact h.iter
 .rw[Below.heap_setCell _ _ _ _ (by show _≠L;omega),heap_setCell_same _ _ _ _ _ _ h.box,aaA _ _ _ hn]
 .rw[Below.heap_setCell _ _ _ _ (by show _≠L;omega),Below.heap_setCell _ _ _ _ (by show _≠w.heap.size+1;omega)];exact h.out
def AU(B:Nat)(w:World)(L:Nat)(s:ByteArray)(l:Ls)(vs vb vl:Value)(x:World):Prop:=
 bn B x L s l vs vb vl/\bF L w vs vb vl x vs vb vl/\L<w.heap.size/\∀g,w.heap.size<=g->vs.ownBlock≠some g/\vb.ownBlock≠some g/\vl.ownBlock≠some g
theorem oJ.aQ(h:oJ B w L s l vs vb vl cs q wr k p sl ns):AU B w L s {l with pos:=p,aF:=sl} vs vb vl wr:=⟨h.load,h.Ih,h.lt,h.own⟩
theorem AU.set{x:World}(h:AU B w L s l vs vb vl x)(j:Nat)(a:Value):AU B w L s l vs vb vl (x.setCell (Ad w.heap.size j) a):=by
 obtain⟨h1,h2,h3,h4⟩:=h;obtain⟨o1,o2,o3⟩:=h4 w.heap.size (Nat.le_refl _);exact⟨h1.lK (dV _ _ _ _) (by omega) o1 o2 o3,h2.lK (dV _ _ _ _) (Nat.le_refl _),h3,h4⟩
theorem AU.drewN{x:World}(h:AU B w L s l vs vb vl x)(k:Nat):AU B w L s l vs vb vl (x.drewN k):=
 ⟨h.1.drewN k,h.2.1.trans (bF.grow L _ _ _ _ (dh _ k)),h.2.2⟩
theorem agH(bs:List UInt8)(c:UInt8)(cs':List UInt8)(p:Nat)(sl:Int)(ns:List Int):((rE bs (c::cs') p sl).map fun r=>(ns++r.1,r.2))=
 if (Hx.read bs p).2=0 then none else if zh c.toNat (Hx.read bs p).1=false then none
 else (rE bs cs' (p+(Hx.read bs p).2.toNat) (sJ c.toNat (Hx.read bs p).1 sl)).map fun r=>(ns++[(Hx.read bs p).1]++r.1,r.2):=by
 have e1:c=115↔(c.toNat:Int)=115:=⟨fun e=>by rw[e];rfl,fun e=>by
  have:c.toNat=115:=by omega
  exact UInt8.toNat_inj.1 this⟩
 have e2:c=108↔(c.toNat:Int)=108:=⟨fun e=>by rw[e];rfl,fun e=>by
  have:c.toNat=108:=by omega
  exact UInt8.toNat_inj.1 this⟩
 simp only[rE,zh,sJ,e1,e2];generalize (Hx.read bs p).1=n;generalize (Hx.read bs p).2=z;generalize (c.toNat:Int)=x;by_cases hz:z=0
 .simp[hz]
 simp only[if_neg hz];by_cases h1:x=115
 .by_cases h2:0<=n/\n<2008
  .have h3:¬(n<0\/2008<=n):=by omega
   simp[h1,h2,h3,Option.map_map,Function.comp_def]
  .have h3:n<0\/2008<=n:=by omega
   simp[h1,h2,h3]
 .by_cases h2:x=108
  .by_cases h3:0<=n/\n<3
   .simp[h2,h3,Option.map_map,Function.comp_def]
   .simp[h2,h3]
  .simp[h1,h2,Option.map_map,Function.comp_def]
end
theorem XH(w:World)(g:Nat)(T:TypeId)(a0 a1 a2 a3 a4 a5 a6 v0 v1 v2 v3 v4 v5 v6:Value)(h:w.heap[g]? =some (.cells #[a0,a1,a2,a3,a4,a5,a6] T)):
 (((((((w.setCell (Ad g 0) v0).setCell (Ad g 1) v1).setCell (Ad g 2) v2).setCell (Ad g 3) v3).setCell (Ad g 4) v4).setCell (Ad g 5) v5).setCell (Ad g 6) v6).heap[g]? =some (.cells #[v0,v1,v2,v3,v4,v5,v6] T):=by
 have h0:(w.setCell (Ad g 0) v0).heap[g]? =some (.cells #[v0,a1,a2,a3,a4,a5,a6] T):=heap_setCell_same _ _ _ _ _ _ h;have h1:((w.setCell (Ad g 0) v0).setCell (Ad g 1) v1).heap[g]? =some (.cells #[v0,v1,a2,a3,a4,a5,a6] T):=heap_setCell_same _ _ _ _ _ _ h0;have h2:(((w.setCell (Ad g 0) v0).setCell (Ad g 1) v1).setCell (Ad g 2) v2).heap[g]? =some (.cells #[v0,v1,v2,a3,a4,a5,a6] T):=heap_setCell_same _ _ _ _ _ _ h1;have h3:((((w.setCell (Ad g 0) v0).setCell (Ad g 1) v1).setCell (Ad g 2) v2).setCell (Ad g 3) v3).heap[g]? =some (.cells #[v0,v1,v2,v3,a4,a5,a6] T):=heap_setCell_same _ _ _ _ _ _ h2;have h4:(((((w.setCell (Ad g 0) v0).setCell (Ad g 1) v1).setCell (Ad g 2) v2).setCell (Ad g 3) v3).setCell (Ad g 4) v4).heap[g]? =some (.cells #[v0,v1,v2,v3,v4,a5,a6] T):=heap_setCell_same _ _ _ _ _ _ h3;have h5:((((((w.setCell (Ad g 0) v0).setCell (Ad g 1) v1).setCell (Ad g 2) v2).setCell (Ad g 3) v3).setCell (Ad g 4) v4).setCell (Ad g 5) v5).heap[g]? =some (.cells #[v0,v1,v2,v3,v4,v5,a6] T):=heap_setCell_same _ _ _ _ _ _ h4;have h6:(((((((w.setCell (Ad g 0) v0).setCell (Ad g 1) v1).setCell (Ad g 2) v2).setCell (Ad g 3) v3).setCell (Ad g 4) v4).setCell (Ad g 5) v5).setCell (Ad g 6) v6).heap[g]? =some (.cells #[v0,v1,v2,v3,v4,v5,v6] T):=heap_setCell_same _ _ _ _ _ _ h5;exact h6
theorem WE(x:World)(g:Nat)(T:TypeId)(h:x.heap[g]? =some (.cells (pI 0 []) T)):(((((((x.setCell (Ad g 0) (.int .u8 0)).setCell (Ad g 1) (Im 0)).setCell (Ad g 2) (Im 0)).setCell (Ad g 3) (Im 0)).setCell (Ad g 4) (Im 0)).setCell (Ad g 5) (Im 0)).setCell (Ad g 6) (Im 0)).heap[g]? =some (.cells (pI 0 []) T):=XH x g T _ _ _ _ _ _ _ _ _ _ _ _ _ _ h
theorem afy(x:World)(g:Nat)(T:TypeId)(k:Nat)(h:x.heap[g]? =some (.cells (pI 0 []) T)):((((((((x.setCell (Ad g 0) (.int .u8 0)).setCell (Ad g 1) (Im 0)).setCell (Ad g 2) (Im 0)).setCell (Ad g 3) (Im 0)).setCell (Ad g 4) (Im 0)).setCell (Ad g 5) (Im 0)).setCell (Ad g 6) (Im 0)).drewN k).heap[g]? =some (.cells (pI 0 []) T):=by
 rw[show∀y:World,(y.drewN k).heap=y.heap from fun _=>rfl];exact WE x g T h
theorem afx(x:World)(g:Nat)(T:TypeId)(q:Int)(ns:List Int)(h:x.heap[g]? =some (.cells (pI 0 []) T)):(((((((x.setCell (Ad g 0) (.int .u8 q)).setCell (Ad g 1) (Im (ns.getD 0 0))).setCell (Ad g 2) (Im (ns.getD 1 0))).setCell (Ad g 3) (Im (ns.getD 2 0))).setCell (Ad g 4) (Im (ns.getD 3 0))).setCell (Ad g 5) (Im 0)).setCell (Ad g 6) (Im 0)).heap[g]? =some (.cells (pI q ns) T):=XH x g T _ _ _ _ _ _ _ _ _ _ _ _ _ _ h
theorem Qi(tmps:Array Value)(w:World)(g:Nat)(q:Int)(ns:List Int)(b:Bool)(h2:tmps[2]? =some (Pt g 0))(h3:tmps[3]? =some (.bool b))(h:w.heap[g]? =some (.cells (pI q ns) 125)):
 (results Tryz.f112 tmps).run prog w=.ok (.tuple #[.agg (pI q ns),.bool b]) w:=by
 have q0:w.cell? (Ad g 0)=some (.int .u8 q):=aA h;have q1:w.cell? (Ad g 1)=some (Im (ns.getD 0 0)):=aA h;have q2:w.cell? (Ad g 2)=some (Im (ns.getD 1 0)):=aA h;have q3:w.cell? (Ad g 3)=some (Im (ns.getD 2 0)):=aA h;have q4:w.cell? (Ad g 4)=some (Im (ns.getD 3 0)):=aA h;have q5:w.cell? (Ad g 5)=some (Im 0):=aA h;have q6:w.cell? (Ad g 6)=some (Im 0):=aA h;simp[results,Tryz.results112,go_sem,h2,h3,q0,q1,q2,q3,q4,q5,q6,pI]
def Gh(B:Nat)(w:World)(L:Nat)(s:ByteArray)(l:Ls)(vs vb vl:Value)(q:Int)(ok:Bool)(R:Option (List Int×Nat×Int))(e:Ending)(w':World):Prop:=
 ∃l',bn B w' L s l' vs vb vl/\bF L w vs vb vl w' vs vb vl/\
    ((∃ns p' sl',R=some (ns,p',sl')/\l'={l with pos:=p',aF:=sl'}/\e=.returned (.tuple #[.agg (pI q ns),.bool ok]))\/
     (R=none/\(∃x y,l'={l with pos:=x,aF:=y})/\e=.returned (.tuple #[.agg (pI 0 []),.bool false])))
theorem Gh.none{q:Int}{ok:Bool}{R:Option (List Int×Nat×Int)}{p:Nat}{sl:Int}{x:World}(h:AU B w L s {l with pos:=p,aF:=sl} vs vb vl x)(hR:R=none):Gh B w L s l vs vb vl q ok R (.returned (.tuple #[.agg (pI 0 []),.bool false])) x:=
 ⟨_,h.1,h.2.1,Or.inr ⟨hR,⟨_,_,rfl⟩,rfl⟩⟩
theorem agL(h:bn B w L s l vs vb vl)(p:Nat)(hp:l.pos=p)(hlt:p<s.size)(hs:s.size<=100000)(R:Option (List Int×Nat×Int))(HR:Hid (rE s.data.toList (Hx.shape s[p].toNat) (p+1) l.aF=R)):
 Calls prog 112 #[Pt L 0] w (Gh B w L s l vs vb vl s[p].toNat (Hx.Bf s[p].toNat) R):=by
 have c0:=h.c0;have c1:=h.c1;have f1:=h.fr 1;have hL:=h.lt;rw[hp]at c1;have n1:¬L=w.heap.size:=by omega
 have n2:¬L=w.heap.size+1:=by omega
 have d1:((p:Int)==(s.size:Int))=false:=by simp;omega
 have i0:(0:Int)<=(p:Int):=by omega
 have i1:(p:Int)<(s.size:Int):=by omega
 have hsm:=ahX s[p].toNat;have HS:Hid (∀w,Calls prog 165 #[.int .u8 s[p].toNat] w fun e w'=>e=.returned (.tuple #[.string ⟨(Hx.shape s[p].toNat).toArray⟩,.bool (Hx.Bf s[p].toNat)])/\w'=w):=fun w=>ahW _ w (by omega);generalize Hx.Bf s[p].toNat=ok at *;generalize Hx.shape s[p].toNat=cs at *;have HA:Hid (∀k,Si B w L s l vs vb vl cs s[p].toNat R (((((w.setCell (Ad L 1) (Im ((p:Int)+1))).alloc (.cells #[.int .u8 0,Im 0,Im 0,Im 0,Im 0,Im 0,Im 0] 125)).drewN k).alloc (.cells #[.int .u8 s[p].toNat,Im 0,Im 0,Im 0,Im 0,Im 0,Im 0] 125)).iter ⟨cs.toArray⟩ 0) 0 (p+1) l.aF []):=fun k=>by
  have e1:((p:Int)+1)=((p+1:Nat):Int):=by omega
  refine⟨⟨?_,?_,?_,?_,?_,hL,fun g hg=>⟨fun e=>?_,fun e=>?_,fun e=>?_⟩⟩,rfl,Nat.zero_le _,by omega,?_⟩
  .rw[e1];exact((((h.Xe ((p+1:Nat):Int)).alloc _).drewN k).alloc _).alloc _
  .exact(bF.own L w vs vb vl 1 _).trans ((bF.grow L _ _ _ _ (World.grownBy_alloc _ _ none)).trans ((bF.grow L _ _ _ _ (dh _ k)).trans ((bF.grow L _ _ _ _ (World.grownBy_alloc _ _ none)).trans (bF.grow L _ _ _ _ (World.grownBy_alloc _ _ none)))))
  .have:=(QI (w.setCell (Ad L 1) (Im ((p:Int)+1))) (.cells #[.int .u8 0,Im 0,Im 0,Im 0,Im 0,Im 0,Im 0] 125) (.cells #[.int .u8 s[p].toNat,Im 0,Im 0,Im 0,Im 0,Im 0,Im 0] 125) (.stringIter ⟨cs.toArray⟩ 0) k).2.2
   rwa [World.size_setCell]at this
  .have:=(QI (w.setCell (Ad L 1) (Im ((p:Int)+1))) (.cells #[.int .u8 0,Im 0,Im 0,Im 0,Im 0,Im 0,Im 0] 125) (.cells #[.int .u8 s[p].toNat,Im 0,Im 0,Im 0,Im 0,Im 0,Im 0] 125) (.stringIter ⟨cs.toArray⟩ 0) k).2.1
   rwa [World.size_setCell]at this
  .have:=(QI (w.setCell (Ad L 1) (Im ((p:Int)+1))) (.cells #[.int .u8 0,Im 0,Im 0,Im 0,Im 0,Im 0,Im 0] 125) (.cells #[.int .u8 s[p].toNat,Im 0,Im 0,Im 0,Im 0,Im 0,Im 0] 125) (.stringIter ⟨cs.toArray⟩ 0) k).1
   rwa [World.size_setCell]at this
  .have:=(h.ay.lt g e).2;omega
  .have:=(h.aI.lt g e).2;omega
  .have:=(h.bH.lt g e).2;omega
  .rw[<-HR.out,List.drop_zero];cases rE s.data.toList cs (p+1) l.aF with
   |none=>rfl
   |some r=>rfl
 clear h;go_enter func112,ntmps112;go_wp2_with fail;refine fC 9 (by kernel_rfl) (by kernel_rfl) ?_;simp only[List.take_succ_cons,List.take_zero,List.drop_succ_cons,List.drop_zero];repeat (go_big_quiet_step (fail))
 refine wpQuiet_nil ?_;intro _ hw';obtain⟨k1,hw''⟩:=hw';subst hw'';go_upto_region 3 with fail;go_cut [4] (fun x wx=>x=Pt (w.heap.size+1) 0/\wx=((w.alloc (.cells #[.int .u8 0,Im 0,Im 0,Im 0,Im 0,Im 0,Im 0] 125)).drewN (k1+1)).alloc (.cells #[.int .u8 s[p].toNat,Im 0,Im 0,Im 0,Im 0,Im 0,Im 0] 125))
 case first=>
  go_region_held3 (fun w'=>w'.cell? (Ad L 0)=some (.string s)/\w'.cell? (Ad L 1)=some (Im p)) (go_keep) (fail);all_goals (go_wp2_with fail;go_meet;exact⟨rfl,rfl⟩)
 case rest=>
  obtain⟨rfl,rfl⟩:=hcut;go_wp2_with (go_at_call 165;refine(HS.out _).mono ?_;rintro e w1 ⟨rfl,rfl⟩);clear HS HR;go_loopw [7,8,9,10] (fun _ _ _ _ wr=>∃(k pp:Nat)(sl:Int)(ns:List Int),Si B w L s l vs vb vl cs s[p].toNat R wr k pp sl ns) (fun _ _ _ _ wr=>cs.length-wr.iterPos (w.heap.size+1+1))
  case atStart=>exact⟨0,p+1,l.aF,[],HA.out _⟩
  case round=>
   obtain⟨k,pp,sl,ns,hr⟩:=hrel;clear HA;by_cases hk:k<cs.length
   .have hkc:cs.drop k=cs[k]::cs.drop (k+1):=List.drop_eq_getElem_cons hk;have hk':k<(⟨cs.toArray⟩:ByteArray).size:=by simpa [ByteArray.size]using hk
    have hget:(⟨cs.toArray⟩:ByteArray)[k]'hk'=cs[k]:=rfl;have hnext:∀ty,(Instr.next (Pt (w.heap.size+1+1) 0) true ty).run prog wr=.ok (.tuple #[.bool true,Im k,.int .i32 (cs[k].toNat)]) (wr.iterAt (w.heap.size+1+1) ⟨cs.toArray⟩ (k+1)):=fun ty=>by
     have:=Lib.run_next_ascii_at (P:=prog) wr (w.heap.size+1+1) ⟨cs.toArray⟩ k ty hr.mid.iter hk' (by rw[hget];exact hsm.2 _ (List.getElem_mem hk));rw[this,hget]
    have hmu:wr.iterPos (w.heap.size+1+1)=k:=by simp[World.iterPos,hr.mid.iter]
    have hmid:=hr.mid.next;have heq:=hr.eq;rw[hkc,agH]at heq;have hlen:=hr.len;have hps:=hr.ps;clear hr;generalize cs[k]=c at *;generalize wr.iterAt (w.heap.size+1+1) ⟨cs.toArray⟩ (k+1)=W1 at *;obtain⟨b0,b1,b2⟩:=Hx.U8 s.data.toList pp (by simpa using hps);have oI:Hid (∀w,Calls prog 166 #[.string s,Im pp] w fun e w'=>e=.returned (.tuple #[Im (Hx.read s.data.toList pp).1,Im (Hx.read s.data.toList pp).2])/\w'=w):=fun w=>agI s pp w hs hps;generalize (Hx.read s.data.toList pp).1=n at *;generalize (Hx.read s.data.toList pp).2=z at *;obtain⟨z,rfl⟩:=Int.eq_ofNat_of_zero_le b1;have m0:=hmid.load.c0;have m1:=hmid.load.c1;simp only at m1;have r0:W1.cell? (Ad w.heap.size 0)=some (.int .u8 0):=aA hmid.out;have r1:W1.cell? (Ad w.heap.size 1)=some (Im 0):=aA hmid.out;have r2:W1.cell? (Ad w.heap.size 2)=some (Im 0):=aA hmid.out;have r3:W1.cell? (Ad w.heap.size 3)=some (Im 0):=aA hmid.out;have r4:W1.cell? (Ad w.heap.size 4)=some (Im 0):=aA hmid.out;have r5:W1.cell? (Ad w.heap.size 5)=some (Im 0):=aA hmid.out;have r6:W1.cell? (Ad w.heap.size 6)=some (Im 0):=aA hmid.out;have rf:∀j,W1.frozen? (Ad w.heap.size j)=false:=fun j=>eu hmid.out;have HM:Hid (oJ B w L s l vs vb vl cs s[p].toNat W1 (k+1) pp sl ns):=hmid;have HE:Hid (R=if ((z:Nat):Int)=0 then none else if zh c.toNat n=false then none else (rE s.data.toList (cs.drop (k+1)) (pp+((z:Nat):Int).toNat) (sJ c.toNat n sl)).map fun r=>(ns++[n]++r.1,r.2)):=heq;clear hmid heq;by_cases hz:z=0
    .subst hz;go_wp2_with fail;refine fC 13 (by kernel_rfl) (by kernel_rfl) ?_;simp only[List.take_succ_cons,List.take_zero,List.drop_succ_cons,List.drop_zero];repeat (go_big_quiet_step ((go_at_call 166;exact Calls.quiet_of_same (oI.out _))))
     refine wpQuiet_nil ?_;intro _ hw';obtain⟨k3,hw''⟩:=hw';subst hw'';go_wp2_with fail;have hno:R=none:=by rw[HE.out];simp
     refine bodyPost_ret (Qi _ _ w.heap.size 0 [] false rfl rfl (afy W1 w.heap.size 125 k3 HM.out.out)) rfl ?_;exact Gh.none ((((((((HM.out.aQ.set _ _).set _ _).set _ _).set _ _).set _ _).set _ _).set _ _).drewN _) hno
    .have dz:(((z:Nat):Int)==0)=false:=by simp;omega
     have HT:Hid (∀kk,Calls prog 167 #[Pt L 0,.int .i32 c.toNat,Im n] (W1.drewN kk) fun e w'=>e=.returned (.bool (zh c.toNat n))/\oJ B w L s l vs vb vl cs s[p].toNat w' (k+1) pp (sJ c.toNat n sl) ns):=fun kk=>by
      refine(aiH (HM.out.drewN kk).load c.toNat n).mono ?_;rintro e w' ⟨h1,h2,h3⟩;exact⟨h1,(HM.out.drewN kk).aiU h2 h3⟩
     clear r0 r1 r2 r3 r4 r5 r6 rf HM;rw[if_neg (by omega)]at HE;cases hok:zh c.toNat n with
     |false=>
      have hno:R=none:=by rw[HE.out,hok];rfl
      rw[hok]at HT;clear HE;go_wp2_with fail;refine fC 13 (by kernel_rfl) (by kernel_rfl) ?_;simp only[List.take_succ_cons,List.take_zero,List.drop_succ_cons,List.drop_zero];repeat (go_big_quiet_step ((go_at_call 166;exact Calls.quiet_of_same (oI.out _))))
      refine wpQuiet_nil ?_;intro _ hw';obtain⟨k3,hw''⟩:=hw';subst hw'';go_wp2_with fail;refine(HT.out _).mono ?_;rintro e w2 ⟨rfl,hm2⟩;have r0:w2.cell? (Ad w.heap.size 0)=some (.int .u8 0):=aA hm2.out;have r1:w2.cell? (Ad w.heap.size 1)=some (Im 0):=aA hm2.out;have r2:w2.cell? (Ad w.heap.size 2)=some (Im 0):=aA hm2.out;have r3:w2.cell? (Ad w.heap.size 3)=some (Im 0):=aA hm2.out;have r4:w2.cell? (Ad w.heap.size 4)=some (Im 0):=aA hm2.out;have r5:w2.cell? (Ad w.heap.size 5)=some (Im 0):=aA hm2.out;have r6:w2.cell? (Ad w.heap.size 6)=some (Im 0):=aA hm2.out;have rf:∀j,w2.frozen? (Ad w.heap.size j)=false:=fun j=>eu hm2.out;have HM:Hid (oJ B w L s l vs vb vl cs s[p].toNat w2 (k+1) pp (sJ c.toNat n sl) ns):=hm2;clear hm2;go_wp2_with fail;refine bodyPost_ret (Qi _ _ w.heap.size 0 [] false rfl rfl (WE w2 w.heap.size 125 HM.out.out)) rfl ?_;exact Gh.none (((((((HM.out.aQ.set _ _).set _ _).set _ _).set _ _).set _ _).set _ _).set _ _) hno
     |true=>
      have HE2:Hid (R=(rE s.data.toList (cs.drop (k+1)) (pp+z) (sJ c.toNat n sl)).map fun r=>(ns++[n]++r.1,r.2)):=by
       show _=_;rw[HE.out,hok];simp
      rw[hok]at HT;clear HE;have i4:(k:Int)<4:=by omega
      have i5:(0:Int)<=(k:Int):=by omega
      obtain⟨y,hy⟩:∃y:Nat,pp+z=y:=⟨_,rfl⟩;have U1:(pp:Int)+(z:Int)=(y:Int):=by omega
      have hlen':s.data.toList.length=s.size:=by simp
      have hys:y<=s.size:=by omega
      rw[hy]at HE2;clear hy;go_wp2_with fail;refine fC 13 (by kernel_rfl) (by kernel_rfl) ?_;simp only[List.take_succ_cons,List.take_zero,List.drop_succ_cons,List.drop_zero];repeat (go_big_quiet_step ((go_at_call 166;exact Calls.quiet_of_same (oI.out _))))
      refine wpQuiet_nil ?_;intro _ hw';obtain⟨k3,hw''⟩:=hw';subst hw'';go_wp2_with fail;refine(HT.out _).mono ?_;rintro e w2 ⟨rfl,hm2⟩;have bx:w2.cell? (Ad (w.heap.size+1) (1+k))=(pI s[p].toNat ns)[1+k]? :=aA hm2.box;have bf:∀j,w2.frozen? (Ad (w.heap.size+1) j)=false:=fun j=>eu hm2.box;have m1:=hm2.load.c1;have mf:=hm2.load.fr 1;simp only at m1;have HP:Hid (oJ B w L s l vs vb vl cs s[p].toNat ((w2.setCell (Ad (w.heap.size+1) (1+ns.length)) (Im n)).setCell (Ad L 1) (Im y)) (k+1) y (sJ c.toNat n sl) (ns++[n])):=hm2.store n (by omega) y;rw[hlen]at HP;obtain⟨bv,hbv⟩:∃bv,(pI s[p].toNat ns)[1+k]? =some bv:=⟨_,Array.getElem?_eq_getElem (show 1+k<(pI s[p].toNat ns).size from by show 1+k<7;omega)⟩;rw[hbv]at bx;clear hm2 hbv;go_wp2_with fail;refine⟨⟨k+1,y,sJ c.toNat n sl,ns++[n],HP.out,by simp[hlen],by omega,hys,HE2.out⟩,?_⟩;have hmu2:((w2.setCell (Ad (w.heap.size+1) (1+k)) (Im n)).setCell (Ad L 1) (Im y)).iterPos (w.heap.size+1+1)=k+1:=by
       unfold World.iterPos;rw[HP.out.iter]
      rw[hmu,hmu2];omega
   .have hkl:=hr.kl;have hk':¬k<(⟨cs.toArray⟩:ByteArray).size:=by simpa [ByteArray.size]using hk
    have hnext:∀ty,(Instr.next (Pt (w.heap.size+1+1) 0) true ty).run prog wr=.ok (.tuple #[.bool false]) wr:=fun ty=>Lib.run_next_end_at (P:=prog) wr (w.heap.size+1+1) ⟨cs.toArray⟩ k ty hr.mid.iter hk';have hR:R=some (ns,pp,sl):=by
     rw[hr.eq,List.drop_of_length_le (by omega)];simp[rE]
    have hmid:=hr.mid;have r0:wr.cell? (Ad w.heap.size 0)=some (.int .u8 0):=aA hmid.out;have r1:wr.cell? (Ad w.heap.size 1)=some (Im 0):=aA hmid.out;have r2:wr.cell? (Ad w.heap.size 2)=some (Im 0):=aA hmid.out;have r3:wr.cell? (Ad w.heap.size 3)=some (Im 0):=aA hmid.out;have r4:wr.cell? (Ad w.heap.size 4)=some (Im 0):=aA hmid.out;have r5:wr.cell? (Ad w.heap.size 5)=some (Im 0):=aA hmid.out;have r6:wr.cell? (Ad w.heap.size 6)=some (Im 0):=aA hmid.out;have rf:∀j,wr.frozen? (Ad w.heap.size j)=false:=fun j=>eu hmid.out;have q0:wr.cell? (Ad (w.heap.size+1) 0)=some (.int .u8 s[p].toNat):=aA hmid.box;have q1:wr.cell? (Ad (w.heap.size+1) 1)=some (Im (ns.getD 0 0)):=aA hmid.box;have q2:wr.cell? (Ad (w.heap.size+1) 2)=some (Im (ns.getD 1 0)):=aA hmid.box;have q3:wr.cell? (Ad (w.heap.size+1) 3)=some (Im (ns.getD 2 0)):=aA hmid.box;have q4:wr.cell? (Ad (w.heap.size+1) 4)=some (Im (ns.getD 3 0)):=aA hmid.box;have q5:wr.cell? (Ad (w.heap.size+1) 5)=some (Im 0):=aA hmid.box;have q6:wr.cell? (Ad (w.heap.size+1) 6)=some (Im 0):=aA hmid.box;have HM:Hid (oJ B w L s l vs vb vl cs s[p].toNat wr k pp sl ns):=hmid;clear hmid hr;go_wp2_with fail;refine bodyPost_ret (Qi _ _ w.heap.size s[p].toNat ns ok rfl rfl (afx wr w.heap.size 125 s[p].toNat ns HM.out.out)) rfl ?_;have ho:=(((((((HM.out.aQ.set 0 (.int .u8 s[p].toNat)).set 1 (Im (ns.getD 0 0))).set 2 (Im (ns.getD 1 0))).set 3 (Im (ns.getD 2 0))).set 4 (Im (ns.getD 3 0))).set 5 (Im 0)).set 6 (Im 0));exact⟨_,ho.1,ho.2.1,Or.inl ⟨ns,pp,sl,hR,rfl,rfl⟩⟩
end
end
section
open Go
section
def RU(J:Nat->Act->World->Prop)(Q:Exit->Act->World->Prop):Exit->Act->World->Prop
 | .goto l,a,w=>J l a w
 |e,a,w=>Q e a w
variable {P:Program}{a:Act}{w:World}{Q:Exit->Act->World->Prop}
theorem ajD{c:Code}(rest:Nat->Code)(J:Nat->Act->World->Prop)(μ:Nat->Act->World->Nat)(hf:∀l a w,J l a w->findLabel c l=some (rest l))
 (first:c.wp P (RU J Q) a w)
 (pass:∀l a w,J l a w->(rest l).wp P (RU (fun l' a' w'=>J l' a' w'/\μ l' a' w'<μ l a w) Q) a w):(Code.scope c).wp P Q a w:=by
 intro b k cs;have hg:∀l a w,J l a w->gotoIn l (.inScope c::k)=some (.code (rest l)::.inScope c::k):=fun l a w h=>by simp[gotoIn,hf l a w h]
 have key:∀n l a w,μ l a w=n->J l a w->∃e a' w',Q e a' w'/\Arrives P (lone (b.at a (.code (rest l)::.inScope c::k)) cs w) b k cs e a' w':=by
  intro n;induction n using Nat.strongRecOn with
  |_ n ih=>
   intro l a w hn hJ;obtain⟨e,a1,w1,hq,harr⟩:=pass l a w hJ b (.inScope c::k) cs;cases e with
   |normal=>exact⟨.normal,a1,w1,hq,Steps.trans harr (.one step_inScope)⟩
   |exit id=>exact⟨.exit id,a1,w1,hq,fun k' hk=>harr k' (by simp[exitTo,hk])⟩
   |goto l'=>
    obtain⟨hJ',hlt⟩:=hq;obtain⟨e2,a2,w2,hq2,Oj⟩:=ih _ (by omega) l' a1 w1 rfl hJ';exact⟨e2,a2,w2,hq2,.of_steps (harr _ (hg l' a1 w1 hJ')) Oj⟩
   |ret=>exact⟨_,a1,w1,hq,harr⟩
   |panic ch=>exact⟨_,a1,w1,hq,harr⟩
   |outgrown=>exact⟨_,a1,w1,hq,harr⟩
 obtain⟨e,a1,w1,hq,harr⟩:=first b (.inScope c::k) cs
 cases e with
 |normal=>exact⟨.normal,a1,w1,hq,.head step_scope (Steps.trans harr (.one step_inScope))⟩
 |exit id=>exact⟨.exit id,a1,w1,hq,fun k' hk=>.head step_scope (harr k' (by simp[exitTo,hk]))⟩
 |goto l'=>
  obtain⟨e2,a2,w2,hq2,Oj⟩:=key _ l' a1 w1 rfl hq;exact⟨e2,a2,w2,hq2,.of_steps (.head step_scope (harr _ (hg l' a1 w1 hq))) Oj⟩
 |ret=>exact⟨_,a1,w1,hq,.of_steps (.one step_scope) harr⟩
 |panic ch=>exact⟨_,a1,w1,hq,.of_steps (.one step_scope) harr⟩
 |outgrown=>exact⟨_,a1,w1,hq,.of_steps (.one step_scope) harr⟩
end
end
section
open Go.RowKit
open Hx (Rd Pk Vw St Mc aZ)
section
variable {B C:Nat}{w:World}{M SB:Nat}{v:Vw}{m:Mc}
theorem Xa(hm:cu B C w M SB v m)(i j:Int)(hj:j<=9223372036854775807)(hl:m.aY.length<=256):
 Calls prog 54 #[Pt M 0,Im i,Im j] w fun e w'=>e=.returned (.bool (Hx.push v i j m).isSome)/\(∀m',Hx.push v i j m=some m'->cu B C w' M SB v m')/\Below B w w':=by
 cases hr:v.aK i with
 |none=>
  refine(Xb hm i j hj (Or.inl hr)).mono ?_;rintro e w' ⟨rfl,rfl⟩;have e1:Hx.push v i j m=some m:=by simp[Hx.push,hr]
  rw[e1];exact⟨rfl,fun m' h=>by cases h;exact hm,Below.refl _ _⟩
 |some r=>
  cases hp:v.pW j with
  |none=>
   refine(Xb hm i j hj (Or.inr hp)).mono ?_;rintro e w' ⟨rfl,rfl⟩;have e1:Hx.push v i j m=some m:=by simp[Hx.push,hr,hp]
   rw[e1];exact⟨rfl,fun m' h=>by cases h;exact hm,Below.refl _ _⟩
  |some p=>
   by_cases hf:m.aY.length=256
   .refine(af0 hm i j r p hj hr hp hf).mono ?_;rintro e w' ⟨rfl,rfl⟩;have e1:Hx.push v i j m=none:=by simp[Hx.push,hr,hp,hf]
    rw[e1];exact⟨rfl,fun m' h=>(by cases h),Below.refl _ _⟩
   .refine(af2 hm i j r p hj hr hp (by omega)).mono ?_;rintro e w' ⟨rfl,h1,h2⟩;have e1:Hx.push v i j m=some {m with aY:=m.aY++[(r.id,p.seq)]}:=by simp[Hx.push,hr,hp,hf]
    rw[e1];exact⟨rfl,fun m' h=>(by cases h;exact h1),h2⟩
def qV(status:Int)(va:Value)(bG:List Int):Value:=
 .agg #[.int .u8 status,va,Im (bG.getD 0 0),Im (bG.getD 1 0),Im (bG.getD 2 0),Im (bG.getD 3 0),Im (bG.getD 4 0),Im (bG.getD 5 0),Im (bG.getD 6 0),Im (bG.getD 7 0)]
theorem ahJ(w:World)(n:Nat)(x:Addr)(u:Value):(w.drewN n).setCell x u=(w.setCell x u).drewN n:=rfl
attribute [local go_sem] ahJ
theorem run_arrayAt(P:Program)(t n:Nat)(e:TypeId)(h:P.underlying t=some (.array n e))(a:Option Addr)(len cap:Nat)(hl:n<=len)(w:World):
 (Instr.arrayAt t (.slice a len cap)).run P w=.ok (.pointer a) w:=by
 have hl':¬len<n:=by omega
 simp[Instr.arrayAt,go_sem,run_underlying h,hl']
theorem aa7(hm:cu B C w M SB v m)(h8:8<=m.aF.length):
 Calls prog 51 #[Pt M 0] w fun e w'=>∃va,e=.returned (qV 0 va m.aF)/\w'.ownsRow C 76 2 va m.aY.length (kZ m.aY)/\Below B w w':=by
 obtain⟨va,hva,hown⟩:=hm.aY;have h0:=hm.size;have h1:=hm.cS;have h2:=hm.cM;have h3:=hm.bM;have HO:Hid (∀(o:Obj)(n:Nat),((w.alloc o).drewN n).ownsRow C 76 2 va m.aY.length (kZ m.aY)/\Below B w ((w.alloc o).drewN n)):=fun o n=>
  ⟨(hown.alloc o).kept (w':=(w.alloc o).drewN n) (row:=none) ⟨rfl,rfl,rfl,Nat.le_refl _,fun _ _ _=>rfl⟩ (by cases va.ownBlock<;>simp),below_drewN ((Below.refl _ _).alloc (by omega) o) n⟩
 obtain⟨aa,cap,hval⟩:∃aa cap,va=.slice aa m.aY.length cap:=by
  obtain⟨h1,h2⟩:=hown;rcases h2 with⟨h3,h4⟩|⟨g,cap,cur,h3,h4⟩
  .exact⟨none,0,by rw[h3,h4]⟩
  .exact⟨_,_,h3⟩
 subst hval;have hs:=hm.aF;have c0:=hm.slot 0 (by omega);have c1:=hm.slot 1 (by omega);have c2:=hm.slot 2 (by omega);have c3:=hm.slot 3 (by omega);have c4:=hm.slot 4 (by omega);have c5:=hm.slot 5 (by omega);have c6:=hm.slot 6 (by omega);have c7:=hm.slot 7 (by omega);have n1:¬SB=w.heap.size:=by omega
 have n2:¬M=w.heap.size:=by omega
 have Ba:SB<w.heap.size:=by omega
 have hM:M<w.heap.size:=by omega
 have h8':(8:Int)<=(m.aF.length:Int):=by omega
 unfold qV;clear hm h0 h1 h2 h3 hown;generalize kZ m.aY=cells at *;generalize m.aY.length=na at *;generalize m.aF.getD 0 0=x0 at *;generalize m.aF.getD 1 0=x1 at *;generalize m.aF.getD 2 0=x2 at *;generalize m.aF.getD 3 0=x3 at *;generalize m.aF.getD 4 0=x4 at *;generalize m.aF.getD 5 0=x5 at *;generalize m.aF.getD 6 0=x6 at *;generalize m.aF.getD 7 0=x7 at *;generalize m.aF.length=len at *;have ka:=fun(w:World)=>run_arrayAt prog 26 8 3 Tryz.underlying26 (some (Ad SB 0)) len len (by omega) w;go_enter func51,ntmps51;go_wp2_with fail;refine fC 11 (by kernel_rfl) (by kernel_rfl) ?_;simp only[List.take_succ_cons,List.take_zero,List.drop_succ_cons,List.drop_zero];repeat (go_big_quiet_step (fail))
 refine wpQuiet_nil ?_;intro _ hw';obtain⟨n3,hw''⟩:=hw';subst hw'';go_wp2;exact bodyPost_ret (v:=.agg #[.int .u8 0,.slice aa na cap,Im x0,Im x1,Im x2,Im x3,Im x4,Im x5,Im x6,Im x7]) (by simp[results,Tryz.results51,go_sem]) rfl ⟨_,rfl,HO.out _ _⟩
end
section
variable {B C:Nat}{w:World}{M SB:Nat}{v:Vw}{m:Mc}
theorem aas(hm:cu B C w M SB v m)(b o:Nat)(q l x:Int)(c:Nat)(d:Int)(dp:Nat)(t:Int)(hst:uD w b o ⟨q,l,x,c,d,dp,t⟩)(hc:c<m.aF.length)(hd:dp<8):
 Calls prog 52 #[Pt M 0,Pt b o] w fun e w'=>e=.returned (.tuple #[])/\cu B C w' M SB v (Hx.qp v ⟨q,l,x,c,d,dp,t⟩ m)/\Below B w w':=by
 have HP:Hid (∀n,cu B C ((w.drewN n).setCell (Ad M (4+dp)) (.int .u64 (Hx.ug (bits .and .i64 (m.aF.getD c 0) (v.all l))))) M SB v (Hx.qp v ⟨q,l,x,c,d,dp,t⟩ m)/\
  Below B w ((w.drewN n).setCell (Ad M (4+dp)) (.int .u64 (Hx.ug (bits .and .i64 (m.aF.getD c 0) (v.all l)))))):=fun n=>by
  refine⟨?_,(below_drewN (Below.refl _ _) n).setCell (p:=(Ad M (4+dp))) hm.bM _⟩;have:=(hm.drewN n).pX hd (Hx.I4 (bits .and .i64 (m.aF.getD c 0) (v.all l)));simpa [Hx.qp,Hx.Mc.get]using this
 have HV:Hid (∀n,vJ B (w.drewN n) M v):=fun n=>(hm.drewN n).view;have hs:=hm.aF;have cc:=hm.slot c hc;have cl:=hm.left dp hd;have fl:=hm.EN dp hd;obtain⟨s0,s1,s2,s3,s4,s5,s6⟩:=hst;simp only at s0 s1 s2 s3 s4 s5;clear hm s6 s4 s2 s0;generalize Hx.qp v ⟨q,l,x,c,d,dp,t⟩ m=m' at HP⊢;generalize m.aF.getD c 0=xc at *;generalize m.left.getD dp 0=xl at *;generalize hy:Hx.ug (bits .and .i64 xc (v.all l))=y at HP;have HY:Hid (IntKind.u64.wrap (bits .and .i64 xc (v.all l))=y):=hy;clear hy;generalize m.aF.length=len at *;have i3:(0:Int)<=(c:Int):=by omega
 have j3:(c:Int)<(len:Int):=by omega
 have i4:(0:Int)<=(dp:Int):=by omega
 have j4:(dp:Int)<8:=by omega
 go_enter func52,ntmps52;go_wp2_with fail;go_quiet (fail);go_wp2_with fail;refine xR 14 (by kernel_rfl) (by kernel_rfl) ?_;simp only[List.take_succ_cons,List.take_zero,List.drop_succ_cons,List.drop_zero];repeat (go_big_quiet_step ((go_at_call 95;exact Calls.quiet_of_same (Sv B M l v _ (HV.out _)))))
 refine wpQuiet_nil ?_;intro _ hw';obtain⟨n2,hw''⟩:=hw';subst hw'';rw[HY.out];go_wp2;go_end0;exact⟨rfl,HP.out _⟩
theorem ai2(hm:cu B C w M SB v m)(b o n cap:Nat)(k:Nat)(q l x c d:Int)(dp:Nat)(t:Int)(hk:k<n)(hst:uD w b (o+k * 7) ⟨q,l,x,c,d,dp,t⟩)(hd:dp<8)(hz:m.left.getD dp 0=0):
 Calls prog 53 #[Pt M 0,.slice (some (Ad b o)) n cap,Im k] w fun e w'=>e=.returned (Im t)/\cu B C w' M SB v m/\Below B w w':=by
 have HP:Hid (∀n,cu B C (w.drewN n) M SB v m/\Below B w (w.drewN n)):=fun n=>⟨hm.drewN n,below_drewN (Below.refl _ _) n⟩;have cl:=hm.left dp hd;rw[hz]at cl;obtain⟨s0,s1,s2,s3,s4,s5,s6⟩:=hst;simp only at s0 s1 s2 s3 s4 s5 s6;clear hm s4 s2 s0 s3 s1 hz;have i4:(0:Int)<=(dp:Int):=by omega
 have j4:(dp:Int)<8:=by omega
 have i5:(0:Int)<=(k:Int):=by omega
 have j5:(k:Int)<(n:Int):=by omega
 go_enter func53,ntmps53;go_wp2_with fail;go_quiet (fail);go_wp2_with fail;go_ret;exact⟨rfl,HP.out _⟩
theorem ai1(hm:cu B C w M SB v m)(b o n cap:Nat)(k:Nat)(q l:Int)(x:Nat)(c d:Int)(dp:Nat)(t:Int)(hb:b<B)(hk:k<n)(hn:n<=1000000)(hst:uD w b (o+k * 7) ⟨q,l,x,c,d,dp,t⟩)(hx:x<m.aF.length)(hd:dp<8)(hz:¬m.left.getD dp 0=0):
 Calls prog 53 #[Pt M 0,.slice (some (Ad b o)) n cap,Im k] w fun e w'=>e=.returned (Im (k+1))/\
  cu B C w' M SB v ((m.put x (Hx.tz (m.left.getD dp 0))).pX dp (bits .and .u64 (m.left.getD dp 0) (IntKind.u64.wrap (m.left.getD dp 0-1))))/\Below B w w':=by
 have htz:=Hx.QO _ (hm.CZ dp).1 (hm.CZ dp).2
 have HP:Hid (∀n1 n2,cu B C ((((w.drewN n1).setCell (Ad SB x) (Im (Hx.tz (m.left.getD dp 0)))).drewN n2).setCell (Ad M (4+dp)) (.int .u64 (bits .and .u64 (m.left.getD dp 0) (IntKind.u64.wrap (m.left.getD dp 0-1))))) M SB v
       ((m.put x (Hx.tz (m.left.getD dp 0))).pX dp (bits .and .u64 (m.left.getD dp 0) (IntKind.u64.wrap (m.left.getD dp 0-1))))/\
  Below B w ((((w.drewN n1).setCell (Ad SB x) (Im (Hx.tz (m.left.getD dp 0)))).drewN n2).setCell (Ad M (4+dp)) (.int .u64 (bits .and .u64 (m.left.getD dp 0) (IntKind.u64.wrap (m.left.getD dp 0-1)))))):=fun n1 n2=>by
  refine⟨?_,(below_drewN ((below_drewN (Below.refl _ _) n1).setCell (p:=(Ad SB x)) hm.bS _) n2).setCell (p:=(Ad M (4+dp))) hm.bM _⟩;refine(((hm.drewN n1).put hx ?_).drewN n2).pX hd ?_
  .exact⟨by omega,by omega⟩
  .exact⟨bits_lo_u64 _ _ _,by have:=bits_hi_u64 .and (m.left.getD dp 0) (IntKind.u64.wrap (m.left.getD dp 0-1));omega⟩
 have HT:Hid (∀n,mZ (w.drewN n)):=fun n=>(hm.drewN n).aU;have hs:=hm.aF;have cx:=hm.slot x hx;have fx:=hm.xK x hx;have cl:=hm.left dp hd;have fl:=hm.EN dp hd;have ne1:¬SB=M:=fun e=>hm.ne e.symm;have ne2:¬b=SB:=by have:=hm.bS;omega
 have ne3:¬SB=b:=fun e=>ne2 e.symm;have il:=hm.CZ dp;obtain⟨s0,s1,s2,s3,s4,s5,s6⟩:=hst;simp only at s0 s1 s2 s3 s4 s5 s6;clear hm s4 s0 s3 s1 s6 htz;generalize ((m.put x (Hx.tz (m.left.getD dp 0))).pX dp (bits .and .u64 (m.left.getD dp 0) (IntKind.u64.wrap (m.left.getD dp 0-1))))=m' at HP⊢;generalize m.left.getD dp 0=xl at *;generalize m.aF.getD x 0=xx at *;obtain⟨il0,U4⟩:=il;have hz':(xl==0)=false:=by simpa using hz
 have HL:Hid (0<=xl/\xl<18446744073709551616):=⟨il0,U4⟩;clear hz U4;generalize m.aF.length=len at *;have i3:(0:Int)<=(x:Int):=by omega
 have j3:(x:Int)<(len:Int):=by omega
 have i4:(0:Int)<=(dp:Int):=by omega
 have j4:(dp:Int)<8:=by omega
 have i5:(0:Int)<=(k:Int):=by omega
 have j5:(k:Int)<(n:Int):=by omega
 go_enter func53,ntmps53;go_wp2_with fail;go_quiet (fail);go_wp2_with fail;refine xR 12 (by kernel_rfl) (by kernel_rfl) ?_;simp only[List.take_succ_cons,List.take_zero,List.drop_succ_cons,List.drop_zero];repeat (go_big_quiet_step ((go_at_call 96;exact Calls.quiet_of_same (YB xl HL.out.1 HL.out.2 _ (HT.out _)))))
 refine wpQuiet_nil ?_;intro _ hw';obtain⟨n2,hw''⟩:=hw';subst hw'';go_wp2_with fail;refine fC 12 (by kernel_rfl) (by kernel_rfl) ?_;simp only[List.take_succ_cons,List.take_zero,List.drop_succ_cons,List.drop_zero];repeat (go_big_quiet_step (fail))
 refine wpQuiet_nil ?_;intro _ hw';obtain⟨n3,hw''⟩:=hw';subst hw'';go_wp2;go_ret;exact⟨rfl,HP.out _ _⟩
theorem QN(hm:cu B C w M SB v m)(b o n cap:Nat)(k:Nat)(s:St)(hb:b<B)(hk:k<n)(hn:n<=1000000)(hst:uD w b (o+k * 7) s)(hx:St.slot m.aF.length s.b)(hd:0<=s.depth/\s.depth<8):
 Calls prog 53 #[Pt M 0,.slice (some (Ad b o)) n cap,Im k] w fun e w'=>e=.returned (Im (Hx.turn s k m).2)/\cu B C w' M SB v (Hx.turn s k m).1/\Below B w w':=by
 obtain⟨q,a,x,c,d,dp,t⟩:=s;obtain⟨hx0,hx⟩:=hx;simp only at hx0 hx hd;obtain⟨x,rfl⟩:=Int.eq_ofNat_of_zero_le hx0;obtain⟨dp,rfl⟩:=Int.eq_ofNat_of_zero_le hd.1;by_cases hz:m.left.getD dp 0=0
 .refine(ai2 hm b o n cap k q a x c d dp t hk hst (by omega) hz).mono ?_;rintro e w' ⟨rfl,h2,h3⟩;have e1:Hx.turn ⟨q,a,x,c,d,dp,t⟩ k m=(m,t):=by
   unfold Hx.turn;rw[if_pos];simpa [Hx.Mc.zZ]using hz
  rw[e1];exact⟨rfl,h2,h3⟩
 .refine(ai1 hm b o n cap k q a x c d dp t hb hk hn hst (by omega) (by omega) hz).mono ?_;rintro e w' ⟨rfl,h2,h3⟩;have e1:Hx.turn ⟨q,a,x,c,d,dp,t⟩ k m=((m.put x (Hx.tz (m.left.getD dp 0))).pX dp (bits .and .u64 (m.left.getD dp 0) (IntKind.u64.wrap (m.left.getD dp 0-1))),(k:Int)+1):=by
   unfold Hx.turn;rw[if_neg]
   .simp[Hx.Mc.zZ]
   .simpa [Hx.Mc.zZ]using hz
  rw[e1];exact⟨rfl,h2,h3⟩
end
end
end Go.Proofs.YthllhabjfchgiaaGreatDoor
