import Derived.Test.YthllhabjfchgiaaGreatDoorHz25
set_option maxRecDepth 100000
set_option maxHeartbeats 8000000
namespace Go.Proofs.YthllhabjfchgiaaGreatDoor
open _root_.Go.Proofs.Tryz
section
open Go.RowKit Hx
attribute [local go_sem ↓] Go.wp_at_zero Go.wp_at_succ
attribute [local go_sem] bT
section
variable {w w' w2 wy:World}{C lo hi lo' hi':Nat}{c:Ck}{v:Value}
def rowOf(w:World)(C:Nat):Option Nat:=match w.cell? (Ad C 0)with|some v=>v.ownBlock|none=>none
theorem Qo(h:w'.heap[C]? =w.heap[C]?):rowOf w' C=rowOf w C:=by
 unfold rowOf;rw[World.cell?_of_block (a:=(Ad C 0)) h]
structure Lk(w w':World)(lo hi C:Nat):Prop where
 os:w'.os=w.os
 tape:w'.tape=w.tape
 output:w'.output=w.output
 size:w.heap.size<=w'.heap.size
 aN:∀k,k<C->k<lo\/hi<=k->w'.heap[k]? =w.heap[k]?
 lK:∀k,C<k->k<w.heap.size->some k≠rowOf w C->w'.heap[k]? =w.heap[k]?
 row:∀g,rowOf w' C=some g->rowOf w C=some g\/w.heap.size<=g
theorem Lk.refl(w:World)(lo hi C:Nat):Lk w w lo hi C:=⟨rfl,rfl,rfl,Nat.le_refl _,fun _ _ _=>rfl,fun _ _ _ _=>rfl,fun _ h=>Or.inl h⟩
theorem Lk.trans(h:Lk w w' lo hi C)(k:Lk w' w2 lo hi C):Lk w w2 lo hi C:=by
 have s1:=h.size;have s2:=k.size;refine⟨k.os.trans h.os,k.tape.trans h.tape,k.output.trans h.output,Nat.le_trans h.size k.size,fun b b1 b2=>(k.aN b b1 b2).trans (h.aN b b1 b2),fun b b1 b2 b3=>(k.lK b b1 (by omega) (fun e=>?_)).trans (h.lK b b1 b2 b3),fun g hg=>?_⟩
 .rcases h.row b e.symm with e2|e2
  .exact b3 e2.symm
  .omega
 .rcases k.row g hg with e|e
  .exact h.row g e
  .exact Or.inr (by omega)
theorem Lk.wide(h:Lk w w' lo hi C)(h1:lo'<=lo)(h2:hi<=hi'):Lk w w' lo' hi' C:=
 ⟨h.os,h.tape,h.output,h.size,fun b b1 b2=>h.aN b b1 (by omega),h.lK,h.row⟩
theorem Lk.all(h:Lk w w' 0 0 C)(lo hi:Nat):Lk w w' lo hi C:=⟨h.os,h.tape,h.output,h.size,fun b b1 _=>h.aN b b1 (Or.inr (Nat.zero_le _)),h.lK,h.row⟩
theorem Lk.grown(h:w.grownBy w' none)(hC:C<w.heap.size):Lk w w' 0 0 C:=
 ⟨h.os,h.tape,h.output,h.size,fun b b1 _=>h.block b (by omega) (by simp),fun b _ b2 _=>h.block b b2 (by simp),fun g hg=>Or.inl (by rw[<-Qo (h.block C hC (by simp))];exact hg)⟩
theorem Lk.tree{b:Nat}(h:w.grownBy w' (some b))(hC:C<w.heap.size)(h1:lo<=b)(h2:b<hi)(h3:b<C):Lk w w' lo hi C:=
 ⟨h.os,h.tape,h.output,h.size,fun k b1 b2=>h.block k (by omega) (by simp;omega),fun k k1 k2 _=>h.block k k2 (by simp;omega),fun g hg=>Or.inl (by rw[<-Qo (h.block C hC (by simp;omega))];exact hg)⟩
theorem Lk.fault(w:World)(j:Nat)(u:Value)(lo hi C:Nat):Lk w (w.setCell (Ad C (j+1)) u) lo hi C:=
 ⟨rfl,rfl,rfl,by simp,fun b b1 _=>Below.heap_setCell _ _ _ _ (by show b≠C;omega),fun b b1 _ _=>Below.heap_setCell _ _ _ _ (by show b≠C;omega),fun g hg=>Or.inl (by
   unfold rowOf at hg⊢
   rwa [World.cell?_setCell_other _ _ _ _ (by simp)]at hg)⟩
theorem Lk.named{u v:Value}(h:w.grownBy w' v.ownBlock)(hC:C<w.heap.size)(hv:w.cell? (Ad C 0)=some v)(hv2:∀k,v.ownBlock=some k->C<k)(hu:∀k,u.ownBlock=some k->v.ownBlock=some k\/w.heap.size<=k):Lk w (w'.setCell (Ad C 0) u) 0 0 C:=by
 have hr:rowOf w C=v.ownBlock:=by unfold rowOf;rw[hv]
 have hb:w'.heap[C]? =w.heap[C]? :=h.block C hC (fun e=>by have:=hv2 C e.symm;omega);have hr2:rowOf (w'.setCell (Ad C 0) u) C=u.ownBlock:=by
  unfold rowOf;rw[World.cell?_setCell_same _ _ _ ((World.cell?_of_block hb).trans hv)]
 refine⟨h.os,h.tape,h.output,by simpa using h.size,fun b b1 _=>?_,fun b b1 b2 b3=>?_,fun g hg=>?_⟩
 .rw[Below.heap_setCell _ _ _ _ (by show b≠C;omega)];exact h.block b (by omega) (fun e=>by have:=hv2 b e.symm;omega)
 .rw[Below.heap_setCell _ _ _ _ (by show b≠C;omega)];exact h.block b b2 (by rw[hr]at b3;exact b3)
 .rw[hr2]at hg;rw[hr];exact hu g hg
theorem Lk.cell(h:Lk w w' lo hi C){b j:Nat}(hb:b<C)(h2:b<lo\/hi<=b):w'.cell? (Ad b j)=w.cell? (Ad b j):=World.cell?_of_block (h.aN b hb h2)
theorem Hx.Lawful.lk{E:rM}(hE:Lawful E){l m:Nat}{u:Value}(h:E w l m u)(k:Lk w w' lo hi C)(hm:m<=C)(hd:m<=lo\/hi<=l):E w' l m u:=
 hE.loc _ _ _ _ _ h fun b b1 b2=>k.aN b (by omega) (by omega)
def oz(ns:List Kn):List Value:=ns.flatMap fun k=>[.string k.name,Im k.kind,.bool k.isVar]
def Ph(k:Kn):Value:=.agg #[.string k.name,Im k.kind,.bool k.isVar]
theorem Vr:∀(ns:List Kn)(i:Nat)(k:Kn),ns[i]? =some k->(oz ns)[i * 3]? =some (.string k.name)/\(oz ns)[i * 3+1]? =some (Im k.kind)/\(oz ns)[i * 3+2]? =some (.bool k.isVar)
 |[],i,k,h=>by simp at h
 |k0::ns,0,k,h=>by
  simp only[List.getElem?_cons_zero,Option.some.injEq]at h;subst h;exact⟨rfl,rfl,rfl⟩
 |k0::ns,i+1,k,h=>by
  have ih:=Vr ns i k (by simpa using h);have e:∀j,(oz (k0::ns))[j+3]? =(oz ns)[j]? :=fun j=>by simp[oz]
  have e1:(i+1) * 3=i * 3+3:=by omega
  rw[e1];exact⟨(e _).trans ih.1,(e (i * 3+1)).trans ih.2.1,(e (i * 3+2)).trans ih.2.2⟩
theorem adC(ns:List Kn)(n:Nat):(oz ns).take (n * 3)=oz (ns.take n):=by
 induction ns generalizing n with
 |nil=>simp[oz]
 |cons k ns ih=>
  cases n with
  |zero=>simp[oz]
  |succ n=>
   have:=ih n;have e:(n+1) * 3=n * 3+1+1+1:=by omega
   rw[e];simp only[oz,List.flatMap_cons,List.cons_append,List.nil_append,List.take_succ_cons]at this⊢;rw[this]
structure og(w:World)(C:Nat)(v:Value)(c:Ck):Prop where
 aW:w.heap[C]? =some (.cells #[v,Im c.en,Im c.ea] 188)
 row:w.ownsRow (C+1) 446 3 v c.au.length (oz c.au)
def bU(w:World)(C:Nat)(c:Ck):Prop:=∃v,og w C v c
theorem fJ{B n k:Nat}{T:TypeId}{us:List Value}(h:w.ownsRow B T k v n us):∃a cap,v=.slice a n cap:=by
 rcases h with⟨_,⟨h2,h3⟩|⟨g,cap,cur,h2,_⟩⟩
 .subst h3;exact⟨_,_,h2⟩
 .exact⟨_,_,h2⟩
theorem WJ{B n k:Nat}{T:TypeId}{us:List Value}{a:Option Addr}{l cap:Nat}(h:w.ownsRow B T k (.slice a l cap) n us){j:Nat}{u:Value}(hj:us[j]? =some u):
 ∃g,a=some (Ad g 0)/\B<=g/\g<w.heap.size/\∀j u,us[j]? =some u->w.cell? (Ad g j)=some u:=by
 rcases h with⟨h1,⟨h2,h3⟩|⟨g,cap',cur,h2,h3,h4,h5,h6,h7,h8⟩⟩
 .subst h3;have:us=[]:=by simpa using h1
  rw[this]at hj;simp at hj
 .cases h2;refine⟨g,rfl,h3,dS h4,fun j u hj=>?_⟩;rw[aA h4];rw[<-h8,List.getElem?_take]at hj;split at hj
  .simpa using hj
  .cases hj
theorem og.lt(h:og w C v c):C<w.heap.size:=dS h.aW
theorem bU.lt(h:bU w C c):C<w.heap.size:=h.elim fun _ h=>h.lt
theorem og.ne(h:og w C v c):v.ownBlock≠some C:=fun e=>by have:=(h.row.lt C e).1;omega
theorem og.grow(h:og w C v c)(hg:w.grownBy w' none):og w' C v c:=⟨(hg.block C h.lt (by simp)).trans h.aW,h.row.kept hg (by cases v.ownBlock<;>simp)⟩
theorem bU.grow(h:bU w C c)(hg:w.grownBy w' none):bU w' C c:=h.elim fun v h=>⟨v,h.grow hg⟩
theorem og.below(h:og w C v c){b:Nat}(hb:b<C)(hg:w.grownBy w' (some b)):og w' C v c:=⟨(hg.block C h.lt (by simp;omega)).trans h.aW,h.row.kept hg (by
 cases hv:v.ownBlock with
 |none=>exact Or.inl rfl
 |some k=>right;have:=(h.row.lt k hv).1;simp;omega)⟩
theorem bU.below(h:bU w C c){b:Nat}(hb:b<C)(hg:w.grownBy w' (some b)):bU w' C c:=h.elim fun v h=>⟨v,h.below hb hg⟩
theorem og.ahL(h:og w C v c)(e a:Int):og ((w.setCell (Ad C 1) (Im e)).setCell (Ad C 2) (Im a)) C v ⟨c.au,e,a⟩:=by
 have h1:(w.setCell (Ad C 1) (Im e)).heap[C]? =some (.cells #[v,Im e,Im c.ea] 188):=heap_setCell_same _ _ _ _ _ _ h.aW;exact⟨heap_setCell_same _ _ _ _ _ _ h1,((h.row.kept (dV w C 1 _) (Or.inr h.ne)).kept (dV _ C 2 _) (Or.inr h.ne))⟩
theorem og.IJ(h:og w C v c){u:Value}{ns:List Kn}(hg:w.grownBy w' v.ownBlock)(hr:w'.ownsRow (C+1) 446 3 u ns.length (oz ns)):og (w'.setCell (Ad C 0) u) C u ⟨ns,c.en,c.ea⟩:=by
 have hu:u.ownBlock≠some C:=fun e=>by have:=(hr.lt C e).1;omega
 have h1:w'.heap[C]? =some (.cells #[v,Im c.en,Im c.ea] 188):=(hg.block C h.lt (fun e=>h.ne e.symm)).trans h.aW;exact⟨heap_setCell_same _ _ _ _ _ _ h1,hr.kept (dV w' C 0 u) (Or.inr hu)⟩
theorem Gu(h:bU w C c)(e a:Int):Calls prog 316 #[Pt C 0,Im e,Im a] w fun en w'=>en=.returned (.tuple #[])/\bU w' C (c.fail e a)/\Lk w w' 0 0 C:=by
 obtain⟨v,h⟩:=h;have c1:w.cell? (Ad C 1)=some (Im c.en):=aA h.aW;have c2:w.cell? (Ad C 2)=some (Im c.ea):=aA h.aW;have fz:∀j,w.frozen? (Ad C j)=false:=fun j=>eu h.aW;have HH:Hid (og w C v c):=h;clear h;unfold Ck.fail;by_cases hc:c.en=0
 .rw[if_pos hc];rw[hc]at c1;go_enter func316,ntmps316;go_wp2_with fail;go_end0;exact⟨rfl,⟨v,HH.out.ahL e a⟩,(Lk.fault w 0 _ 0 0 C).trans (Lk.fault _ 1 _ 0 0 C)⟩
 .rw[if_neg hc];have hb:(c.en==0)=false:=by simp[hc]
  go_enter func316,ntmps316;go_wp2_with fail;go_end0;exact⟨rfl,⟨v,HH.out⟩,Lk.refl _ _ _ _⟩
theorem TS(tmps:Array Value)(w:World)(g:Nat)(k:Kn)(h2:tmps[4]? =some (Pt g 0))(h:w.heap[g]? =some (.cells #[.string k.name,Im k.kind,.bool k.isVar] 446)):
 (results Tryz.f315 tmps).run prog w=.ok (Ph k) w:=by
 have q0:w.cell? (Ad g 0)=some (.string k.name):=aA h;have q1:w.cell? (Ad g 1)=some (Im k.kind):=aA h;have q2:w.cell? (Ad g 2)=some (.bool k.isVar):=aA h;simp[results,Tryz.results315,go_sem,h2,q0,q1,q2,Ph]
theorem abu(ns:List Kn)(t:ByteArray)(i:Nat)(k:Kn)(h:ns[i]? =some k):fV (ns.drop i) t=if k.name.data.toList==t.data.toList then k else fV (ns.drop (i+1)) t:=by
 obtain⟨hi,he⟩:=List.getElem?_eq_some_iff.1 h;rw[List.drop_eq_getElem_cons hi,he];unfold fV;rw[List.find?_cons];cases (k.name.data.toList==t.data.toList)<;>rfl
theorem NS(h:bU w C c)(t:ByteArray)(hn:c.au.length<=1000000):Calls prog 315 #[Pt C 0,.string t] w fun en w'=>en=.returned (Ph (fV c.au t))/\w.grownBy w' none:=by
 obtain⟨v,h⟩:=h;obtain⟨a,cap,rfl⟩:=fJ h.row;have hC:=h.lt;have n1:¬C=w.heap.size:=by omega
 have c0:w.cell? (Ad C 0)=some (.slice a c.au.length cap):=aA h.aW;have hbox:(w.alloc (.cells #[.string ⟨#[]⟩,Im 0,.bool false] 446)).heap[w.heap.size]? =some (.cells #[.string ⟨#[]⟩,Im 0,.bool false] 446):=heap_alloc_new _ _;have HR:Hid (w.ownsRow (C+1) 446 3 (.slice a c.au.length cap) c.au.length (oz c.au)):=h.row;have HB:Hid ((w.alloc (.cells #[.string ⟨#[]⟩,Im 0,.bool false] 446)).heap[w.heap.size]? =some (.cells #[.string ⟨#[]⟩,Im 0,.bool false] 446)):=hbox;clear h hbox;have HN:Hid (fV c.au t=fV (c.au.drop 0) t):=rfl;generalize hr:fV c.au t=r at *;clear hr;generalize c.au=ns at *;go_enter func315,ntmps315;go_wp2_with fail;go_loopg [12] (ns.length+1) (fun gg i wr=>Hid (∃k:Nat,k+gg=ns.length+1/\k<=ns.length/\i=Im k/\r=fV (ns.drop k) t/\(w.alloc (.cells #[.string ⟨#[]⟩,Im 0,.bool false] 446)).grownBy wr none))
 case atStart=>exact⟨0,by omega,Nat.zero_le _,rfl,HN.out,World.grownBy.refl _ _⟩
 case round=>
  obtain⟨k,hk1,hk2,rfl,hr,hg⟩:=hrel.out;clear hrel;have hbox:wr.heap[w.heap.size]? =some (.cells #[.string ⟨#[]⟩,Im 0,.bool false] 446):=(hg.block _ (dS HB.out) (by simp)).trans HB.out;have b0:wr.cell? (Ad w.heap.size 0)=some (.string ⟨#[]⟩):=aA hbox;have b1:wr.cell? (Ad w.heap.size 1)=some (Im 0):=aA hbox;have b2:wr.cell? (Ad w.heap.size 2)=some (.bool false):=aA hbox;have fz:∀j,wr.frozen? (Ad w.heap.size j)=false:=fun j=>eu hbox;have hlt0:=dS hbox;have n2:¬w.heap.size=wr.heap.size:=by omega
  have Q9:Hid (wr.heap[w.heap.size]? =some (.cells #[.string ⟨#[]⟩,Im 0,.bool false] 446)):=hbox;have HG:Hid (w.grownBy wr none):=(World.grownBy_alloc w _ none).trans hg;by_cases hlt:k<ns.length
  .have d1:decide ((k:Int)<(ns.length:Int))=true:=by simp;omega
   have i0:(0:Int)<=(k:Int):=by omega
   have i1:(k:Int)<(ns.length:Int):=by omega
   have hget:ns[k]? =some ns[k]:=by simp
   obtain⟨e0,e1,e2⟩:=Vr ns k _ hget;obtain⟨g,hag,hBg,hgl,hcs⟩:=WJ HR.out e0;subst hag;have k0:wr.cell? (Ad g (k * 3))=some (.string ns[k].name):=(HG.out.cell (hcs _ _ e0) (by simp));have k1:wr.cell? (Ad g (k * 3+1))=some (Im ns[k].kind):=(HG.out.cell (hcs _ _ e1) (by simp));have k2:wr.cell? (Ad g (k * 3+2))=some (.bool ns[k].isVar):=(HG.out.cell (hcs _ _ e2) (by simp));have HD:Hid (r=if ns[k].name.data.toList==t.data.toList then ns[k]else fV (ns.drop (k+1)) t):=by rw[hr];exact abu ns t k _ hget
   obtain⟨g',hg'⟩:∃g',gk=g'+1:=⟨gk-1,by omega⟩;have HW:Hid ((w.alloc (.cells #[.string ⟨#[]⟩,Im 0,.bool false] 446)).grownBy wr none):=hg;clear hr hg hget e0 e1 e2 hcs;generalize ns[k]=kn at *;obtain⟨kt,kk,kv⟩:=kn;simp only at k0 k1 k2 HD;cases ht:(kt.data.toList==t.data.toList)with
   |true=>
    have ht2:(kt.toList==t.toList)=true:=by rw[ByteArray.toList_eq,ByteArray.toList_eq];exact ht
    have HD2:Hid (r=⟨kt,kk,kv⟩):=by have:=HD.out;rw[ht]at this;exact this
    clear HD;go_wp2_with fail;have hb2:=DJ wr w.heap.size _ _ _ _ (.string kt) (Im kk) (.bool kv) Q9.out;have hg2:=kP (kP (kP HG.out (Nat.le_refl _) 0 (.string kt)) (Nat.le_refl _) 1 (Im kk)) (Nat.le_refl _) 2 (.bool kv);exact bodyPost_ret (TS _ _ w.heap.size ⟨kt,kk,kv⟩ rfl ((Below.heap_alloc _ _ _ (dS hb2)).trans hb2)) rfl ⟨by rw[HD2.out],hg2.trans (World.grownBy_alloc _ _ none)⟩
   |false=>
    have ht2:(kt.toList==t.toList)=false:=by rw[ByteArray.toList_eq,ByteArray.toList_eq];exact ht
    have HD2:Hid (r=fV (ns.drop (k+1)) t):=by have:=HD.out;rw[ht]at this;exact this
    clear HD;go_wp2_with fail;go_roundg g'
    case measure=>omega
    case rel=>exact⟨k+1,by omega,by omega,by go_num,HD2.out,HW.out.trans (World.grownBy_alloc _ _ none)⟩
  .have d1:decide ((k:Int)<(ns.length:Int))=false:=by simp;omega
   have HD:Hid (r=PS):=by rw[hr,List.drop_of_length_le (by omega)];rfl
   clear hr hg;go_wp2_with fail;refine bodyPost_ret (TS _ _ w.heap.size PS rfl (DJ _ w.heap.size _ _ _ _ _ _ _ Q9.out)) rfl ⟨by rw[HD.out],?_⟩;exact kP (kP (kP HG.out (Nat.le_refl _) _ _) (Nat.le_refl _) _ _) (Nat.le_refl _) _ _
theorem IU(b:Nat)(k:Int)(h:w.cell? (Ad b 2)=some (Im k)):Calls prog 356 #[Pt b 0] w fun e w'=>e=.returned (Im k)/\w'=w:=by
 go_enter func356,ntmps356;go_wp2;go_ret;exact⟨rfl,rfl⟩
theorem afS(b:Nat)(k:Int)(h:w.cell? (Ad b 0)=some (Im k)):Calls prog 312 #[Pt b 0] w fun e w'=>e=.returned (Im k)/\w'=w:=by
 go_enter func312,ntmps312;go_wp2;go_ret;exact⟨rfl,rfl⟩
theorem TA(h:bU w C c){T:TypeId}{b:Nat}{k a:Int}(hT:lD T)(h2:w.cell? (Ad b 2)=some (Im k))(h0:w.cell? (Ad b 0)=some (Im a))(is:Int):
 Calls prog 317 #[Pt C 0,.iface T (Pt b 0),Im is] w fun en w'=>en=.returned (.tuple #[])/\bU w' C (c.want k a is)/\Lk w w' 0 0 C:=by
 have m1:=hT.sort b;have m2:=hT.place b;have HS:Hid (Calls prog 356 #[Pt b 0] w fun e w'=>e=.returned (Im k)/\w'=w):=IU b k h2;have HP:Hid (Calls prog 312 #[Pt b 0] w fun e w'=>e=.returned (Im a)/\w'=w):=afS b a h0;have HF:Hid (Calls prog 316 #[Pt C 0,Im 3,Im a] w fun en w'=>en=.returned (.tuple #[])/\bU w' C (c.fail 3 a)/\Lk w w' 0 0 C):=Gu h 3 a;have HH:Hid (bU w C c):=h;clear h h2 h0;unfold Ck.want;by_cases hk:k=is
 .rw[if_pos hk];have hb:(k !=is)=false:=by simp[hk]
  go_enter func317,ntmps317;go_wp2_with fail;refine HS.out.mono ?_;rintro e w1 ⟨rfl,rfl⟩;go_wp2_with fail;go_end0;exact⟨rfl,HH.out,Lk.refl _ _ _ _⟩
 .rw[if_neg hk];have hb:(k !=is)=true:=by simp[hk]
  go_enter func317,ntmps317;go_wp2_with fail;refine HS.out.mono ?_;rintro e w1 ⟨rfl,rfl⟩;go_wp2_with fail;refine HP.out.mono ?_;rintro e w1 ⟨rfl,rfl⟩;go_wp2_with fail;refine HF.out.mono ?_;rintro e w3 ⟨rfl,h1,h2⟩;have HE:Hid (bU w3 C (c.fail 3 a)/\Lk w1 w3 0 0 C):=⟨h1,h2⟩;clear h1 h2;go_wp2_with fail;go_end0;exact⟨rfl,HE.out⟩
theorem NZ(a:ByteArray)(b:Int)(c:Bool)(w:World):(Instr.field 446 (.agg #[.string a,Im b,.bool c]) 1).run prog w=.ok (Im b) w:=by kernel_rfl
theorem NU(h:bU w C c)(t:ByteArray)(ta:Int)(hn:c.au.length<=1000000):
 Calls prog 325 #[Pt C 0,.agg #[.string t,Im ta]] w fun en w'=>en=.returned (.tuple #[])/\bU w' C (c.eX t ta)/\Lk w w' 0 0 C:=by
 have hC:=h.lt;have HF:Hid (∀x,w.grownBy x none->Calls prog 315 #[Pt C 0,.string t] x fun en w'=>en=.returned (.agg #[.string (fV c.au t).name,Im (fV c.au t).kind,.bool (fV c.au t).isVar])/\x.grownBy w' none):=fun x hx=>NS (h.grow hx) t hn;have HA:Hid (∀x,w.grownBy x none->Calls prog 316 #[Pt C 0,Im 2,Im ta] x fun en w'=>en=.returned (.tuple #[])/\bU w' C (c.fail 2 ta)/\Lk x w' 0 0 C):=fun x hx=>Gu (h.grow hx) 2 ta;have HH:Hid (∀x,w.grownBy x none->bU x C c/\Lk w x 0 0 C):=fun x hx=>⟨h.grow hx,Lk.grown hx hC⟩;have HG:Hid (∀o,w.grownBy (w.alloc o) none):=fun o=>World.grownBy_alloc w o none;have HT:Hid (∀x,w.grownBy x none->x.heap[w.heap.size]? =x.heap[w.heap.size]?):=fun _ _=>rfl;clear h;unfold Ck.eX;generalize hr:fV c.au t=r at *;obtain⟨rt,rk,rv⟩:=r;simp only at HF⊢;have hbox:(w.alloc (.cells #[.string t,Im ta] 316)).heap[w.heap.size]? =some (.cells #[.string t,Im ta] 316):=heap_alloc_new _ _;have HB:Hid (∀x,(w.alloc (.cells #[.string t,Im ta] 316)).grownBy x none->x.cell? (Ad w.heap.size 1)=some (Im ta)):=fun x hx=>hx.cell (aA hbox) (by simp);clear hbox hr HT;have hfk:=NZ rt rk rv;by_cases hk:rk=0
 .rw[if_pos hk];subst hk;go_enter func325,ntmps325;go_wp2_with fail;refine(HF.out _ (HG.out _)).mono ?_;rintro e w1 ⟨rfl,g1⟩;have kU:Hid (w.grownBy w1 none):=(HG.out _).trans g1;clear g1;go_wp2_with fail;go_end0;exact⟨rfl,HH.out _ kU.out⟩
 .rw[if_neg hk];have hb:(rk !=0)=true:=by simp[hk]
  go_enter func325,ntmps325;go_wp2_with fail;refine(HF.out _ (HG.out _)).mono ?_;rintro e w1 ⟨rfl,g1⟩;have c1:=HB.out w1 g1;have kU:Hid (w.grownBy w1 none):=(HG.out _).trans g1;clear g1;go_wp2_with fail;refine(HA.out _ kU.out).mono ?_;rintro e w2 ⟨rfl,h1,h2⟩;have HE:Hid (bU w2 C (c.fail 2 ta)/\Lk w w2 0 0 C):=⟨h1,(HH.out _ kU.out).2.trans h2⟩;clear h1 h2;go_wp2_with fail;go_end0;exact⟨rfl,HE.out⟩
theorem Ou(w:World)(o o2:Obj):((w.alloc o).alloc o2).heap[w.heap.size+1]? =some o2:=by
 rw[<-kK w o];exact heap_alloc_new _ _
theorem Bv{o o2:Obj}{v:Value}{g n cap:Nat}(h:v.ownBlock=some g\/g=w.heap.size+1+1):∀k,(Value.slice (some (Ad g 0)) n cap).ownBlock=some k->v.ownBlock=some k\/(((w.alloc o).alloc o2).drewN 1).heap.size<=k:=fun k hk=>by
 simp only[Value.ownBlock,Option.some.injEq]at hk;subst hk;rcases h with h|h
 .exact Or.inl h
 .right;have:(((w.alloc o).alloc o2).drewN 1).heap.size=w.heap.size+1+1:=by
   show((w.alloc o).alloc o2).heap.size=_;rw[kK,kK]
  omega
theorem ade:(prog.info? 446).map (fun i=>(i.zero,i.size,i.bytes))=some (some (.agg #[.string ⟨#[]⟩,Im 0,.bool false]),3,32):=by kernel_rfl
theorem NR(h:bU w C c)(t:ByteArray)(ta kind:Int)(b:Bool)(hn:c.au.length<=1000000):
 Calls prog 326 #[Pt C 0,.agg #[.string t,Im ta],Im kind,.bool b] w fun en w'=>en=.returned (.tuple #[])/\bU w' C (c.add t kind b)/\Lk w w' 0 0 C:=by
 obtain⟨v,h⟩:=h;obtain⟨a,cap,rfl⟩:=fJ h.row;have hC:=h.lt;have c0:w.cell? (Ad C 0)=some (.slice a c.au.length cap):=aA h.aW;obtain⟨i0,hi0,hz0,hz1,hz2⟩:=info_parts ade;have HP:Hid (∀(o o2:Obj)(n:Nat)(w1:World)(u:Value),(((w.alloc o).alloc o2).drewN n).grownBy w1 (Value.slice a c.au.length cap).ownBlock->w1.ownsRow (C+1) 446 3 u (c.au.length+1) (oz c.au++[.string t,Im kind,.bool b])->(∀k,u.ownBlock=some k->(Value.slice a c.au.length cap).ownBlock=some k\/(((w.alloc o).alloc o2).drewN n).heap.size<=k)->
  bU (w1.setCell (Ad C 0) u) C (c.add t kind b)/\Lk w (w1.setCell (Ad C 0) u) 0 0 C/\(∃u,w1.cell? (Ad C 0)=some u)/\w1.frozen? (Ad C 0)=false):=by
  intro o o2 n w1 u hg ho hat;have hgw:w.grownBy (((w.alloc o).alloc o2).drewN n) none:=((World.grownBy_alloc w o none).trans (World.grownBy_alloc _ o2 none)).trans (dh _ n);have h':=h.grow hgw;have e1:oz (c.au++[⟨t,kind,b⟩])=oz c.au++[.string t,Im kind,.bool b]:=by simp[oz]
  have ho2:w1.ownsRow (C+1) 446 3 u (c.au++[(⟨t,kind,b⟩:Kn)]).length (oz (c.au++[⟨t,kind,b⟩])):=by rw[e1];simpa using ho
  have hb1:w1.heap[C]? =some (.cells #[.slice a c.au.length cap,Im c.en,Im c.ea] 188):=(hg.block C h'.lt (fun e=>h'.ne e.symm)).trans h'.aW;refine⟨⟨u,h'.IJ hg ho2⟩,?_,⟨.slice a c.au.length cap,aA hb1⟩,eu hb1⟩;refine(Lk.grown hgw hC).trans (Lk.named hg h'.lt (aA h'.aW) (fun k hk=>by have:=(h'.row.lt k hk).1;omega) (fun k hk=>?_));exact hat k hk
 have HO:Hid (∀(o o2:Obj)(n:Nat),(((w.alloc o).alloc o2).drewN n).ownsRow (C+1) 446 3 (.slice a c.au.length cap) c.au.length (oz c.au)):=fun o o2 n=>
  (h.grow (((World.grownBy_alloc w o none).trans (World.grownBy_alloc _ o2 none)).trans (dh _ n))).row
 have hmx:c.au.length+1<=maxLen:=by unfold maxLen;omega
 have hby:(c.au.length+1) * 32<=140737488355328:=by omega
 have n1:¬C=w.heap.size:=by omega
 have n2:C<w.heap.size+1:=by omega
 clear h;generalize c.add t kind b=ca at *;generalize oz c.au=cells at *;generalize c.au.length=len at *;go_enter func326,ntmps326;go_wp2_with fail;go_region_law ((refine step_append_lies _ (by rfl) _ _ _ (by rfl) (C+1) 446 i0 _ 3 32 Tryz.underlying186 hi0 hz0 hz1 hz2 (by rfl) (by omega) (.slice a len cap) len cells (by rfl) (HO.out _ _ 1) (Ad (w.heap.size+1) 0) 1 1 [.string t,Im kind,.bool b] (by rfl) (by rfl) (World.news_of_block (cs:=#[.string t,Im kind,.bool b]) (t:=446) (fr:=(0,0)) (Ou w _ _)) (by simp[Value.oneCell']) (by omega) hmx hby (by simp;omega) (w.heap.size+1+1) (by simp) ?_;intro gg cap1 w3 hown1 hgrow hat hlt;obtain⟨u12,Hg⟩:=(HP.out _ _ 1 _ _ hgrow hown1 (Bv hat)).2.2.1;have G6:=(HP.out _ _ 1 _ _ hgrow hown1 (Bv hat)).2.2.2));all_goals (go_wp2;go_end0;exact⟨rfl,(HP.out _ _ 1 _ _ hgrow hown1 (Bv hat)).1,(HP.out _ _ 1 _ _ hgrow hown1 (Bv hat)).2.1⟩)
theorem WL{B n k cap m:Nat}{T:TypeId}{a:Option Addr}{us:List Value}(h:w.ownsRow B T k (.slice a n cap) n us)(hm:m<=n):w.ownsRow B T k (.slice a m cap) m (us.take (m * k)):=by
 rcases h with⟨h1,⟨h2,h3⟩|⟨g,cap',cur,h2,h3,h4,h5,h6,h7,h8⟩⟩
 .cases h2;have:m=0:=by omega
  subst this;refine⟨by simp,Or.inl ⟨rfl,rfl⟩⟩
 .cases h2;refine⟨?_,Or.inr ⟨g,cap,cur,rfl,h3,h4,by omega,h6,h7,?_⟩⟩
  .rw[List.length_take,h1];exact Nat.min_eq_left (Nat.mul_le_mul_right k hm)
  .rw[<-h8,List.take_take,Nat.min_eq_left (Nat.mul_le_mul_right k hm)]
theorem og.cut{a:Option Addr}{n cap m:Nat}(h:og w C (.slice a n cap) c)(hm:m<=n):og (w.setCell (Ad C 0) (.slice a m cap)) C (.slice a m cap) (c.cut m):=by
 obtain⟨a',cap',e⟩:=fJ h.row;have hn:n=c.au.length:=by cases e;rfl
 subst hn;have hr:=WL h.row hm;rw[adC]at hr;have hl:(c.au.take m).length=m:=by rw[List.length_take];omega
 refine h.IJ (w':=w) (World.grownBy.refl _ _) (ns:=c.au.take m) ?_;rw[hl];exact hr
end
section
variable {w w' w1 w2:World}{C lo hi b d:Nat}{c:Ck}{u:Value}{e:Ex}{a:Int}{T:TypeId}
theorem Ey(c:Ck)(x y:Int):(c.fail x y).au=c.au:=by unfold Ck.fail;split<;>rfl
theorem ql(c:Ck)(x y z:Int):(c.want x y z).au=c.au:=by unfold Ck.want;split;rfl;exact Ey _ _ _
theorem FH(c:Ck)(t:ByteArray)(y:Int):(c.eX t y).au=c.au:=by unfold Ck.eX;split;rfl;exact Ey _ _ _
def Enters(f:FuncId):Prop:=∀args w,(callFunc f args).run prog w=.ok (.enter f args) w
structure dW(e:Ex)(a:Int)(w w':World)(lo hi:Nat)(u:Value)(b C:Nat)(c:Ck):Prop where
 here:e.here a w' lo hi u
 kind:w'.cell? (Ad b 2)=some (Im (e.does.bY c.au))
 ck:bU w' C (e.does.look c)
 aN:Lk w w' lo hi C
structure dQ(d:Nat)(e:Ex):Prop where
 ok:cZ e
 au:∀c,(e.does.look c).au=c.au
 look:∀a w lo hi T b C c,e.here a w lo hi (.iface T (Pt b 0))->hi<=C->bU w C c->c.au.length+d<=900000->
  ∃f,(∀w,(method 576 T (Pt b 0) "helm/lang.look").run prog w=.ok (f,Pt b 0) w)/\Enters f/\
   Calls prog f #[Pt b 0,Pt C 0] w fun en w'=>en=.returned (.tuple #[])/\dW e a w w' lo hi (.iface T (Pt b 0)) b C c
theorem dQ.use(h:dQ d e)(hh:e.here a w lo hi u)(hC:hi<=C)(hc:bU w C c)(hn:c.au.length+d<=900000):
 ∃T b f,u=.iface T (Pt b 0)/\lD T/\lo<=b/\b<hi/\(∀w,(method 576 T (Pt b 0) "helm/lang.look").run prog w=.ok (f,Pt b 0) w)/\Enters f/\
  Calls prog f #[Pt b 0,Pt C 0] w fun en w'=>en=.returned (.tuple #[])/\dW e a w w' lo hi u b C c:=by
 obtain⟨T,b,rfl,hT,h1,h2,_⟩:=h.ok.head _ _ _ _ _ hh;obtain⟨f,hf,hfe,hcl⟩:=h.look _ _ _ _ _ _ _ _ hh hC hc hn;exact⟨T,b,f,rfl,hT,h1,h2,hf,hfe,hcl⟩
theorem dW.want(h:dW e a w w' lo hi (.iface T (Pt b 0)) b C c)(he:cZ e)(is:Int)(n:Nat):
 Calls prog 317 #[Pt C 0,.iface T (Pt b 0),Im is] (w'.drewN n) fun en w2=>en=.returned (.tuple #[])/\bU w2 C ((e.does.look c).want (e.does.bY c.au) a is)/\Lk w' w2 0 0 C:=by
 obtain⟨T',b',hv,hT,_,_,h0,_⟩:=he.head _ _ _ _ _ h.here;cases hv;refine(TA (h.ck.grow (dh w' n)) hT ((dh w' n).cell h.kind (by simp)) ((dh w' n).cell h0 (by simp)) is).mono ?_;rintro en w2 ⟨h1,h2,h3⟩;exact⟨h1,h2,(Lk.grown (dh w' n) h.ck.lt).trans h3⟩
theorem KP{T' T:TypeId}{at' aj kind:Int}{mk:List Value->List Value}{dn:Dn}(f:FuncId)(hok:cZ (lW T' T at' aj kind yP mk dn))(hk:∀ns,dn.bY ns=kind)(hl:∀c,dn.look c=c)
 (hm:∀b w,(method 576 T' (Pt b 0) "helm/lang.look").run prog w=.ok (f,Pt b 0) w)
 (hfe:Enters f)(hf:∀b C w,Calls prog f #[Pt b 0,Pt C 0] w fun en w'=>en=.returned (.tuple #[])/\w'=w):dQ d (lW T' T at' aj kind yP mk dn):=by
 refine⟨hok,fun c=>congrArg Ck.au (hl c),?_⟩;rintro a w lo hi T1 b C c ⟨b',us,hv,h1,h2,h3,h4⟩ hC hc hn;cases hv;refine⟨f,hm b,hfe,(hf b C w).mono ?_⟩;rintro en w' ⟨rfl,rfl⟩;refine⟨rfl,⟨b,us,rfl,h1,h2,h3,h4⟩,?_,?_,Lk.refl _ _ _ _⟩
 .show w'.cell? (Ad b 2)=some (Im (dn.bY c.au));rw[hk];exact aA h4
 .show bU w' C (dn.look c);rw[hl];exact hc
theorem aeW(b C:Nat)(w:World):Calls prog 390 #[Pt b 0,Pt C 0] w fun e w'=>e=.returned (.tuple #[])/\w'=w:=by
 go_enter func390,ntmps390;go_wp2_with fail;go_end0;exact⟨rfl,rfl⟩
theorem Yx(b C:Nat)(w:World):Calls prog 381 #[Pt b 0,Pt C 0] w fun e w'=>e=.returned (.tuple #[])/\w'=w:=by
 go_enter func381,ntmps381;go_wp2_with fail;go_end0;exact⟨rfl,rfl⟩
theorem agQ(b C:Nat)(w:World):Calls prog 375 #[Pt b 0,Pt C 0] w fun e w'=>e=.returned (.tuple #[])/\w'=w:=by
 go_enter func375,ntmps375;go_wp2_with fail;go_end0;exact⟨rfl,rfl⟩
theorem aeV(d:Nat)(a n:Int):dQ d (xG a n):=KP 390 (PU a n) (fun _=>rfl) (fun _=>rfl) (fun b w=>by kernel_rfl) (fun args w=>by kernel_rfl) aeW
theorem ai0(d:Nat)(a:Int)(b:Bool):dQ d (xP a 1 2 b):=KP 381 (QL a 2 b) (fun _=>rfl) (fun _=>rfl) (fun b w=>by kernel_rfl) (fun args w=>by kernel_rfl) Yx
theorem V8(d:Nat):dQ d qC:=KP 381 EZ (fun _=>rfl) (fun _=>rfl) (fun b w=>by kernel_rfl) (fun args w=>by kernel_rfl) Yx
theorem agP(d:Nat)(a i:Int):dQ d (Dz a i):=KP 375 (Qj a i) (fun _=>rfl) (fun _=>rfl) (fun b w=>by kernel_rfl) (fun args w=>by kernel_rfl) agQ
theorem ajq{e:Ex}(h:dQ d e)(a:Int):dQ d (e.rF a):=
 ⟨Q5 h.ok a,h.au,fun a' w lo hi T b C c hh hC hc hn=>by
   obtain⟨f,hf,hfe,hcl⟩:=h.look a' w lo hi T b C c hh hC hc hn;exact⟨f,hf,hfe,hcl.mono fun en w' ⟨h1,h2⟩=>⟨h1,⟨h2.here,h2.kind,h2.ck,h2.aN⟩⟩⟩⟩
theorem ajg(d:Nat)(a0:Int)(t:Wd):dQ d (wK a0 t):=by
 obtain⟨tt,ta⟩:=t;refine⟨QT a0 _,fun c=>?_,?_⟩
 .show(if (fV c.au tt).kind=0 then c.fail 2 ta else c).au=c.au;split
  .exact Ey _ _ _
  .rfl
 rintro a w lo hi T b C c ⟨k,b',us,hv,h1,h2,h3,h4⟩ hC hc hn;cases hv;have h4:w.heap[b]? =some (.cells #[Im a,Im 1,Im k,.string tt,Im ta] 391):=h4;have uH:=hc.lt;refine⟨378,fun w=>by kernel_rfl,fun args w=>by kernel_rfl,?_⟩;have c2:w.cell? (Ad b 2)=some (Im k):=aA h4;have c3:w.cell? (Ad b 3)=some (.string tt):=aA h4;have HF:Hid (Calls prog 315 #[Pt C 0,.string tt] w fun en w'=>en=.returned (.agg #[.string (fV c.au tt).name,Im (fV c.au tt).kind,.bool (fV c.au tt).isVar])/\w.grownBy w' none):=NS hc tt (by omega);have HH:Hid (∀w',w.grownBy w' none->∀x,dW (wK a0 ⟨tt,ta⟩) a w (w'.setCell (Ad b 2) (Im (fV c.au tt).kind)) lo hi (.iface 389 (Pt b 0)) b C x->True):=fun _ _ _ _=>trivial;have HB:Hid (∀w',w.grownBy w' none->w'.heap[b]? =some (.cells #[Im a,Im 1,Im k,.string tt,Im ta] 391)):=fun w' hg=>(hg.block b (by omega) (by simp)).trans h4;have HC:Hid (bU w C c/\b<C/\lo<=b/\b<hi):=⟨hc,by omega,h1,h2⟩;clear h4 hc HH;show Calls prog 378 #[Pt b 0,Pt C 0] w fun en w'=>en=.returned (.tuple #[])/\dW (wK a0 ⟨tt,ta⟩) a w w' lo hi (.iface 389 (Pt b 0)) b C c;have fP:Hid (∀w1 w2,w.grownBy w1 none->bU w2 C (if (fV c.au tt).kind=0 then c.fail 2 ta else c)->Lk (w1.setCell (Ad b 2) (Im (fV c.au tt).kind)) w2 0 0 C->dW (wK a0 ⟨tt,ta⟩) a w w2 lo hi (.iface 389 (Pt b 0)) b C c):=fun w1 w2 hg hk hl=>by
  obtain⟨q1,q2,q3,q4⟩:=HC.out;have hb1:=HB.out w1 hg;have hb2:(w1.setCell (Ad b 2) (Im (fV c.au tt).kind)).heap[b]? =some (.cells #[Im a,Im 1,Im (fV c.au tt).kind,.string tt,Im ta] 391):=heap_setCell_same _ _ _ _ _ _ hb1;have hb3:=(hl.aN b q2 (Or.inr (Nat.zero_le _))).trans hb2;have hs1:=hg.size;have hlk:Lk w (w1.setCell (Ad b 2) (Im (fV c.au tt).kind)) lo hi C:=((Lk.grown hg uH).all lo hi).trans (Lk.tree (dV w1 b 2 _) (by omega) q3 q4 q2);exact⟨⟨(fV c.au tt).kind,b,[],rfl,q3,q4,rfl,hb3⟩,aA hb3,hk,hlk.trans (hl.all lo hi)⟩
 have DZ:Hid (∀w1,w.grownBy w1 none->bU (w1.setCell (Ad b 2) (Im (fV c.au tt).kind)) C c):=fun w1 hg=>(HC.out.1.grow hg).below HC.out.2.1 (dV w1 b 2 _);generalize fV c.au tt=r at *;obtain⟨rt,rk,rv⟩:=r;simp only at HF fP DZ;by_cases hk:rk=0
 .subst hk;have hfk:=NZ rt 0 rv;go_enter func378,ntmps378;go_wp2_with fail;refine HF.out.mono ?_;rintro en w1 ⟨rfl,g1⟩;have hb1:=HB.out w1 g1;have e2:w1.cell? (Ad b 2)=some (Im k):=aA hb1;have e4:w1.cell? (Ad b 4)=some (Im ta):=aA hb1;have fz:∀j,w1.frozen? (Ad b j)=false:=fun j=>eu hb1;have HG:Hid (w.grownBy w1 none):=g1;clear g1 hb1;go_wp2_with fail;refine(Gu (DZ.out _ HG.out) 2 ta).mono ?_;rintro en w2 ⟨rfl,p1,p2⟩;have HE:Hid (dW (wK a0 ⟨tt,ta⟩) a w w2 lo hi (.iface 389 (Pt b 0)) b C c):=fP.out w1 w2 HG.out p1 p2;clear p1 p2;go_wp2_with fail;go_end0;exact⟨rfl,HE.out⟩
 .have hfk:=NZ rt rk rv;have hb:(rk==0)=false:=by simp[hk]
  go_enter func378,ntmps378;go_wp2_with fail;refine HF.out.mono ?_;rintro en w1 ⟨rfl,g1⟩;have hb1:=HB.out w1 g1;have e2:w1.cell? (Ad b 2)=some (Im k):=aA hb1;have fz:∀j,w1.frozen? (Ad b j)=false:=fun j=>eu hb1;have HG:Hid (w.grownBy w1 none):=g1;clear g1 hb1;go_wp2_with fail;go_end0;refine⟨rfl,fP.out w1 _ HG.out ?_ (Lk.refl _ _ _ _)⟩;rw[if_neg hk];exact DZ.out w1 HG.out
end
end
section
open Go.RowKit Hx
section
variable {w w' w2 wy:World}{C:Nat}{c:Co}{v nv u:Value}
def isRow(w:World)(C g:Nat):Prop:=(∃v,w.cell? (Ad C 0)=some v/\v.ownBlock=some g)\/(∃v,w.cell? (Ad C 1)=some v/\v.ownBlock=some g)
theorem Vm(h:w'.heap[C]? =w.heap[C]?)(g:Nat):isRow w' C g↔isRow w C g:=by
 unfold isRow;rw[World.cell?_of_block (a:=(Ad C 0)) h,World.cell?_of_block (a:=(Ad C 1)) h]
structure Gk(w w':World)(C:Nat):Prop where
 os:w'.os=w.os
 tape:w'.tape=w.tape
 output:w'.output=w.output
 size:w.heap.size<=w'.heap.size
 aN:∀k,k<C->w'.heap[k]? =w.heap[k]?
 lK:∀k,C<k->k<w.heap.size->¬isRow w C k->w'.heap[k]? =w.heap[k]?
 row:∀g,isRow w' C g->isRow w C g\/w.heap.size<=g
theorem Gk.refl(w:World)(C:Nat):Gk w w C:=⟨rfl,rfl,rfl,Nat.le_refl _,fun _ _=>rfl,fun _ _ _ _=>rfl,fun _ h=>Or.inl h⟩
theorem Gk.trans(h:Gk w w' C)(k:Gk w' w2 C):Gk w w2 C:=by
 have s1:=h.size;have s2:=k.size;refine⟨k.os.trans h.os,k.tape.trans h.tape,k.output.trans h.output,Nat.le_trans h.size k.size,fun b b1=>(k.aN b b1).trans (h.aN b b1),fun b b1 b2 b3=>(k.lK b b1 (by omega) (fun e=>?_)).trans (h.lK b b1 b2 b3),fun g hg=>?_⟩
 .rcases h.row b e with e2|e2
  .exact b3 e2
  .omega
 .rcases k.row g hg with e|e
  .exact h.row g e
  .exact Or.inr (by omega)
theorem Gk.grown(h:w.grownBy w' none)(hC:C<w.heap.size):Gk w w' C:=
 ⟨h.os,h.tape,h.output,h.size,fun b b1=>h.block b (by omega) (by simp),fun b _ b2 _=>h.block b b2 (by simp),fun g hg=>Or.inl ((Vm (h.block C hC (by simp)) g).1 hg)⟩
theorem Gk.free(w:World)(u:Value)(C:Nat):Gk w (w.setCell (Ad C 2) u) C:=
 ⟨rfl,rfl,rfl,by simp,fun b b1=>Below.heap_setCell _ _ _ _ (by show b≠C;omega),fun b b1 _ _=>Below.heap_setCell _ _ _ _ (by show b≠C;omega),fun g hg=>Or.inl (by
   unfold isRow at hg⊢
   rwa [World.cell?_setCell_other _ _ _ _ (by simp),World.cell?_setCell_other _ _ _ _ (by simp)]at hg)⟩
theorem Gk.Xw(j:Nat)(hj:j=0\/j=1)(h:w.grownBy w' v.ownBlock)(hC:C<w.heap.size)(hv:w.cell? (Ad C j)=some v)(hv2:∀k,v.ownBlock=some k->C<k)(hu:∀k,u.ownBlock=some k->v.ownBlock=some k\/w.heap.size<=k):Gk w (w'.setCell (Ad C j) u) C:=by
 have hb:w'.heap[C]? =w.heap[C]? :=h.block C hC (fun e=>by have:=hv2 C e.symm;omega);have hr:∀k,v.ownBlock=some k->isRow w C k:=fun k hk=>by
  rcases hj with rfl|rfl
  .exact Or.inl ⟨v,hv,hk⟩
  .exact Or.inr ⟨v,hv,hk⟩
 refine⟨h.os,h.tape,h.output,by simpa using h.size,fun b b1=>?_,fun b b1 b2 b3=>?_,fun g hg=>?_⟩
 .rw[Below.heap_setCell _ _ _ _ (by show b≠C;omega)];exact h.block b (by omega) (fun e=>by have:=hv2 b e.symm;omega)
 .rw[Below.heap_setCell _ _ _ _ (by show b≠C;omega)];exact h.block b b2 (fun e=>b3 (hr b e.symm))
 .have hold:∀i,i≠j->(w'.setCell (Ad C j) u).cell? (Ad C i)=w.cell? (Ad C i):=fun i hi=>by
   rw[World.cell?_setCell_other _ _ _ _ (by intro e;cases e;exact hi rfl)];exact World.cell?_of_block hb
  have hnew:(w'.setCell (Ad C j) u).cell? (Ad C j)=some u:=World.cell?_setCell_same _ _ _ ((World.cell?_of_block hb).trans hv);have UM:∀x,(w'.setCell (Ad C j) u).cell? (Ad C j)=some x->x.ownBlock=some g->isRow w C g\/w.heap.size<=g:=fun x e1 e2=>by
   rw[hnew]at e1;cases e1;exact(hu g e2).imp (hr g) id
  rcases hj with rfl|rfl
  .rcases hg with⟨x,e1,e2⟩|⟨x,e1,e2⟩
   .exact UM x e1 e2
   .rw[hold 1 (by decide)]at e1;exact Or.inl (Or.inr ⟨x,e1,e2⟩)
  .rcases hg with⟨x,e1,e2⟩|⟨x,e1,e2⟩
   .rw[hold 0 (by decide)]at e1;exact Or.inl (Or.inl ⟨x,e1,e2⟩)
   .exact UM x e1 e2
theorem Gk.cell(h:Gk w w' C){b j:Nat}(hb:b<C):w'.cell? (Ad b j)=w.cell? (Ad b j):=World.cell?_of_block (h.aN b hb)
theorem Hx.Lawful.gk{E:rM}(hE:Lawful E){l m:Nat}(h:E w l m u)(k:Gk w w' C)(hm:m<=C):E w' l m u:=
 hE.loc _ _ _ _ _ h fun b _ b2=>k.aN b (by omega)
def oV(ns:List (ByteArray×Int)):List Value:=ns.flatMap fun k=>[.string k.1,Im k.2]
theorem V6:∀(ns:List (ByteArray×Int))(i:Nat)(k:ByteArray×Int),ns[i]? =some k->(oV ns)[i * 2]? =some (.string k.1)/\(oV ns)[i * 2+1]? =some (Im k.2)
 |[],i,k,h=>by simp at h
 |k0::ns,0,k,h=>by
  simp only[List.getElem?_cons_zero,Option.some.injEq]at h;subst h;exact⟨rfl,rfl⟩
 |k0::ns,i+1,k,h=>by
  have ih:=V6 ns i k (by simpa using h);have e:∀j,(oV (k0::ns))[j+2]? =(oV ns)[j]? :=fun j=>by simp[oV]
  have e1:(i+1) * 2=i * 2+2:=by omega
  rw[e1];exact⟨(e _).trans ih.1,(e (i * 2+1)).trans ih.2⟩
theorem aeR(ns:List (ByteArray×Int))(n:Nat):(oV ns).take (n * 2)=oV (ns.take n):=by
 induction ns generalizing n with
 |nil=>simp[oV]
 |cons k ns ih=>
  cases n with
  |zero=>simp[oV]
  |succ n=>
   have:=ih n;have e:(n+1) * 2=n * 2+1+1:=by omega
   rw[e];simp only[oV,List.flatMap_cons,List.cons_append,List.nil_append,List.take_succ_cons]at this⊢;rw[this]
structure kM(w:World)(C:Nat)(v nv:Value)(c:Co):Prop where
 aW:w.heap[C]? =some (.cells #[v,nv,Im c.free] 197)
 code:w.ownsRow (C+1) 5 1 v c.code.length (nD c.code)
 au:w.ownsRow (C+1) 448 2 nv c.au.length (oV c.au)
 ne:∀g,v.ownBlock=some g->nv.ownBlock≠some g
def aV(w:World)(C:Nat)(c:Co):Prop:=∃v nv,kM w C v nv c
theorem kM.lt(h:kM w C v nv c):C<w.heap.size:=dS h.aW
theorem aV.lt(h:aV w C c):C<w.heap.size:=by obtain⟨_,_,h⟩:=h;exact h.lt
theorem kM.BH(h:kM w C v nv c)(k:Nat)(hk:v.ownBlock=some k):C<k/\k<w.heap.size:=by have:=h.code.lt k hk;omega
theorem kM.Dt(h:kM w C v nv c)(k:Nat)(hk:nv.ownBlock=some k):C<k/\k<w.heap.size:=by have:=h.au.lt k hk;omega
theorem kM.apart(h:kM w C v nv c):nv.ownBlock=none\/nv.ownBlock≠v.ownBlock:=by
 cases hn:nv.ownBlock with
 |none=>exact Or.inl rfl
 |some g=>exact Or.inr (fun e=>h.ne g e.symm hn)
theorem kM.apart'(h:kM w C v nv c):v.ownBlock=none\/v.ownBlock≠nv.ownBlock:=by
 cases hn:v.ownBlock with
 |none=>exact Or.inl rfl
 |some g=>exact Or.inr (fun e=>h.ne g hn e.symm)
theorem kM.grow(h:kM w C v nv c)(hg:w.grownBy w' none):kM w' C v nv c:=
 ⟨(hg.block C h.lt (by simp)).trans h.aW,h.code.kept hg (by cases v.ownBlock<;>simp),h.au.kept hg (by cases nv.ownBlock<;>simp),h.ne⟩
theorem aV.grow(h:aV w C c)(hg:w.grownBy w' none):aV w' C c:=by obtain⟨v,nv,h⟩:=h;exact⟨v,nv,h.grow hg⟩
theorem kM.dw(h:kM w C v nv c)(x:Int):kM (w.setCell (Ad C 2) (Im x)) C v nv (c.dw x):=by
 refine⟨heap_setCell_same _ _ _ _ _ _ h.aW,h.code.kept (dV w C 2 _) (Or.inr fun e=>?_),h.au.kept (dV w C 2 _) (Or.inr fun e=>?_),h.ne⟩
 .have:=h.BH C e;omega
 .have:=h.Dt C e;omega
theorem kM.XI(h:kM w C v nv c){bs:List Int}(hg:w.grownBy w' v.ownBlock)(hr:w'.ownsRow (C+1) 5 1 u bs.length (nD bs))(hu:∀k,u.ownBlock=some k->v.ownBlock=some k\/w.heap.size<=k):kM (w'.setCell (Ad C 0) u) C u nv ⟨bs,c.au,c.free⟩:=by
 have hb:w'.heap[C]? =some (.cells #[v,nv,Im c.free] 197):=(hg.block C h.lt (fun e=>by have:=h.BH C e.symm;omega)).trans h.aW;have hn:=h.au.kept hg h.apart;refine⟨heap_setCell_same _ _ _ _ _ _ hb,hr.kept (dV w' C 0 u) (Or.inr fun e=>?_),hn.kept (dV w' C 0 u) (Or.inr fun e=>?_),fun g e1 e2=>?_⟩
 .have:=(hr.lt C e).1;omega
 .have:=h.Dt C e;omega
 .rcases hu g e1 with e|e
  .exact h.ne g e e2
  .have:=h.Dt g e2;omega
theorem kM.IJ(h:kM w C v nv c){ns:List (ByteArray×Int)}(hg:w.grownBy w' nv.ownBlock)(hr:w'.ownsRow (C+1) 448 2 u ns.length (oV ns))(hu:∀k,u.ownBlock=some k->nv.ownBlock=some k\/w.heap.size<=k):kM (w'.setCell (Ad C 1) u) C v u ⟨c.code,ns,c.free⟩:=by
 have hb:w'.heap[C]? =some (.cells #[v,nv,Im c.free] 197):=(hg.block C h.lt (fun e=>by have:=h.Dt C e.symm;omega)).trans h.aW;have hc:=h.code.kept hg h.apart';refine⟨heap_setCell_same _ _ _ _ _ _ hb,hc.kept (dV w' C 1 u) (Or.inr fun e=>?_),hr.kept (dV w' C 1 u) (Or.inr fun e=>?_),fun g e1 e2=>?_⟩
 .have:=h.BH C e;omega
 .have:=(hr.lt C e).1;omega
 .rcases hu g e2 with e|e
  .exact h.ne g e1 e
  .have:=h.BH g e1;omega
theorem kM.Uj(h:kM w C v nv c)(hg:w.grownBy w' v.ownBlock)(hu:∀k,u.ownBlock=some k->v.ownBlock=some k\/w.heap.size<=k):Gk w (w'.setCell (Ad C 0) u) C:=
 Gk.Xw 0 (Or.inl rfl) hg h.lt (aA h.aW) (fun k hk=>(h.BH k hk).1) hu
theorem kM.Uk(h:kM w C v nv c)(hg:w.grownBy w' nv.ownBlock)(hu:∀k,u.ownBlock=some k->nv.ownBlock=some k\/w.heap.size<=k):Gk w (w'.setCell (Ad C 1) u) C:=
 Gk.Xw 1 (Or.inr rfl) hg h.lt (aA h.aW) (fun k hk=>(h.Dt k hk).1) hu
theorem kM.cut{a:Option Addr}{n cap m:Nat}(h:kM w C v (.slice a n cap) c)(hm:m<=n):kM (w.setCell (Ad C 1) (.slice a m cap)) C v (.slice a m cap) (c.cut m)/\Gk w (w.setCell (Ad C 1) (.slice a m cap)) C:=by
 obtain⟨a',cap',e⟩:=fJ h.au;have hn:n=c.au.length:=by cases e;rfl
 subst hn;have hr:=WL h.au hm;rw[aeR]at hr;have hl:(c.au.take m).length=m:=by rw[List.length_take];omega
 have hk:∀k,(Value.slice a m cap).ownBlock=some k->(Value.slice a c.au.length cap).ownBlock=some k\/w.heap.size<=k:=fun k hk=>Or.inl (by cases a with|none=>cases hk|some ad=>exact hk);refine⟨h.IJ (w':=w) (World.grownBy.refl _ _) (ns:=c.au.take m) ?_ hk,h.Uk (World.grownBy.refl _ _) hk⟩;rw[hl];exact hr
structure zx(w:World)(C k:Nat)(o:Obj):Prop where
 at':w.heap[k]? =some o
 gt:C<k
 row:¬isRow w C k
theorem zx.gk{k:Nat}{o:Obj}(h:zx w C k o)(hl:Gk w w' C):zx w' C k o:=
 ⟨(hl.lK k h.gt (dS h.at') h.row).trans h.at',h.gt,fun e=>by
   rcases hl.row k e with e2|e2
   .exact h.row e2
   .have:=dS h.at';omega⟩
theorem kM.rows(h:kM w C v nv c)(g:Nat)(hg:isRow w C g):v.ownBlock=some g\/nv.ownBlock=some g:=by
 have e0:w.cell? (Ad C 0)=some v:=aA h.aW;have e1:w.cell? (Ad C 1)=some nv:=aA h.aW;rcases hg with⟨x,h1,h2⟩|⟨x,h1,h2⟩
 .rw[e0]at h1;cases h1;exact Or.inl h2
 .rw[e1]at h1;cases h1;exact Or.inr h2
theorem zx.new(hc:aV w C c)(o:Obj):zx (w.alloc o) C w.heap.size o:=by
 have hC:=hc.lt;refine⟨heap_alloc_new w o,hC,fun e=>?_⟩;have e:=(Vm (Below.heap_alloc w o C hC) _).1 e;obtain⟨v,nv,h⟩:=hc;rcases h.rows _ e with e|e
 .have:=h.BH _ e;omega
 .have:=h.Dt _ e;omega
theorem TK:∀(f r:Nat),(zJ f r).length<=f+1
 |0,_=>by simp[zJ]
 |f+1,r=>by
  unfold zJ;split
  .have:=TK f (r/128);simp only[List.length_cons];omega
  .simp
theorem aeS(n:Int):(nY n).length<=10:=TK 9 _
theorem Wi:∀ns:List Int,(ns.flatMap nY).length<=10 * ns.length
 |[]=>by simp
 |n::ns=>by
  have:=Wi ns;have:=aeS n;simp only[List.flatMap_cons,List.length_append,List.length_cons];omega
theorem kG(c:Co)(o:Int)(ns:List Int):(c.lay o ns).code.length<=c.code.length+1+10 * ns.length:=by
 have:=Wi ns;simp only[Co.lay,List.length_append,List.length_cons];omega
end
end
end Go.Proofs.YthllhabjfchgiaaGreatDoor
