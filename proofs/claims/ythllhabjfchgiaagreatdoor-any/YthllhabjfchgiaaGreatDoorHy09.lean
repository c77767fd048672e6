import Derived.Test.YthllhabjfchgiaaGreatDoorHy06
import Derived.Test.YthllhabjfchgiaaGreatDoorHy08
import Derived.Lib.OthersKept
import Derived.Deep.RegionHeld3
import Derived.Deep.CutBlock
import Derived.Deep.DeepCutAuto
import Derived.Scope
import Derived.ScopeJumps
import Derived.Test.YthllhabjfchgiaaGreatDoorHy04
import Derived.Test.YthllhabjfchgiaaGreatDoorHy02
/- (*loader).read. -/
namespace Go.Proofs.YthllhabjfchgiaaGreatDoor
open Go.RowKit
open Hx (St Bk Ls In64)
attribute [local go_sem ↓] Go.wp_at_zero Go.wp_at_succ
attribute [local go_sem] setCell_drewN'
variable {B : Nat} {w : World} {L : Nat} {s : ByteArray} {l : Ls} {vs vb vl : Value}

theorem LoadIn.putPos (h : LoadIn B w L s l vs vb vl) (x : Int) : LoadIn B (w.setCell ⟨L, 1, none⟩ (.int .i64 x)) L s { l with pos := x } vs vb vl := by
  have hc : ∀ j, j ≠ 1 → (w.setCell ⟨L, 1, none⟩ (.int .i64 x)).cell? ⟨L, j, none⟩ = w.cell? ⟨L, j, none⟩ := fun j hj => World.cell?_setCell_other _ _ _ _ (by intro e; cases e; exact hj rfl)
  exact h.put 1 _ _ vs vb vl (World.cell?_setCell_same _ _ _ h.c1) (by rw [hc 2 (by omega)]; exact h.c2) (by rw [hc 3 (by omega)]; exact h.c3) (by rw [hc 4 (by omega)]; exact h.c4) (by rw [hc 5 (by omega)]; exact h.c5) (by rw [hc 6 (by omega)]; exact h.c6) (by rw [hc 7 (by omega)]; exact h.c7) (by omega) h.steps h.blocks h.loops h.ns h.nb h.nl h.sb h.sl h.bl

def takeOk (c n : Int) : Bool := if c = 115 then decide (0 ≤ n ∧ n < 2008) else if c = 108 then decide (0 ≤ n ∧ n < 3) else true
def takeSl (c n sl : Int) : Int := if c = 115 ∧ 0 ≤ n ∧ n < 2008 then max sl (n + 1) else sl

theorem take_all (h : LoadIn B w L s l vs vb vl) (c n : Int) :
    Calls Tryz.prog 167 #[.pointer (some ⟨L, 0, none⟩), .int .i32 c, .int .i64 n] w fun e w' => e = .returned (.bool (takeOk c n)) ∧ LoadIn B w' L s { l with slots := takeSl c n l.slots } vs vb vl ∧ Moves L w vs vb vl w' vs vb vl := by
  by_cases h1 : c = 115
  · subst h1
    by_cases h2 : 0 ≤ n ∧ n < 2008
    · refine (take_slot h n h2.1 h2.2).mono ?_
      rintro e w' ⟨rfl, g1, g2⟩
      refine ⟨by simp [takeOk, h2], ?_, g2⟩
      rw [show takeSl 115 n l.slots = max l.slots (n + 1) by simp [takeSl, h2]]
      exact g1
    · refine (take_bad h n (by omega)).mono ?_
      rintro e w' ⟨rfl, rfl⟩
      refine ⟨by simp [takeOk, h2], ?_, Moves.refl _ _ _ _ _⟩
      rw [show takeSl 115 n l.slots = l.slots by simp [takeSl]; omega]
      exact h
  · have hsl : takeSl c n l.slots = l.slots := by simp [takeSl, h1]
    by_cases h2 : c = 108
    · subst h2
      refine (take_list n w L).mono ?_
      rintro e w' ⟨rfl, rfl⟩
      rw [hsl]
      exact ⟨by simp [takeOk], h, Moves.refl _ _ _ _ _⟩
    · refine (take_any_number c n w L (by simpa using h1) (by simpa using h2)).mono ?_
      rintro e w' ⟨rfl, rfl⟩
      rw [hsl]
      exact ⟨by simp [takeOk, h1, h2], h, Moves.refl _ _ _ _ _⟩

/-- a block that is not the loader's turns -/
theorem LoadIn.far (h : LoadIn B w L s l vs vb vl) {w' : World} {g : Nat} (hg : w.grownBy w' (some g)) (hL : L ≠ g) (h1 : vs.ownBlock ≠ some g) (h2 : vb.ownBlock ≠ some g) (h3 : vl.ownBlock ≠ some g) : LoadIn B w' L s l vs vb vl := by
  have hb : w'.heap[L]? = w.heap[L]? := hg.block L h.lt (by simpa using hL)
  have hc : ∀ j, w'.cell? ⟨L, j, none⟩ = w.cell? ⟨L, j, none⟩ := fun j => World.cell?_of_block hb
  have hf : ∀ j, w'.frozen? ⟨L, j, none⟩ = w.frozen? ⟨L, j, none⟩ := fun j => World.frozen?_of_block hb
  exact ⟨h.bL, by rw [hc]; exact h.c0, by rw [hc]; exact h.c1, by rw [hc]; exact h.c2, by rw [hc]; exact h.c3, by rw [hc]; exact h.c4, by rw [hc]; exact h.c5, by rw [hc]; exact h.c6, by rw [hc]; exact h.c7,
    fun j => by rw [hf]; exact h.fr j, h.steps.kept hg (Or.inr h1), h.blocks.kept hg (Or.inr h2), h.loops.kept hg (Or.inr h3), h.ns, h.nb, h.nl, h.sb, h.sl, h.bl⟩

theorem Moves.far {w0 : World} {vs0 vb0 vl0 : Value} (h : Moves L w0 vs0 vb0 vl0 w vs vb vl) {w' : World} {g : Nat} (hg : w.grownBy w' (some g)) (hn : w0.heap.size ≤ g) : Moves L w0 vs0 vb0 vl0 w' vs vb vl :=
  ⟨hg.os.trans h.os, hg.tape.trans h.tape, hg.output.trans h.output, Nat.le_trans h.size hg.size,
    fun k hk h1 h2 h3 h4 => by rw [hg.block k (Nat.lt_of_lt_of_le hk h.size) (by intro e; cases e; omega)]; exact h.block k hk h1 h2 h3 h4, h.fs, h.fb, h.fl⟩

theorem grown_set (w : World) (g o : Nat) (u : Value) : w.grownBy (w.setCell ⟨g, o, none⟩ u) (some g) :=
  ⟨rfl, rfl, rfl, by simp, fun k _ hne => Below.heap_setCell _ _ _ _ (by intro e; subst e; exact hne rfl)⟩

theorem grown_iter (w : World) (g : Nat) (u : ByteArray) (k : Nat) : w.grownBy (w.iterAt g u k) (some g) :=
  ⟨rfl, rfl, rfl, by rw [Lib.iterAt_size]; exact Nat.le_refl _, fun j _ hne => Lib.iterAt_other _ _ _ _ _ (by intro e; subst e; exact hne rfl)⟩

def boxArr (q : Int) (ns : List Int) : Array Value := #[.int .u8 q, .int .i64 (ns.getD 0 0), .int .i64 (ns.getD 1 0), .int .i64 (ns.getD 2 0), .int .i64 (ns.getD 3 0), .int .i64 0, .int .i64 0]

theorem boxArr_set (q : Int) (ns : List Int) (n : Int) (h : ns.length < 4) : (boxArr q ns).setIfInBounds (1 + ns.length) (.int .i64 n) = boxArr q (ns ++ [n]) := by
  match ns, h with
  | [], _ => rfl
  | [a], _ => rfl
  | [a, b], _ => rfl
  | [a, b, c], _ => rfl

theorem shape_small (o : Int) : (Hx.shape o).length ≤ 4 ∧ ∀ c ∈ Hx.shape o, c.toNat < 128 := by
  unfold Hx.shape
  repeat' split
  all_goals exact ⟨by decide, by decide⟩

/-- the loader, and what read has laid in memory -/
structure ReadMid (B : Nat) (w : World) (L : Nat) (s : ByteArray) (l : Ls) (vs vb vl : Value) (cs : List UInt8) (q : Int) (wr : World) (k p : Nat) (sl : Int) (ns : List Int) : Prop where
  load : LoadIn B wr L s { l with pos := p, slots := sl } vs vb vl
  moves : Moves L w vs vb vl wr vs vb vl
  iter : wr.heap[w.heap.size + 1 + 1]? = some (.stringIter ⟨cs.toArray⟩ k)
  box : wr.heap[w.heap.size + 1]? = some (.cells (boxArr q ns) 125)
  out : wr.heap[w.heap.size]? = some (.cells (boxArr 0 []) 125)
  lt : L < w.heap.size
  own : ∀ g, w.heap.size ≤ g → vs.ownBlock ≠ some g ∧ vb.ownBlock ≠ some g ∧ vl.ownBlock ≠ some g

/-- where the numbers are being read -/
structure ReadAt (B : Nat) (w : World) (L : Nat) (s : ByteArray) (l : Ls) (vs vb vl : Value) (cs : List UInt8) (q : Int) (R : Option (List Int × Nat × Int)) (wr : World) (k p : Nat) (sl : Int) (ns : List Int) : Prop where
  mid : ReadMid B w L s l vs vb vl cs q wr k p sl ns
  len : ns.length = k
  kl : k ≤ cs.length
  ps : p ≤ s.size
  eq : R = (readNums s.data.toList (cs.drop k) p sl).map fun r => (ns ++ r.1, r.2)

/-- cells of a block -/
theorem cell_at {g j : Nat} {a : Array Value} {T : TypeId} (h : w.heap[g]? = some (.cells a T)) : w.cell? ⟨g, j, none⟩ = a[j]? := by simp [World.cell?, h]
theorem frozen_at {g j : Nat} {a : Array Value} {T : TypeId} (h : w.heap[g]? = some (.cells a T)) : w.frozen? ⟨g, j, none⟩ = false := by simp [World.frozen?, h]

theorem three_new (w : World) (o1 o2 o3 : Obj) (k : Nat) : ((((w.alloc o1).drewN k).alloc o2).alloc o3).heap[w.heap.size]? = some o1 ∧ ((((w.alloc o1).drewN k).alloc o2).alloc o3).heap[w.heap.size + 1]? = some o2 ∧ ((((w.alloc o1).drewN k).alloc o2).alloc o3).heap[w.heap.size + 1 + 1]? = some o3 := by
  have e : ((((w.alloc o1).drewN k).alloc o2).alloc o3).heap = ((w.heap.push o1).push o2).push o3 := rfl
  rw [e]
  refine ⟨?_, ?_, ?_⟩
  · rw [Array.getElem?_push, if_neg (by simp; omega), Array.getElem?_push, if_neg (by simp), Array.getElem?_push, if_pos rfl]
  · rw [Array.getElem?_push, if_neg (by simp), Array.getElem?_push, if_pos (by simp)]
  · rw [Array.getElem?_push, if_pos (by simp)]

section
variable {wr : World} {cs : List UInt8} {q : Int} {k p : Nat} {sl : Int} {ns : List Int}

theorem lt_of_some {g : Nat} {o : Obj} (h : w.heap[g]? = some o) : g < w.heap.size := by
  rcases Nat.lt_or_ge g w.heap.size with h' | h'
  · exact h'
  · rw [Array.getElem?_eq_none h'] at h; cases h

theorem ReadMid.next (h : ReadMid B w L s l vs vb vl cs q wr k p sl ns) : ReadMid B w L s l vs vb vl cs q (wr.iterAt (w.heap.size + 1 + 1) ⟨cs.toArray⟩ (k + 1)) (k + 1) p sl ns := by
  obtain ⟨o1, o2, o3⟩ := h.own (w.heap.size + 1 + 1) (by omega)
  have hg := grown_iter wr (w.heap.size + 1 + 1) ⟨cs.toArray⟩ (k + 1)
  have hL := h.lt
  refine ⟨h.load.far hg (by omega) o1 o2 o3, h.moves.far hg (by omega), Lib.iterAt_heap _ _ _ _ _ h.iter, ?_, ?_, h.lt, h.own⟩
  · rw [Lib.iterAt_other _ _ _ _ _ (by omega)]; exact h.box
  · rw [Lib.iterAt_other _ _ _ _ _ (by omega)]; exact h.out

theorem ReadMid.drewN (h : ReadMid B w L s l vs vb vl cs q wr k p sl ns) (n : Nat) : ReadMid B w L s l vs vb vl cs q (wr.drewN n) k p sl ns :=
  ⟨h.load.drewN n, h.moves.trans (Moves.grow L _ _ _ _ (grown_drewN _ n)), h.iter, h.box, h.out, h.lt, h.own⟩

theorem ReadMid.took (h : ReadMid B w L s l vs vb vl cs q wr k p sl ns) {w2 : World} {sl' : Int} (hl : LoadIn B w2 L s { l with pos := p, slots := sl' } vs vb vl) (hm : Moves L wr vs vb vl w2 vs vb vl) : ReadMid B w L s l vs vb vl cs q w2 k p sl' ns := by
  have hL := h.lt
  have key : ∀ g o, w.heap.size ≤ g → wr.heap[g]? = some o → w2.heap[g]? = some o := fun g o hg ho => by
    obtain ⟨o1, o2, o3⟩ := h.own g hg
    rw [hm.block g (lt_of_some ho) (by omega) (fun e => o1 e.symm) (fun e => o2 e.symm) (fun e => o3 e.symm)]
    exact ho
  exact ⟨hl, h.moves.trans hm, key _ _ (by omega) h.iter, key _ _ (by omega) h.box, key _ _ (by omega) h.out, h.lt, h.own⟩

theorem ReadMid.store (h : ReadMid B w L s l vs vb vl cs q wr k p sl ns) (n : Int) (hn : ns.length < 4) (p' : Nat) : ReadMid B w L s l vs vb vl cs q ((wr.setCell ⟨w.heap.size + 1, 1 + ns.length, none⟩ (.int .i64 n)).setCell ⟨L, 1, none⟩ (.int .i64 p')) k p' sl (ns ++ [n]) := by
  obtain ⟨o1, o2, o3⟩ := h.own (w.heap.size + 1) (by omega)
  have hg := grown_set wr (w.heap.size + 1) (1 + ns.length) (.int .i64 n)
  have hL := h.lt
  have h1 := h.load.far hg (by omega) o1 o2 o3
  have h2 := h1.putPos (p' : Int)
  refine ⟨h2, (h.moves.far hg (by omega)).trans (Moves.own L _ _ _ _ 1 _), ?_, ?_, ?_, h.lt, h.own⟩
  · rw [Below.heap_setCell _ _ _ _ (by show _ ≠ L; omega), Below.heap_setCell _ _ _ _ (by show _ ≠ w.heap.size + 1; omega)]; exact h.iter
  · rw [Below.heap_setCell _ _ _ _ (by show _ ≠ L; omega), heap_setCell_same _ _ _ _ _ _ h.box, boxArr_set _ _ _ hn]
  · rw [Below.heap_setCell _ _ _ _ (by show _ ≠ L; omega), Below.heap_setCell _ _ _ _ (by show _ ≠ w.heap.size + 1; omega)]; exact h.out

/-- the loader, whatever stands in read's result -/
def Outs (B : Nat) (w : World) (L : Nat) (s : ByteArray) (l : Ls) (vs vb vl : Value) (x : World) : Prop :=
  LoadIn B x L s l vs vb vl ∧ Moves L w vs vb vl x vs vb vl ∧ L < w.heap.size ∧ ∀ g, w.heap.size ≤ g → vs.ownBlock ≠ some g ∧ vb.ownBlock ≠ some g ∧ vl.ownBlock ≠ some g

theorem ReadMid.outs (h : ReadMid B w L s l vs vb vl cs q wr k p sl ns) : Outs B w L s { l with pos := p, slots := sl } vs vb vl wr := ⟨h.load, h.moves, h.lt, h.own⟩

theorem Outs.set {x : World} (h : Outs B w L s l vs vb vl x) (j : Nat) (a : Value) : Outs B w L s l vs vb vl (x.setCell ⟨w.heap.size, j, none⟩ a) := by
  obtain ⟨h1, h2, h3, h4⟩ := h
  obtain ⟨o1, o2, o3⟩ := h4 w.heap.size (Nat.le_refl _)
  exact ⟨h1.far (grown_set _ _ _ _) (by omega) o1 o2 o3, h2.far (grown_set _ _ _ _) (Nat.le_refl _), h3, h4⟩

theorem Outs.drewN {x : World} (h : Outs B w L s l vs vb vl x) (k : Nat) : Outs B w L s l vs vb vl (x.drewN k) :=
  ⟨h.1.drewN k, h.2.1.trans (Moves.grow L _ _ _ _ (grown_drewN _ k)), h.2.2⟩

theorem readNums_step (bs : List UInt8) (c : UInt8) (cs' : List UInt8) (p : Nat) (sl : Int) (ns : List Int) : ((readNums bs (c :: cs') p sl).map fun r => (ns ++ r.1, r.2)) =
    if (Hx.read bs p).2 = 0 then none else if takeOk c.toNat (Hx.read bs p).1 = false then none
    else (readNums bs cs' (p + (Hx.read bs p).2.toNat) (takeSl c.toNat (Hx.read bs p).1 sl)).map fun r => (ns ++ [(Hx.read bs p).1] ++ r.1, r.2) := by
  have e1 : c = 115 ↔ (c.toNat : Int) = 115 := ⟨fun e => by rw [e]; rfl, fun e => by
    have : c.toNat = 115 := by omega
    exact UInt8.toNat_inj.1 this⟩
  have e2 : c = 108 ↔ (c.toNat : Int) = 108 := ⟨fun e => by rw [e]; rfl, fun e => by
    have : c.toNat = 108 := by omega
    exact UInt8.toNat_inj.1 this⟩
  simp only [readNums, takeOk, takeSl, e1, e2]
  generalize (Hx.read bs p).1 = n
  generalize (Hx.read bs p).2 = z
  generalize (c.toNat : Int) = x
  by_cases hz : z = 0
  · simp [hz]
  simp only [if_neg hz]
  by_cases h1 : x = 115
  · by_cases h2 : 0 ≤ n ∧ n < 2008
    · have h3 : ¬ (n < 0 ∨ 2008 ≤ n) := by omega
      simp [h1, h2, h3, Option.map_map, Function.comp_def]
    · have h3 : n < 0 ∨ 2008 ≤ n := by omega
      simp [h1, h2, h3]
  · by_cases h2 : x = 108
    · by_cases h3 : 0 ≤ n ∧ n < 3
      · simp [h2, h3, Option.map_map, Function.comp_def]
      · simp [h2, h3]
    · simp [h1, h2, Option.map_map, Function.comp_def]
end

/-- a step stored whole -/
theorem set7 (w : World) (g : Nat) (T : TypeId) (a0 a1 a2 a3 a4 a5 a6 v0 v1 v2 v3 v4 v5 v6 : Value) (h : w.heap[g]? = some (.cells #[a0, a1, a2, a3, a4, a5, a6] T)) :
    (((((((w.setCell ⟨g, 0, none⟩ v0).setCell ⟨g, 1, none⟩ v1).setCell ⟨g, 2, none⟩ v2).setCell ⟨g, 3, none⟩ v3).setCell ⟨g, 4, none⟩ v4).setCell ⟨g, 5, none⟩ v5).setCell ⟨g, 6, none⟩ v6).heap[g]? = some (.cells #[v0, v1, v2, v3, v4, v5, v6] T) := by
  have h0 : (w.setCell ⟨g, 0, none⟩ v0).heap[g]? = some (.cells #[v0, a1, a2, a3, a4, a5, a6] T) := heap_setCell_same _ _ _ _ _ _ h
  have h1 : ((w.setCell ⟨g, 0, none⟩ v0).setCell ⟨g, 1, none⟩ v1).heap[g]? = some (.cells #[v0, v1, a2, a3, a4, a5, a6] T) := heap_setCell_same _ _ _ _ _ _ h0
  have h2 : (((w.setCell ⟨g, 0, none⟩ v0).setCell ⟨g, 1, none⟩ v1).setCell ⟨g, 2, none⟩ v2).heap[g]? = some (.cells #[v0, v1, v2, a3, a4, a5, a6] T) := heap_setCell_same _ _ _ _ _ _ h1
  have h3 : ((((w.setCell ⟨g, 0, none⟩ v0).setCell ⟨g, 1, none⟩ v1).setCell ⟨g, 2, none⟩ v2).setCell ⟨g, 3, none⟩ v3).heap[g]? = some (.cells #[v0, v1, v2, v3, a4, a5, a6] T) := heap_setCell_same _ _ _ _ _ _ h2
  have h4 : (((((w.setCell ⟨g, 0, none⟩ v0).setCell ⟨g, 1, none⟩ v1).setCell ⟨g, 2, none⟩ v2).setCell ⟨g, 3, none⟩ v3).setCell ⟨g, 4, none⟩ v4).heap[g]? = some (.cells #[v0, v1, v2, v3, v4, a5, a6] T) := heap_setCell_same _ _ _ _ _ _ h3
  have h5 : ((((((w.setCell ⟨g, 0, none⟩ v0).setCell ⟨g, 1, none⟩ v1).setCell ⟨g, 2, none⟩ v2).setCell ⟨g, 3, none⟩ v3).setCell ⟨g, 4, none⟩ v4).setCell ⟨g, 5, none⟩ v5).heap[g]? = some (.cells #[v0, v1, v2, v3, v4, v5, a6] T) := heap_setCell_same _ _ _ _ _ _ h4
  have h6 : (((((((w.setCell ⟨g, 0, none⟩ v0).setCell ⟨g, 1, none⟩ v1).setCell ⟨g, 2, none⟩ v2).setCell ⟨g, 3, none⟩ v3).setCell ⟨g, 4, none⟩ v4).setCell ⟨g, 5, none⟩ v5).setCell ⟨g, 6, none⟩ v6).heap[g]? = some (.cells #[v0, v1, v2, v3, v4, v5, v6] T) := heap_setCell_same _ _ _ _ _ _ h5
  exact h6

theorem out_zero (x : World) (g : Nat) (T : TypeId) (h : x.heap[g]? = some (.cells (boxArr 0 []) T)) : (((((((x.setCell ⟨g, 0, none⟩ (.int .u8 0)).setCell ⟨g, 1, none⟩ (.int .i64 0)).setCell ⟨g, 2, none⟩ (.int .i64 0)).setCell ⟨g, 3, none⟩ (.int .i64 0)).setCell ⟨g, 4, none⟩ (.int .i64 0)).setCell ⟨g, 5, none⟩ (.int .i64 0)).setCell ⟨g, 6, none⟩ (.int .i64 0)).heap[g]? = some (.cells (boxArr 0 []) T) := set7 x g T _ _ _ _ _ _ _ _ _ _ _ _ _ _ h
theorem out_zeroN (x : World) (g : Nat) (T : TypeId) (k : Nat) (h : x.heap[g]? = some (.cells (boxArr 0 []) T)) : ((((((((x.setCell ⟨g, 0, none⟩ (.int .u8 0)).setCell ⟨g, 1, none⟩ (.int .i64 0)).setCell ⟨g, 2, none⟩ (.int .i64 0)).setCell ⟨g, 3, none⟩ (.int .i64 0)).setCell ⟨g, 4, none⟩ (.int .i64 0)).setCell ⟨g, 5, none⟩ (.int .i64 0)).setCell ⟨g, 6, none⟩ (.int .i64 0)).drewN k).heap[g]? = some (.cells (boxArr 0 []) T) := by
  rw [show ∀ y : World, (y.drewN k).heap = y.heap from fun _ => rfl]
  exact out_zero x g T h
theorem out_box (x : World) (g : Nat) (T : TypeId) (q : Int) (ns : List Int) (h : x.heap[g]? = some (.cells (boxArr 0 []) T)) : (((((((x.setCell ⟨g, 0, none⟩ (.int .u8 q)).setCell ⟨g, 1, none⟩ (.int .i64 (ns.getD 0 0))).setCell ⟨g, 2, none⟩ (.int .i64 (ns.getD 1 0))).setCell ⟨g, 3, none⟩ (.int .i64 (ns.getD 2 0))).setCell ⟨g, 4, none⟩ (.int .i64 (ns.getD 3 0))).setCell ⟨g, 5, none⟩ (.int .i64 0)).setCell ⟨g, 6, none⟩ (.int .i64 0)).heap[g]? = some (.cells (boxArr q ns) T) := set7 x g T _ _ _ _ _ _ _ _ _ _ _ _ _ _ h

theorem read_results (tmps : Array Value) (w : World) (g : Nat) (q : Int) (ns : List Int) (b : Bool) (h2 : tmps[2]? = some (.pointer (some ⟨g, 0, none⟩))) (h3 : tmps[3]? = some (.bool b)) (h : w.heap[g]? = some (.cells (boxArr q ns) 125)) :
    (results Tryz.f112 tmps).run Tryz.prog w = .ok (.tuple #[.agg (boxArr q ns), .bool b]) w := by
  have q0 : w.cell? ⟨g, 0, none⟩ = some (.int .u8 q) := cell_at h
  have q1 : w.cell? ⟨g, 1, none⟩ = some (.int .i64 (ns.getD 0 0)) := cell_at h
  have q2 : w.cell? ⟨g, 2, none⟩ = some (.int .i64 (ns.getD 1 0)) := cell_at h
  have q3 : w.cell? ⟨g, 3, none⟩ = some (.int .i64 (ns.getD 2 0)) := cell_at h
  have q4 : w.cell? ⟨g, 4, none⟩ = some (.int .i64 (ns.getD 3 0)) := cell_at h
  have q5 : w.cell? ⟨g, 5, none⟩ = some (.int .i64 0) := cell_at h
  have q6 : w.cell? ⟨g, 6, none⟩ = some (.int .i64 0) := cell_at h
  simp [results, Tryz.results112, go_sem, h2, h3, q0, q1, q2, q3, q4, q5, q6, boxArr]

/-- what read gives: a step, or nothing -/
def ReadPost (B : Nat) (w : World) (L : Nat) (s : ByteArray) (l : Ls) (vs vb vl : Value) (q : Int) (ok : Bool) (R : Option (List Int × Nat × Int)) (e : Ending) (w' : World) : Prop :=
  ∃ l', LoadIn B w' L s l' vs vb vl ∧ Moves L w vs vb vl w' vs vb vl ∧
      ((∃ ns p' sl', R = some (ns, p', sl') ∧ l' = { l with pos := p', slots := sl' } ∧ e = .returned (.tuple #[.agg (boxArr q ns), .bool ok])) ∨
       (R = none ∧ (∃ x y, l' = { l with pos := x, slots := y }) ∧ e = .returned (.tuple #[.agg (boxArr 0 []), .bool false])))

theorem ReadPost.none {q : Int} {ok : Bool} {R : Option (List Int × Nat × Int)} {p : Nat} {sl : Int} {x : World} (h : Outs B w L s { l with pos := p, slots := sl } vs vb vl x) (hR : R = none) : ReadPost B w L s l vs vb vl q ok R (.returned (.tuple #[.agg (boxArr 0 []), .bool false])) x :=
  ⟨_, h.1, h.2.1, Or.inr ⟨hR, ⟨_, _, rfl⟩, rfl⟩⟩

set_option maxRecDepth 100000 in
set_option maxHeartbeats 2000000 in
theorem read_more (h : LoadIn B w L s l vs vb vl) (p : Nat) (hp : l.pos = p) (hlt : p < s.size) (hs : s.size ≤ 100000) (R : Option (List Int × Nat × Int)) (HR : Hid (readNums s.data.toList (Hx.shape s[p].toNat) (p + 1) l.slots = R)) :
    Calls Tryz.prog 112 #[.pointer (some ⟨L, 0, none⟩)] w (ReadPost B w L s l vs vb vl s[p].toNat (Hx.isOp s[p].toNat) R) := by
  have c0 := h.c0
  have c1 := h.c1
  have f1 := h.fr 1
  have hL := h.lt
  rw [hp] at c1
  have n1 : ¬ L = w.heap.size := by omega
  have n2 : ¬ L = w.heap.size + 1 := by omega
  have d1 : ((p : Int) == (s.size : Int)) = false := by simp; omega
  have i0 : (0 : Int) ≤ (p : Int) := by omega
  have i1 : (p : Int) < (s.size : Int) := by omega
  have hsm := shape_small s[p].toNat
  have HS : Hid (∀ w, Calls Tryz.prog 165 #[.int .u8 s[p].toNat] w fun e w' => e = .returned (.tuple #[.string ⟨(Hx.shape s[p].toNat).toArray⟩, .bool (Hx.isOp s[p].toNat)]) ∧ w' = w) := fun w => shape_any _ w (by omega)
  generalize Hx.isOp s[p].toNat = ok at *
  generalize Hx.shape s[p].toNat = cs at *
  have HA : Hid (∀ k, ReadAt B w L s l vs vb vl cs s[p].toNat R (((((w.setCell ⟨L, 1, none⟩ (.int .i64 ((p : Int) + 1))).alloc (.cells #[.int .u8 0, .int .i64 0, .int .i64 0, .int .i64 0, .int .i64 0, .int .i64 0, .int .i64 0] 125)).drewN k).alloc (.cells #[.int .u8 s[p].toNat, .int .i64 0, .int .i64 0, .int .i64 0, .int .i64 0, .int .i64 0, .int .i64 0] 125)).iter ⟨cs.toArray⟩ 0) 0 (p + 1) l.slots []) := fun k => by
    have e1 : ((p : Int) + 1) = ((p + 1 : Nat) : Int) := by omega
    refine ⟨⟨?_, ?_, ?_, ?_, ?_, hL, fun g hg => ⟨fun e => ?_, fun e => ?_, fun e => ?_⟩⟩, rfl, Nat.zero_le _, by omega, ?_⟩
    · rw [e1]
      exact ((((h.putPos ((p + 1 : Nat) : Int)).alloc _).drewN k).alloc _).alloc _
    · exact (Moves.own L w vs vb vl 1 _).trans ((Moves.grow L _ _ _ _ (World.grownBy_alloc _ _ none)).trans ((Moves.grow L _ _ _ _ (grown_drewN _ k)).trans ((Moves.grow L _ _ _ _ (World.grownBy_alloc _ _ none)).trans (Moves.grow L _ _ _ _ (World.grownBy_alloc _ _ none)))))
    · have := (three_new (w.setCell ⟨L, 1, none⟩ (.int .i64 ((p : Int) + 1))) (.cells #[.int .u8 0, .int .i64 0, .int .i64 0, .int .i64 0, .int .i64 0, .int .i64 0, .int .i64 0] 125) (.cells #[.int .u8 s[p].toNat, .int .i64 0, .int .i64 0, .int .i64 0, .int .i64 0, .int .i64 0, .int .i64 0] 125) (.stringIter ⟨cs.toArray⟩ 0) k).2.2
      rwa [World.size_setCell] at this
    · have := (three_new (w.setCell ⟨L, 1, none⟩ (.int .i64 ((p : Int) + 1))) (.cells #[.int .u8 0, .int .i64 0, .int .i64 0, .int .i64 0, .int .i64 0, .int .i64 0, .int .i64 0] 125) (.cells #[.int .u8 s[p].toNat, .int .i64 0, .int .i64 0, .int .i64 0, .int .i64 0, .int .i64 0, .int .i64 0] 125) (.stringIter ⟨cs.toArray⟩ 0) k).2.1
      rwa [World.size_setCell] at this
    · have := (three_new (w.setCell ⟨L, 1, none⟩ (.int .i64 ((p : Int) + 1))) (.cells #[.int .u8 0, .int .i64 0, .int .i64 0, .int .i64 0, .int .i64 0, .int .i64 0, .int .i64 0] 125) (.cells #[.int .u8 s[p].toNat, .int .i64 0, .int .i64 0, .int .i64 0, .int .i64 0, .int .i64 0, .int .i64 0] 125) (.stringIter ⟨cs.toArray⟩ 0) k).1
      rwa [World.size_setCell] at this
    · have := (h.steps.lt g e).2; omega
    · have := (h.blocks.lt g e).2; omega
    · have := (h.loops.lt g e).2; omega
    · rw [← HR.out, List.drop_zero]
      cases readNums s.data.toList cs (p + 1) l.slots with
      | none => rfl
      | some r => rfl
  clear h
  go_enter Tryz.func112, Tryz.ntmps112
  go_wp2_with fail
  refine wp_quiet_tail 9 (by kernel_rfl) (by kernel_rfl) ?_
  simp only [List.take_succ_cons, List.take_zero, List.drop_succ_cons, List.drop_zero]
  repeat (go_big_quiet_step (fail))
  refine wpQuiet_nil ?_
  intro _ hw'
  obtain ⟨k1, hw''⟩ := hw'
  subst hw''
  go_upto_region 3 with fail
  go_cut [4] (fun x wx => x = .pointer (some ⟨w.heap.size + 1, 0, none⟩) ∧ wx = ((w.alloc (.cells #[.int .u8 0, .int .i64 0, .int .i64 0, .int .i64 0, .int .i64 0, .int .i64 0, .int .i64 0] 125)).drewN (k1 + 1)).alloc (.cells #[.int .u8 s[p].toNat, .int .i64 0, .int .i64 0, .int .i64 0, .int .i64 0, .int .i64 0, .int .i64 0] 125))
  case first =>
    go_region_held3 (fun w' => w'.cell? ⟨L, 0, none⟩ = some (.string s) ∧ w'.cell? ⟨L, 1, none⟩ = some (.int .i64 p)) (go_keep) (fail)
    all_goals (go_wp2_with fail; go_meet; exact ⟨rfl, rfl⟩)
  case rest =>
    obtain ⟨rfl, rfl⟩ := hcut
    go_wp2_with (go_at_call 165; refine (HS.out _).mono ?_; rintro e w1 ⟨rfl, rfl⟩)
    clear HS HR
    go_loopw [7, 8, 9, 10] (fun _ _ _ _ wr => ∃ (k pp : Nat) (sl : Int) (ns : List Int), ReadAt B w L s l vs vb vl cs s[p].toNat R wr k pp sl ns) (fun _ _ _ _ wr => cs.length - wr.iterPos (w.heap.size + 1 + 1))
    case atStart => exact ⟨0, p + 1, l.slots, [], HA.out _⟩
    case round =>
      obtain ⟨k, pp, sl, ns, hr⟩ := hrel
      clear HA
      by_cases hk : k < cs.length
      · have hkc : cs.drop k = cs[k] :: cs.drop (k + 1) := List.drop_eq_getElem_cons hk
        have hk' : k < (⟨cs.toArray⟩ : ByteArray).size := by simpa [ByteArray.size] using hk
        have hget : (⟨cs.toArray⟩ : ByteArray)[k]'hk' = cs[k] := rfl
        have hnext : ∀ ty, (Instr.next (.pointer (some ⟨w.heap.size + 1 + 1, 0, none⟩)) true ty).run Tryz.prog wr = .ok (.tuple #[.bool true, .int .i64 k, .int .i32 (cs[k].toNat)]) (wr.iterAt (w.heap.size + 1 + 1) ⟨cs.toArray⟩ (k + 1)) := fun ty => by
          have := Lib.run_next_ascii_at (P := Tryz.prog) wr (w.heap.size + 1 + 1) ⟨cs.toArray⟩ k ty hr.mid.iter hk' (by rw [hget]; exact hsm.2 _ (List.getElem_mem hk))
          rw [this, hget]
        have hmu : wr.iterPos (w.heap.size + 1 + 1) = k := by simp [World.iterPos, hr.mid.iter]
        have hmid := hr.mid.next
        have heq := hr.eq
        rw [hkc, readNums_step] at heq
        have hlen := hr.len
        have hps := hr.ps
        clear hr
        generalize cs[k] = c at *
        generalize wr.iterAt (w.heap.size + 1 + 1) ⟨cs.toArray⟩ (k + 1) = W1 at *
        obtain ⟨b0, b1, b2⟩ := Hx.in_read s.data.toList pp (by simpa using hps)
        have HRd : Hid (∀ w, Calls Tryz.prog 166 #[.string s, .int .i64 pp] w fun e w' => e = .returned (.tuple #[.int .i64 (Hx.read s.data.toList pp).1, .int .i64 (Hx.read s.data.toList pp).2]) ∧ w' = w) := fun w => read_any s pp w hs hps
        generalize (Hx.read s.data.toList pp).1 = n at *
        generalize (Hx.read s.data.toList pp).2 = z at *
        obtain ⟨z, rfl⟩ := Int.eq_ofNat_of_zero_le b1
        have m0 := hmid.load.c0
        have m1 := hmid.load.c1
        simp only at m1
        have r0 : W1.cell? ⟨w.heap.size, 0, none⟩ = some (.int .u8 0) := cell_at hmid.out
        have r1 : W1.cell? ⟨w.heap.size, 1, none⟩ = some (.int .i64 0) := cell_at hmid.out
        have r2 : W1.cell? ⟨w.heap.size, 2, none⟩ = some (.int .i64 0) := cell_at hmid.out
        have r3 : W1.cell? ⟨w.heap.size, 3, none⟩ = some (.int .i64 0) := cell_at hmid.out
        have r4 : W1.cell? ⟨w.heap.size, 4, none⟩ = some (.int .i64 0) := cell_at hmid.out
        have r5 : W1.cell? ⟨w.heap.size, 5, none⟩ = some (.int .i64 0) := cell_at hmid.out
        have r6 : W1.cell? ⟨w.heap.size, 6, none⟩ = some (.int .i64 0) := cell_at hmid.out
        have rf : ∀ j, W1.frozen? ⟨w.heap.size, j, none⟩ = false := fun j => frozen_at hmid.out
        have HM : Hid (ReadMid B w L s l vs vb vl cs s[p].toNat W1 (k + 1) pp sl ns) := hmid
        have HE : Hid (R = if ((z : Nat) : Int) = 0 then none else if takeOk c.toNat n = false then none else (readNums s.data.toList (cs.drop (k + 1)) (pp + ((z : Nat) : Int).toNat) (takeSl c.toNat n sl)).map fun r => (ns ++ [n] ++ r.1, r.2)) := heq
        clear hmid heq
        by_cases hz : z = 0
        · subst hz
          go_wp2_with fail
          refine wp_quiet_tail 13 (by kernel_rfl) (by kernel_rfl) ?_
          simp only [List.take_succ_cons, List.take_zero, List.drop_succ_cons, List.drop_zero]
          repeat (go_big_quiet_step ((go_at_call 166; exact Calls.quiet_of_same (HRd.out _))))
          refine wpQuiet_nil ?_
          intro _ hw'
          obtain ⟨k3, hw''⟩ := hw'
          subst hw''
          go_wp2_with fail
          have hno : R = none := by rw [HE.out]; simp
          refine bodyPost_ret (read_results _ _ w.heap.size 0 [] false rfl rfl (out_zeroN W1 w.heap.size 125 k3 HM.out.out)) rfl ?_
          exact ReadPost.none ((((((((HM.out.outs.set _ _).set _ _).set _ _).set _ _).set _ _).set _ _).set _ _).drewN _) hno
        · have dz : (((z : Nat) : Int) == 0) = false := by simp; omega
          have HT : Hid (∀ kk, Calls Tryz.prog 167 #[.pointer (some ⟨L, 0, none⟩), .int .i32 c.toNat, .int .i64 n] (W1.drewN kk) fun e w' => e = .returned (.bool (takeOk c.toNat n)) ∧ ReadMid B w L s l vs vb vl cs s[p].toNat w' (k + 1) pp (takeSl c.toNat n sl) ns) := fun kk => by
            refine (take_all (HM.out.drewN kk).load c.toNat n).mono ?_
            rintro e w' ⟨h1, h2, h3⟩
            exact ⟨h1, (HM.out.drewN kk).took h2 h3⟩
          clear r0 r1 r2 r3 r4 r5 r6 rf HM
          rw [if_neg (by omega)] at HE
          cases hok : takeOk c.toNat n with
          | false =>
            have hno : R = none := by rw [HE.out, hok]; rfl
            rw [hok] at HT
            clear HE
            go_wp2_with fail
            refine wp_quiet_tail 13 (by kernel_rfl) (by kernel_rfl) ?_
            simp only [List.take_succ_cons, List.take_zero, List.drop_succ_cons, List.drop_zero]
            repeat (go_big_quiet_step ((go_at_call 166; exact Calls.quiet_of_same (HRd.out _))))
            refine wpQuiet_nil ?_
            intro _ hw'
            obtain ⟨k3, hw''⟩ := hw'
            subst hw''
            go_wp2_with fail
            refine (HT.out _).mono ?_
            rintro e w2 ⟨rfl, hm2⟩
            have r0 : w2.cell? ⟨w.heap.size, 0, none⟩ = some (.int .u8 0) := cell_at hm2.out
            have r1 : w2.cell? ⟨w.heap.size, 1, none⟩ = some (.int .i64 0) := cell_at hm2.out
            have r2 : w2.cell? ⟨w.heap.size, 2, none⟩ = some (.int .i64 0) := cell_at hm2.out
            have r3 : w2.cell? ⟨w.heap.size, 3, none⟩ = some (.int .i64 0) := cell_at hm2.out
            have r4 : w2.cell? ⟨w.heap.size, 4, none⟩ = some (.int .i64 0) := cell_at hm2.out
            have r5 : w2.cell? ⟨w.heap.size, 5, none⟩ = some (.int .i64 0) := cell_at hm2.out
            have r6 : w2.cell? ⟨w.heap.size, 6, none⟩ = some (.int .i64 0) := cell_at hm2.out
            have rf : ∀ j, w2.frozen? ⟨w.heap.size, j, none⟩ = false := fun j => frozen_at hm2.out
            have HM : Hid (ReadMid B w L s l vs vb vl cs s[p].toNat w2 (k + 1) pp (takeSl c.toNat n sl) ns) := hm2
            clear hm2
            go_wp2_with fail
            refine bodyPost_ret (read_results _ _ w.heap.size 0 [] false rfl rfl (out_zero w2 w.heap.size 125 HM.out.out)) rfl ?_
            exact ReadPost.none (((((((HM.out.outs.set _ _).set _ _).set _ _).set _ _).set _ _).set _ _).set _ _) hno
          | true =>
            have HE2 : Hid (R = (readNums s.data.toList (cs.drop (k + 1)) (pp + z) (takeSl c.toNat n sl)).map fun r => (ns ++ [n] ++ r.1, r.2)) := by
              show _ = _
              rw [HE.out, hok]
              simp
            rw [hok] at HT
            clear HE
            have i4 : (k : Int) < 4 := by omega
            have i5 : (0 : Int) ≤ (k : Int) := by omega
            obtain ⟨y, hy⟩ : ∃ y : Nat, pp + z = y := ⟨_, rfl⟩
            have hyI : (pp : Int) + (z : Int) = (y : Int) := by omega
            have hlen' : s.data.toList.length = s.size := by simp
            have hys : y ≤ s.size := by omega
            rw [hy] at HE2
            clear hy
            go_wp2_with fail
            refine wp_quiet_tail 13 (by kernel_rfl) (by kernel_rfl) ?_
            simp only [List.take_succ_cons, List.take_zero, List.drop_succ_cons, List.drop_zero]
            repeat (go_big_quiet_step ((go_at_call 166; exact Calls.quiet_of_same (HRd.out _))))
            refine wpQuiet_nil ?_
            intro _ hw'
            obtain ⟨k3, hw''⟩ := hw'
            subst hw''
            go_wp2_with fail
            refine (HT.out _).mono ?_
            rintro e w2 ⟨rfl, hm2⟩
            have bx : w2.cell? ⟨w.heap.size + 1, 1 + k, none⟩ = (boxArr s[p].toNat ns)[1 + k]? := cell_at hm2.box
            have bf : ∀ j, w2.frozen? ⟨w.heap.size + 1, j, none⟩ = false := fun j => frozen_at hm2.box
            have m1 := hm2.load.c1
            have mf := hm2.load.fr 1
            simp only at m1
            have HP : Hid (ReadMid B w L s l vs vb vl cs s[p].toNat ((w2.setCell ⟨w.heap.size + 1, 1 + ns.length, none⟩ (.int .i64 n)).setCell ⟨L, 1, none⟩ (.int .i64 y)) (k + 1) y (takeSl c.toNat n sl) (ns ++ [n])) := hm2.store n (by omega) y
            rw [hlen] at HP
            obtain ⟨bv, hbv⟩ : ∃ bv, (boxArr s[p].toNat ns)[1 + k]? = some bv := ⟨_, Array.getElem?_eq_getElem (show 1 + k < (boxArr s[p].toNat ns).size from by show 1 + k < 7; omega)⟩
            rw [hbv] at bx
            clear hm2 hbv
            go_wp2_with fail
            refine ⟨⟨k + 1, y, takeSl c.toNat n sl, ns ++ [n], HP.out, by simp [hlen], by omega, hys, HE2.out⟩, ?_⟩
            have hmu2 : ((w2.setCell ⟨w.heap.size + 1, 1 + k, none⟩ (.int .i64 n)).setCell ⟨L, 1, none⟩ (.int .i64 y)).iterPos (w.heap.size + 1 + 1) = k + 1 := by
              unfold World.iterPos
              rw [HP.out.iter]
            rw [hmu, hmu2]
            omega
      · have hkl := hr.kl
        have hk' : ¬ k < (⟨cs.toArray⟩ : ByteArray).size := by simpa [ByteArray.size] using hk
        have hnext : ∀ ty, (Instr.next (.pointer (some ⟨w.heap.size + 1 + 1, 0, none⟩)) true ty).run Tryz.prog wr = .ok (.tuple #[.bool false]) wr := fun ty => Lib.run_next_end_at (P := Tryz.prog) wr (w.heap.size + 1 + 1) ⟨cs.toArray⟩ k ty hr.mid.iter hk'
        have hR : R = some (ns, pp, sl) := by
          rw [hr.eq, List.drop_of_length_le (by omega)]
          simp [readNums]
        have hmid := hr.mid
        have r0 : wr.cell? ⟨w.heap.size, 0, none⟩ = some (.int .u8 0) := cell_at hmid.out
        have r1 : wr.cell? ⟨w.heap.size, 1, none⟩ = some (.int .i64 0) := cell_at hmid.out
        have r2 : wr.cell? ⟨w.heap.size, 2, none⟩ = some (.int .i64 0) := cell_at hmid.out
        have r3 : wr.cell? ⟨w.heap.size, 3, none⟩ = some (.int .i64 0) := cell_at hmid.out
        have r4 : wr.cell? ⟨w.heap.size, 4, none⟩ = some (.int .i64 0) := cell_at hmid.out
        have r5 : wr.cell? ⟨w.heap.size, 5, none⟩ = some (.int .i64 0) := cell_at hmid.out
        have r6 : wr.cell? ⟨w.heap.size, 6, none⟩ = some (.int .i64 0) := cell_at hmid.out
        have rf : ∀ j, wr.frozen? ⟨w.heap.size, j, none⟩ = false := fun j => frozen_at hmid.out
        have q0 : wr.cell? ⟨w.heap.size + 1, 0, none⟩ = some (.int .u8 s[p].toNat) := cell_at hmid.box
        have q1 : wr.cell? ⟨w.heap.size + 1, 1, none⟩ = some (.int .i64 (ns.getD 0 0)) := cell_at hmid.box
        have q2 : wr.cell? ⟨w.heap.size + 1, 2, none⟩ = some (.int .i64 (ns.getD 1 0)) := cell_at hmid.box
        have q3 : wr.cell? ⟨w.heap.size + 1, 3, none⟩ = some (.int .i64 (ns.getD 2 0)) := cell_at hmid.box
        have q4 : wr.cell? ⟨w.heap.size + 1, 4, none⟩ = some (.int .i64 (ns.getD 3 0)) := cell_at hmid.box
        have q5 : wr.cell? ⟨w.heap.size + 1, 5, none⟩ = some (.int .i64 0) := cell_at hmid.box
        have q6 : wr.cell? ⟨w.heap.size + 1, 6, none⟩ = some (.int .i64 0) := cell_at hmid.box
        have HM : Hid (ReadMid B w L s l vs vb vl cs s[p].toNat wr k pp sl ns) := hmid
        clear hmid hr
        go_wp2_with fail
        refine bodyPost_ret (read_results _ _ w.heap.size s[p].toNat ns ok rfl rfl (out_box wr w.heap.size 125 s[p].toNat ns HM.out.out)) rfl ?_
        have ho := (((((((HM.out.outs.set 0 (.int .u8 s[p].toNat)).set 1 (.int .i64 (ns.getD 0 0))).set 2 (.int .i64 (ns.getD 1 0))).set 3 (.int .i64 (ns.getD 2 0))).set 4 (.int .i64 (ns.getD 3 0))).set 5 (.int .i64 0)).set 6 (.int .i64 0))
        exact ⟨_, ho.1, ho.2.1, Or.inl ⟨ns, pp, sl, hR, rfl, rfl⟩⟩
end Go.Proofs.YthllhabjfchgiaaGreatDoor

/- A scope with several labels: what holds at each jump, and a measure that every pass lessens. -/
namespace Go.Proofs.YthllhabjfchgiaaGreatDoor
open Go

/-- As Q; by a goto to label l: J l. -/
def Jumps (J : Nat → Act → World → Prop) (Q : Exit → Act → World → Prop) : Exit → Act → World → Prop
  | .goto l, a, w => J l a w
  | e, a, w => Q e a w

variable {P : Program} {a : Act} {w : World} {Q : Exit → Act → World → Prop}

theorem wp_scope_labels {c : Code} (rest : Nat → Code) (J : Nat → Act → World → Prop) (μ : Nat → Act → World → Nat) (hf : ∀ l a w, J l a w → findLabel c l = some (rest l))
    (first : c.wp P (Jumps J Q) a w)
    (pass : ∀ l a w, J l a w → (rest l).wp P (Jumps (fun l' a' w' => J l' a' w' ∧ μ l' a' w' < μ l a w) Q) a w) : (Code.scope c).wp P Q a w := by
  intro b k cs
  have hg : ∀ l a w, J l a w → gotoIn l (.inScope c :: k) = some (.code (rest l) :: .inScope c :: k) := fun l a w h => by simp [gotoIn, hf l a w h]
  have key : ∀ n l a w, μ l a w = n → J l a w → ∃ e a' w', Q e a' w' ∧ Arrives P (lone (b.at a (.code (rest l) :: .inScope c :: k)) cs w) b k cs e a' w' := by
    intro n
    induction n using Nat.strongRecOn with
    | _ n ih =>
      intro l a w hn hJ
      obtain ⟨e, a1, w1, hq, harr⟩ := pass l a w hJ b (.inScope c :: k) cs
      cases e with
      | normal => exact ⟨.normal, a1, w1, hq, Steps.trans harr (.one step_inScope)⟩
      | exit id => exact ⟨.exit id, a1, w1, hq, fun k' hk => harr k' (by simp [exitTo, hk])⟩
      | goto l' =>
        obtain ⟨hJ', hlt⟩ := hq
        obtain ⟨e2, a2, w2, hq2, harr2⟩ := ih _ (by omega) l' a1 w1 rfl hJ'
        exact ⟨e2, a2, w2, hq2, .of_steps (harr _ (hg l' a1 w1 hJ')) harr2⟩
      | ret => exact ⟨_, a1, w1, hq, harr⟩
      | panic ch => exact ⟨_, a1, w1, hq, harr⟩
      | outgrown => exact ⟨_, a1, w1, hq, harr⟩
  obtain ⟨e, a1, w1, hq, harr⟩ := first b (.inScope c :: k) cs
  cases e with
  | normal => exact ⟨.normal, a1, w1, hq, .head step_scope (Steps.trans harr (.one step_inScope))⟩
  | exit id => exact ⟨.exit id, a1, w1, hq, fun k' hk => .head step_scope (harr k' (by simp [exitTo, hk]))⟩
  | goto l' =>
    obtain ⟨e2, a2, w2, hq2, harr2⟩ := key _ l' a1 w1 rfl hq
    exact ⟨e2, a2, w2, hq2, .of_steps (.head step_scope (harr _ (hg l' a1 w1 hq))) harr2⟩
  | ret => exact ⟨_, a1, w1, hq, .of_steps (.one step_scope) harr⟩
  | panic ch => exact ⟨_, a1, w1, hq, .of_steps (.one step_scope) harr⟩
  | outgrown => exact ⟨_, a1, w1, hq, .of_steps (.one step_scope) harr⟩
end Go.Proofs.YthllhabjfchgiaaGreatDoor

/- (*machine).done; push whole. -/
namespace Go.Proofs.YthllhabjfchgiaaGreatDoor
open Go.RowKit
open Hx (Rd Pk Vw St Mc In64)
variable {B C : Nat} {w : World} {M SB : Nat} {v : Vw} {m : Mc}

theorem push_any (hm : MachIn B C w M SB v m) (i j : Int) (hj : j ≤ 9223372036854775807) (hl : m.acts.length ≤ 256) :
    Calls Tryz.prog 54 #[.pointer (some ⟨M, 0, none⟩), .int .i64 i, .int .i64 j] w fun e w' => e = .returned (.bool (Hx.push v i j m).isSome) ∧ (∀ m', Hx.push v i j m = some m' → MachIn B C w' M SB v m') ∧ Below B w w' := by
  cases hr : v.road i with
  | none =>
    refine (push_none hm i j hj (Or.inl hr)).mono ?_
    rintro e w' ⟨rfl, rfl⟩
    have e1 : Hx.push v i j m = some m := by simp [Hx.push, hr]
    rw [e1]
    exact ⟨rfl, fun m' h => by cases h; exact hm, Below.refl _ _⟩
  | some r =>
    cases hp : v.packet j with
    | none =>
      refine (push_none hm i j hj (Or.inr hp)).mono ?_
      rintro e w' ⟨rfl, rfl⟩
      have e1 : Hx.push v i j m = some m := by simp [Hx.push, hr, hp]
      rw [e1]
      exact ⟨rfl, fun m' h => by cases h; exact hm, Below.refl _ _⟩
    | some p =>
      by_cases hf : m.acts.length = 256
      · refine (push_full hm i j r p hj hr hp hf).mono ?_
        rintro e w' ⟨rfl, rfl⟩
        have e1 : Hx.push v i j m = none := by simp [Hx.push, hr, hp, hf]
        rw [e1]
        exact ⟨rfl, fun m' h => (by cases h), Below.refl _ _⟩
      · refine (push_more hm i j r p hj hr hp (by omega)).mono ?_
        rintro e w' ⟨rfl, h1, h2⟩
        have e1 : Hx.push v i j m = some { m with acts := m.acts ++ [(r.id, p.seq)] } := by simp [Hx.push, hr, hp, hf]
        rw [e1]
        exact ⟨rfl, fun m' h => (by cases h; exact h1), h2⟩

/-- a Result as a value -/
def resultV (status : Int) (va : Value) (regs : List Int) : Value :=
  .agg #[.int .u8 status, va, .int .i64 (regs.getD 0 0), .int .i64 (regs.getD 1 0), .int .i64 (regs.getD 2 0), .int .i64 (regs.getD 3 0), .int .i64 (regs.getD 4 0), .int .i64 (regs.getD 5 0), .int .i64 (regs.getD 6 0), .int .i64 (regs.getD 7 0)]

theorem setCell_drewN (w : World) (n : Nat) (x : Addr) (u : Value) : (w.drewN n).setCell x u = (w.setCell x u).drewN n := rfl
attribute [local go_sem] setCell_drewN

theorem run_arrayAt (P : Program) (t n : Nat) (e : TypeId) (h : P.underlying t = some (.array n e)) (a : Option Addr) (len cap : Nat) (hl : n ≤ len) (w : World) :
    (Instr.arrayAt t (.slice a len cap)).run P w = .ok (.pointer a) w := by
  have hl' : ¬ len < n := by omega
  simp [Instr.arrayAt, go_sem, run_underlying h, hl']

set_option maxRecDepth 100000 in
set_option maxHeartbeats 1000000 in
theorem done_any (hm : MachIn B C w M SB v m) (h8 : 8 ≤ m.slots.length) :
    Calls Tryz.prog 51 #[.pointer (some ⟨M, 0, none⟩)] w fun e w' => ∃ va, e = .returned (resultV 0 va m.slots) ∧ w'.ownsRow C 76 2 va m.acts.length (actCells m.acts) ∧ Below B w w' := by
  obtain ⟨va, hva, hown⟩ := hm.acts
  have h0 := hm.size
  have h1 := hm.cS
  have h2 := hm.cM
  have h3 := hm.bM
  have HO : Hid (∀ (o : Obj) (n : Nat), ((w.alloc o).drewN n).ownsRow C 76 2 va m.acts.length (actCells m.acts) ∧ Below B w ((w.alloc o).drewN n)) := fun o n =>
    ⟨(hown.alloc o).kept (w' := (w.alloc o).drewN n) (row := none) ⟨rfl, rfl, rfl, Nat.le_refl _, fun _ _ _ => rfl⟩ (by cases va.ownBlock <;> simp), below_drewN ((Below.refl _ _).alloc (by omega) o) n⟩
  obtain ⟨aa, cap, hval⟩ : ∃ aa cap, va = .slice aa m.acts.length cap := by
    obtain ⟨h1, h2⟩ := hown
    rcases h2 with ⟨h3, h4⟩ | ⟨g, cap, cur, h3, h4⟩
    · exact ⟨none, 0, by rw [h3, h4]⟩
    · exact ⟨_, _, h3⟩
  subst hval
  have hs := hm.slots
  have c0 := hm.slot 0 (by omega)
  have c1 := hm.slot 1 (by omega)
  have c2 := hm.slot 2 (by omega)
  have c3 := hm.slot 3 (by omega)
  have c4 := hm.slot 4 (by omega)
  have c5 := hm.slot 5 (by omega)
  have c6 := hm.slot 6 (by omega)
  have c7 := hm.slot 7 (by omega)
  have n1 : ¬ SB = w.heap.size := by omega
  have n2 : ¬ M = w.heap.size := by omega
  have hSB : SB < w.heap.size := by omega
  have hM : M < w.heap.size := by omega
  have h8' : (8 : Int) ≤ (m.slots.length : Int) := by omega
  unfold resultV
  clear hm h0 h1 h2 h3 hown
  generalize actCells m.acts = cells at *
  generalize m.acts.length = na at *
  generalize m.slots.getD 0 0 = x0 at *
  generalize m.slots.getD 1 0 = x1 at *
  generalize m.slots.getD 2 0 = x2 at *
  generalize m.slots.getD 3 0 = x3 at *
  generalize m.slots.getD 4 0 = x4 at *
  generalize m.slots.getD 5 0 = x5 at *
  generalize m.slots.getD 6 0 = x6 at *
  generalize m.slots.getD 7 0 = x7 at *
  generalize m.slots.length = len at *
  have ka := fun (w : World) => run_arrayAt Tryz.prog 26 8 3 Tryz.underlying26 (some ⟨SB, 0, none⟩) len len (by omega) w
  go_enter Tryz.func51, Tryz.ntmps51
  go_wp2_with fail
  refine wp_quiet_tail 11 (by kernel_rfl) (by kernel_rfl) ?_
  simp only [List.take_succ_cons, List.take_zero, List.drop_succ_cons, List.drop_zero]
  repeat (go_big_quiet_step (fail))
  refine wpQuiet_nil ?_
  intro _ hw'
  obtain ⟨n3, hw''⟩ := hw'
  subst hw''
  go_wp2
  exact bodyPost_ret (v := .agg #[.int .u8 0, .slice aa na cap, .int .i64 x0, .int .i64 x1, .int .i64 x2, .int .i64 x3, .int .i64 x4, .int .i64 x5, .int .i64 x6, .int .i64 x7]) (by simp [results, Tryz.results51, go_sem]) rfl ⟨_, rfl, HO.out _ _⟩
end Go.Proofs.YthllhabjfchgiaaGreatDoor
