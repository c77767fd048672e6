import Derived.Test.YthllhabjfchgiaaGreatDoorHy19
/- Package helmkeep: viewOf: the plain function, and what it has in memory. -/
namespace Go.Proofs.YthllhabjfchgiaaGreatDoor
open Go.RowKit
open Hx (Rd Pk Vw St Mc In64)

/-- the roads that viewOf keeps, those that it has and those that are left -/
def addRoads (out : List Rd) : List Rd → List Rd
  | [] => out
  | r :: rs => if out.length < 8 then addRoads (if out.any (fun q => decide (q.id = pickN r.id 8)) then out else out ++ [{ r with id := pickN r.id 8 }]) rs else out

def viewOut (v : Vw) : Vw := ⟨addRoads [] v.roads, v.fresh.take 16, v.again.take 16⟩

def roadCells (l : List Rd) : List Value := l.flatMap fun r => [.int .i64 r.id, .int .i64 r.rtt, .int .i64 r.cwnd, .int .i64 r.out, .bool r.lossy]
def packCells (l : List Pk) : List Value := l.flatMap fun p => [.int .i64 p.seq, .int .i64 p.size, .int .i64 p.on]

def seenOf (out : List Rd) : Array Value := (List.range 8).map (fun (k : Nat) => Value.bool (out.any fun q => decide (q.id = (k : Int)))) |>.toArray

def Apart (u v : Value) : Prop := ∀ k, u.ownBlock = some k → v.ownBlock = some k → False

theorem Apart.symm {u v : Value} (h : Apart u v) : Apart v u := fun k a b => h k b a
theorem Apart.or {u v : Value} (h : Apart u v) : u.ownBlock = none ∨ u.ownBlock ≠ v.ownBlock := by
  cases hu : u.ownBlock with
  | none => exact Or.inl rfl
  | some k => exact Or.inr fun e => h k hu e.symm
theorem apart_nil (v : Value) : Apart (.slice none 0 0) v := fun k h _ => by simp [Value.ownBlock] at h

structure Raw where
  ar : Option Addr
  af : Option Addr
  aa : Option Addr
  nr : Nat
  cr : Nat
  nf : Nat
  cf : Nat
  na : Nat
  ca : Nat

/-- amid viewOf: the four blocks, and the rows -/
structure VoIn (w wr : World) (x : Raw) (vr vf va : Value) (out : List Rd) (fs gs : List Pk) (sn : Array Value) : Prop where
  below : Below w.heap.size w wr
  size : w.heap.size + 4 ≤ wr.heap.size
  b0 : wr.heap[w.heap.size]? = some (.cells #[.slice x.ar x.nr x.cr, .slice x.af x.nf x.cf, .slice x.aa x.na x.ca] 25)
  b1 : wr.heap[w.heap.size + 1]? = some (.cells #[.slice none 0 0, .slice none 0 0, .slice none 0 0] 25)
  b2 : wr.heap[w.heap.size + 2]? = some (.cells #[vr, vf, va] 25)
  b3 : wr.heap[w.heap.size + 3]? = some (.cells sn 146)
  rowR : wr.ownsRow (w.heap.size + 4) 74 5 vr out.length (roadCells out)
  rowF : wr.ownsRow (w.heap.size + 4) 72 3 vf fs.length (packCells fs)
  rowA : wr.ownsRow (w.heap.size + 4) 72 3 va gs.length (packCells gs)
  nRF : Apart vr vf
  nRA : Apart vr va
  nFA : Apart vf va

variable {w wr y : World} {x : Raw} {vr vf va : Value} {out : List Rd} {fs gs : List Pk} {sn : Array Value}

theorem VoIn.grow (h : VoIn w wr x vr vf va out fs gs sn) (hg : wr.grownBy y none) : VoIn w y x vr vf va out fs gs sn := by
  have hs := h.size
  have hb : ∀ k, k < w.heap.size + 4 → y.heap[k]? = wr.heap[k]? := fun k hk => hg.block k (by omega) (by simp)
  have hn : ∀ v : Value, v.ownBlock = none ∨ v.ownBlock ≠ none := fun v => by cases v.ownBlock <;> simp
  exact ⟨h.below.trans ⟨hg.os, hg.tape, hg.output, hg.size, fun k hk => hb k (by omega)⟩, by have := hg.size; omega, (hb _ (by omega)).trans h.b0, (hb _ (by omega)).trans h.b1, (hb _ (by omega)).trans h.b2, (hb _ (by omega)).trans h.b3,
    h.rowR.kept hg (hn _), h.rowF.kept hg (hn _), h.rowA.kept hg (hn _), h.nRF, h.nRA, h.nFA⟩

theorem own_far {B k : Nat} {e : TypeId} {s n : Nat} {v : Value} {xs : List Value} (h : wr.ownsRow B e s v n xs) (hk : k < B) : v.ownBlock = none ∨ v.ownBlock ≠ some k := by
  cases hv : v.ownBlock with
  | none => exact Or.inl rfl
  | some g =>
    right
    have := (h.lt g hv).1
    intro e
    simp only [Option.some.injEq] at e
    omega

theorem VoIn.seen (h : VoIn w wr x vr vf va out fs gs sn) (j : Nat) (u : Value) : VoIn w (wr.setCell ⟨w.heap.size + 3, j, none⟩ u) x vr vf va out fs gs (sn.setIfInBounds j u) := by
  have hs := h.size
  have hg := grown_set wr (w.heap.size + 3) j u
  have o : ∀ k, k ≠ w.heap.size + 3 → (wr.setCell ⟨w.heap.size + 3, j, none⟩ u).heap[k]? = wr.heap[k]? := fun k hk => Below.heap_setCell _ _ _ _ hk
  exact ⟨h.below.setCell (p := ⟨w.heap.size + 3, j, none⟩) (by show _ ≤ w.heap.size + 3; omega) _, by simpa using hs, (o _ (by omega)).trans h.b0, (o _ (by omega)).trans h.b1, (o _ (by omega)).trans h.b2,
    heap_setCell_same _ _ _ _ _ _ h.b3, h.rowR.kept hg (own_far h.rowR (by omega)), h.rowF.kept hg (own_far h.rowF (by omega)), h.rowA.kept hg (own_far h.rowA (by omega)), h.nRF, h.nRA, h.nFA⟩

/-- behind an append: what another row keeps, and that it is apart from the new one -/
theorem other_row {B : Nat} {e : TypeId} {s n : Nat} {u v : Value} {xs : List Value} {g : Nat} (h : wr.ownsRow B e s u n xs) (hg : wr.grownBy y v.ownBlock) (ha : Apart u v) (hat : v.ownBlock = some g ∨ wr.heap.size ≤ g) (l c : Nat) :
    y.ownsRow B e s u n xs ∧ Apart u (.slice (some ⟨g, 0, none⟩) l c) := by
  refine ⟨h.kept hg ha.or, fun k h1 h2 => ?_⟩
  simp only [Value.ownBlock, Option.some.injEq] at h2
  subst h2
  rcases hat with e | e
  · exact ha g h1 e
  · have := (h.lt g h1).2
    omega

/-- behind an append to one of the three, and the store of what it gave -/
theorem VoIn.after (h : VoIn w wr x vr vf va out fs gs sn) {v : Value} (hv : v = vr ∨ v = vf ∨ v = va) (hg : wr.grownBy y v.ownBlock) (j : Nat) (u : Value) :
    Below w.heap.size w (y.setCell ⟨w.heap.size + 2, j, none⟩ u) ∧ w.heap.size + 4 ≤ (y.setCell ⟨w.heap.size + 2, j, none⟩ u).heap.size ∧
    (∀ k, k < w.heap.size + 4 → k ≠ w.heap.size + 2 → (y.setCell ⟨w.heap.size + 2, j, none⟩ u).heap[k]? = wr.heap[k]?) ∧
    (y.setCell ⟨w.heap.size + 2, j, none⟩ u).heap[w.heap.size + 2]? = some (.cells ((#[vr, vf, va] : Array Value).setIfInBounds j u) 25) ∧ y.heap[w.heap.size + 2]? = some (.cells #[vr, vf, va] 25) := by
  have hs := h.size
  have hfar : ∀ k, k < w.heap.size + 4 → some k ≠ v.ownBlock := fun k hk e => by
    have h1 := h.rowR.lt k
    have h2 := h.rowF.lt k
    have h3 := h.rowA.lt k
    rcases hv with rfl | rfl | rfl
    · have := h1 e.symm; omega
    · have := h2 e.symm; omega
    · have := h3 e.symm; omega
  have hb : ∀ k, k < w.heap.size + 4 → y.heap[k]? = wr.heap[k]? := fun k hk => hg.block k (by omega) (hfar k hk)
  have h2 := (hb (w.heap.size + 2) (by omega)).trans h.b2
  have hsz := hg.size
  refine ⟨?_, by simp; omega, fun k hk hne => (Below.heap_setCell _ _ _ _ hne).trans (hb k hk), heap_setCell_same _ _ _ _ _ _ h2, h2⟩
  exact (h.below.trans ⟨hg.os, hg.tape, hg.output, hg.size, fun k hk => hb k (by omega)⟩).setCell (p := ⟨w.heap.size + 2, j, none⟩) (by show _ ≤ w.heap.size + 2; omega) _

theorem VoIn.addR (h : VoIn w wr x vr vf va out fs gs sn) (hg : wr.grownBy y vr.ownBlock) {g cap : Nat} (r : Rd) (ho : y.ownsRow (w.heap.size + 4) 74 5 (.slice (some ⟨g, 0, none⟩) (out.length + 1) cap) (out.length + 1) (roadCells out ++ [.int .i64 r.id, .int .i64 r.rtt, .int .i64 r.cwnd, .int .i64 r.out, .bool r.lossy])) (hat : vr.ownBlock = some g ∨ wr.heap.size ≤ g) :
    VoIn w (y.setCell ⟨w.heap.size + 2, 0, none⟩ (.slice (some ⟨g, 0, none⟩) (out.length + 1) cap)) x (.slice (some ⟨g, 0, none⟩) (out.length + 1) cap) vf va (out ++ [r]) fs gs sn := by
  obtain ⟨e1, e2, e3, e4, e5⟩ := h.after (Or.inl rfl) hg 0 (.slice (some ⟨g, 0, none⟩) (out.length + 1) cap)
  have hs := h.size
  have gs2 := grown_set y (w.heap.size + 2) 0 (.slice (some ⟨g, 0, none⟩) (out.length + 1) cap)
  obtain ⟨f1, f2⟩ := other_row h.rowF hg h.nRF.symm hat (out.length + 1) cap
  obtain ⟨a1, a2⟩ := other_row h.rowA hg h.nRA.symm hat (out.length + 1) cap
  have ho2 := ho.kept gs2 (own_far ho (by omega))
  refine ⟨e1, e2, (e3 _ (by omega) (by omega)).trans h.b0, (e3 _ (by omega) (by omega)).trans h.b1, e4, (e3 _ (by omega) (by omega)).trans h.b3, ?_, f1.kept gs2 (own_far f1 (by omega)), a1.kept gs2 (own_far a1 (by omega)), f2.symm, a2.symm, h.nFA⟩
  simpa [roadCells] using ho2

theorem VoIn.addF (h : VoIn w wr x vr vf va out fs gs sn) (hg : wr.grownBy y vf.ownBlock) {g cap : Nat} (r : Pk) (ho : y.ownsRow (w.heap.size + 4) 72 3 (.slice (some ⟨g, 0, none⟩) (fs.length + 1) cap) (fs.length + 1) (packCells fs ++ [.int .i64 r.seq, .int .i64 r.size, .int .i64 r.on])) (hat : vf.ownBlock = some g ∨ wr.heap.size ≤ g) :
    VoIn w (y.setCell ⟨w.heap.size + 2, 1, none⟩ (.slice (some ⟨g, 0, none⟩) (fs.length + 1) cap)) x vr (.slice (some ⟨g, 0, none⟩) (fs.length + 1) cap) va out (fs ++ [r]) gs sn := by
  obtain ⟨e1, e2, e3, e4, e5⟩ := h.after (Or.inr (Or.inl rfl)) hg 1 (.slice (some ⟨g, 0, none⟩) (fs.length + 1) cap)
  have hs := h.size
  have gs2 := grown_set y (w.heap.size + 2) 1 (.slice (some ⟨g, 0, none⟩) (fs.length + 1) cap)
  obtain ⟨f1, f2⟩ := other_row h.rowR hg h.nRF hat (fs.length + 1) cap
  obtain ⟨a1, a2⟩ := other_row h.rowA hg h.nFA.symm hat (fs.length + 1) cap
  have ho2 := ho.kept gs2 (own_far ho (by omega))
  refine ⟨e1, e2, (e3 _ (by omega) (by omega)).trans h.b0, (e3 _ (by omega) (by omega)).trans h.b1, e4, (e3 _ (by omega) (by omega)).trans h.b3, f1.kept gs2 (own_far f1 (by omega)), ?_, a1.kept gs2 (own_far a1 (by omega)), f2, h.nRA, a2.symm⟩
  simpa [packCells] using ho2

theorem VoIn.addA (h : VoIn w wr x vr vf va out fs gs sn) (hg : wr.grownBy y va.ownBlock) {g cap : Nat} (r : Pk) (ho : y.ownsRow (w.heap.size + 4) 72 3 (.slice (some ⟨g, 0, none⟩) (gs.length + 1) cap) (gs.length + 1) (packCells gs ++ [.int .i64 r.seq, .int .i64 r.size, .int .i64 r.on])) (hat : va.ownBlock = some g ∨ wr.heap.size ≤ g) :
    VoIn w (y.setCell ⟨w.heap.size + 2, 2, none⟩ (.slice (some ⟨g, 0, none⟩) (gs.length + 1) cap)) x vr vf (.slice (some ⟨g, 0, none⟩) (gs.length + 1) cap) out fs (gs ++ [r]) sn := by
  obtain ⟨e1, e2, e3, e4, e5⟩ := h.after (Or.inr (Or.inr rfl)) hg 2 (.slice (some ⟨g, 0, none⟩) (gs.length + 1) cap)
  have hs := h.size
  have gs2 := grown_set y (w.heap.size + 2) 2 (.slice (some ⟨g, 0, none⟩) (gs.length + 1) cap)
  obtain ⟨f1, f2⟩ := other_row h.rowR hg h.nRA hat (gs.length + 1) cap
  obtain ⟨a1, a2⟩ := other_row h.rowF hg h.nFA hat (gs.length + 1) cap
  have ho2 := ho.kept gs2 (own_far ho (by omega))
  refine ⟨e1, e2, (e3 _ (by omega) (by omega)).trans h.b0, (e3 _ (by omega) (by omega)).trans h.b1, e4, (e3 _ (by omega) (by omega)).trans h.b3, f1.kept gs2 (own_far f1 (by omega)), a1.kept gs2 (own_far a1 (by omega)), ?_, h.nRF, f2, a2⟩
  simpa [packCells] using ho2

theorem seen_at (out : List Rd) (k : Nat) (hk : k < 8) : (seenOf out)[k]? = some (.bool (out.any fun q => decide (q.id = (k : Int)))) := by
  simp [seenOf, hk]

theorem seen_set (out : List Rd) (r : Rd) (k : Nat) (hk : k < 8) (hr : r.id = (k : Int)) : (seenOf out).setIfInBounds k (.bool true) = seenOf (out ++ [r]) := by
  apply Array.ext_getElem?
  intro i
  rw [Array.getElem?_setIfInBounds]
  by_cases hi : i < 8
  · rw [seen_at _ _ hi, seen_at _ _ hi]
    by_cases e : k = i
    · subst e
      rw [if_pos rfl, if_pos (by simpa [seenOf] using hk)]
      simp [hr]
    · rw [if_neg e]
      have : ¬ r.id = (i : Int) := by omega
      simp [this]
  · have h1 : (seenOf out)[i]? = none := by simp [seenOf]; omega
    have h2 : (seenOf (out ++ [r]))[i]? = none := by simp [seenOf]; omega
    rw [h1, h2]
    by_cases e : k = i
    · omega
    · rw [if_neg e]
end Go.Proofs.YthllhabjfchgiaaGreatDoor

/- Package helmkeep: viewOf. -/
namespace Go.Proofs.YthllhabjfchgiaaGreatDoor
open Go.RowKit
open Hx (Rd Pk Vw St Mc In64)
attribute [local go_sem ↓] Go.wp_at_zero Go.wp_at_succ
attribute [local go_sem] setCell_drewN'
variable {w : World}

theorem info_road : (Tryz.prog.info? 74).map (fun i => (i.zero, i.size, i.bytes)) = some (some (.agg #[.int .i64 0, .int .i64 0, .int .i64 0, .int .i64 0, .bool false]), 5, 40) := by kernel_rfl
theorem info_packet : (Tryz.prog.info? 72).map (fun i => (i.zero, i.size, i.bytes)) = some (some (.agg #[.int .i64 0, .int .i64 0, .int .i64 0]), 3, 24) := by kernel_rfl

/-- what viewOf has laid -/
structure VoOut (w wr : World) (vr vf va : Value) (out : List Rd) (fs gs : List Pk) : Prop where
  below : Below w.heap.size w wr
  rowR : wr.ownsRow (w.heap.size + 4) 74 5 vr out.length (roadCells out)
  rowF : wr.ownsRow (w.heap.size + 4) 72 3 vf fs.length (packCells fs)
  rowA : wr.ownsRow (w.heap.size + 4) 72 3 va gs.length (packCells gs)

theorem VoIn.out {wr : World} {x : Raw} {vr vf va : Value} {out : List Rd} {fs gs : List Pk} {sn : Array Value} (h : VoIn w wr x vr vf va out fs gs sn) (a b c : Value) : VoOut w (((wr.setCell ⟨w.heap.size + 1, 0, none⟩ a).setCell ⟨w.heap.size + 1, 1, none⟩ b).setCell ⟨w.heap.size + 1, 2, none⟩ c) vr vf va out fs gs := by
  have g1 := grown_set wr (w.heap.size + 1) 0 a
  have g2 := grown_set (wr.setCell ⟨w.heap.size + 1, 0, none⟩ a) (w.heap.size + 1) 1 b
  have g3 := grown_set ((wr.setCell ⟨w.heap.size + 1, 0, none⟩ a).setCell ⟨w.heap.size + 1, 1, none⟩ b) (w.heap.size + 1) 2 c
  have gg := (g1.trans g2).trans g3
  refine ⟨((h.below.setCell (p := ⟨w.heap.size + 1, 0, none⟩) (by show _ ≤ w.heap.size + 1; omega) _).setCell (p := ⟨w.heap.size + 1, 1, none⟩) (by show _ ≤ w.heap.size + 1; omega) _).setCell (p := ⟨w.heap.size + 1, 2, none⟩) (by show _ ≤ w.heap.size + 1; omega) _, ?_, ?_, ?_⟩
  · exact h.rowR.kept gg (own_far h.rowR (by omega))
  · exact h.rowF.kept gg (own_far h.rowF (by omega))
  · exact h.rowA.kept gg (own_far h.rowA (by omega))

theorem viewOf_results (tmps : Array Value) (w : World) (g : Nat) (v0 v1 v2 : Value) (h2 : tmps[2]? = some (.pointer (some ⟨g, 0, none⟩))) (q0 : w.cell? ⟨g, 0, none⟩ = some v0) (q1 : w.cell? ⟨g, 1, none⟩ = some v1) (q2 : w.cell? ⟨g, 2, none⟩ = some v2) :
    (results Tryz.f29 tmps).run Tryz.prog w = .ok (.agg #[v0, v1, v2]) w := by
  simp [results, Tryz.results29, go_sem, h2, q0, q1, q2]

theorem vo_first (w : World) (x : Raw) : VoIn w ((((w.alloc (.cells #[.slice x.ar x.nr x.cr, .slice x.af x.nf x.cf, .slice x.aa x.na x.ca] 25)).alloc (.cells #[.slice none 0 0, .slice none 0 0, .slice none 0 0] 25)).alloc (.cells #[.slice none 0 0, .slice none 0 0, .slice none 0 0] 25)).alloc
    (.cells #[.bool false, .bool false, .bool false, .bool false, .bool false, .bool false, .bool false, .bool false] 146)) x (.slice none 0 0) (.slice none 0 0) (.slice none 0 0) [] [] [] (seenOf []) := by
  generalize ho0 : Obj.cells #[.slice x.ar x.nr x.cr, .slice x.af x.nf x.cf, .slice x.aa x.na x.ca] 25 = o0
  generalize ho1 : Obj.cells #[Value.slice none 0 0, .slice none 0 0, .slice none 0 0] 25 = o1
  generalize ho3 : Obj.cells #[Value.bool false, .bool false, .bool false, .bool false, .bool false, .bool false, .bool false, .bool false] 146 = o3
  have e : ((((w.alloc o0).alloc o1).alloc o1).alloc o3).heap = (((w.heap.push o0).push o1).push o1).push o3 := rfl
  have s : ((((w.alloc o0).alloc o1).alloc o1).alloc o3).heap.size = w.heap.size + 4 := by rw [e]; simp
  have g : w.grownBy ((((w.alloc o0).alloc o1).alloc o1).alloc o3) none := (((World.grownBy_alloc w _ none).trans (World.grownBy_alloc _ _ none)).trans (World.grownBy_alloc _ _ none)).trans (World.grownBy_alloc _ _ none)
  refine ⟨⟨g.os, g.tape, g.output, g.size, fun k hk => g.block k hk (by simp)⟩, by omega, ?_, ?_, ?_, ?_, World.ownsRow_nil _ _ _ _, World.ownsRow_nil _ _ _ _, World.ownsRow_nil _ _ _ _, apart_nil _, apart_nil _, apart_nil _⟩
  · rw [e, ho0]; simp only [Array.getElem?_push, Array.size_push]; repeat (rw [if_neg (by omega)])
    exact if_pos trivial
  · rw [e, ho1]; simp only [Array.getElem?_push, Array.size_push]; repeat (rw [if_neg (by omega)])
    exact if_pos trivial
  · rw [e, ho1]; simp only [Array.getElem?_push, Array.size_push]; repeat (rw [if_neg (by omega)])
    exact if_pos trivial
  · rw [e, show seenOf [] = #[Value.bool false, .bool false, .bool false, .bool false, .bool false, .bool false, .bool false, .bool false] from rfl, ho3]; simp only [Array.getElem?_push, Array.size_push]; repeat (rw [if_neg (by omega)])
    exact if_pos trivial

theorem size_ad (w : World) (o : Obj) (n : Nat) : ((w.alloc o).drewN n).heap.size = w.heap.size + 1 := Array.size_push ..

set_option maxRecDepth 100000 in
set_option maxHeartbeats 4000000 in
theorem viewOf_any (x : Raw) (v : Vw) (hv : ViewV w.heap.size w x.ar x.af x.aa x.nr x.nf x.na v) (hnr : x.nr ≤ maxLen) :
    Calls Tryz.prog 29 #[.agg #[.slice x.ar x.nr x.cr, .slice x.af x.nf x.cf, .slice x.aa x.na x.ca]] w fun e w' => ∃ vr vf va, e = .returned (.agg #[vr, vf, va]) ∧ VoOut w w' vr vf va (addRoads [] v.roads) (v.fresh.take 16) (v.again.take 16) := by
  go_enter Tryz.func29, Tryz.ntmps29
  go_upto_block 0 with fail
  go_cut [] (fun wx => ∃ vr, VoIn w wx x vr (.slice none 0 0) (.slice none 0 0) (addRoads [] v.roads) [] [] (seenOf (addRoads [] v.roads)))
  case first =>
    go_wp2_with fail
    go_loopw [5] (fun i wr => ∃ (k : Nat) (vr : Value) (out : List Rd), k ≤ x.nr ∧ i = .int .i64 k ∧ Hid (addRoads [] v.roads = addRoads out (v.roads.drop k)) ∧ VoIn w wr x vr (.slice none 0 0) (.slice none 0 0) out [] [] (seenOf out)) (fun i _ => x.nr - (intOf i).toNat)
    case atStart => exact ⟨0, _, [], Nat.zero_le _, rfl, rfl, vo_first w x⟩
    case round =>
      obtain ⟨k, vr, out, hk, rfl, HE, hV⟩ := hrel
      obtain ⟨avr, cvr, rfl⟩ := slice_form hV.rowR
      have q0 : wr.cell? ⟨w.heap.size, 0, none⟩ = some (.slice x.ar x.nr x.cr) := cell_at hV.b0
      have o0 : wr.cell? ⟨w.heap.size + 1 + 1, 0, none⟩ = some (.slice avr out.length cvr) := cell_at hV.b2
      have hRs := hv.lenR
      have hnr2 : x.nr ≤ 9223372036854775807 := by unfold maxLen at hnr; omega
      by_cases hlt : k < x.nr
      · have d1 : decide ((k : Int) < (x.nr : Int)) = true := by simp; omega
        by_cases hl : out.length < 8
        · have d2 : decide ((out.length : Int) < 8) = true := by simp; omega
          have hget : v.roads[k]? = some v.roads[k] := by simp
          obtain ⟨b, o, har, hbb, b', o', e, c1, c2, c3, c4, c5⟩ := hv.roads k _ hget
          obtain ⟨rfl, rfl⟩ : b = b' ∧ o + k * 5 = o' := by simpa using e
          have hin := hv.rng.roads v.roads[k] (by simp)
          have HD : Hid (v.roads.drop k = v.roads[k] :: v.roads.drop (k + 1)) := List.drop_eq_getElem_cons (by omega)
          generalize v.roads[k] = r at *
          have w1 : wr.cell? ⟨b, o + k * 5, none⟩ = some (.int .i64 r.id) := (hV.below.cell (p := ⟨b, o + k * 5, none⟩) hbb).trans c1
          have w2 : wr.cell? ⟨b, o + k * 5 + 1, none⟩ = some (.int .i64 r.rtt) := (hV.below.cell (p := ⟨b, o + k * 5 + 1, none⟩) hbb).trans c2
          have w3 : wr.cell? ⟨b, o + k * 5 + 2, none⟩ = some (.int .i64 r.cwnd) := (hV.below.cell (p := ⟨b, o + k * 5 + 2, none⟩) hbb).trans c3
          have w4 : wr.cell? ⟨b, o + k * 5 + 3, none⟩ = some (.int .i64 r.out) := (hV.below.cell (p := ⟨b, o + k * 5 + 3, none⟩) hbb).trans c4
          have w5 : wr.cell? ⟨b, o + k * 5 + 4, none⟩ = some (.bool r.lossy) := (hV.below.cell (p := ⟨b, o + k * 5 + 4, none⟩) hbb).trans c5
          obtain ⟨p0, p8⟩ := pickN_bd (c := r.id) (n := 8) (by omega)
          obtain ⟨j, hj⟩ := Int.eq_ofNat_of_zero_le p0
          have j8 : j < 8 := by omega
          have HC : Hid (∀ w, Calls Tryz.prog 28 #[.int .i64 r.id, .int .i64 8] w fun e w' => e = .returned (.int .i64 j) ∧ w' = w) := fun w => by
            have := pick_any w r.id 8 hin.1 (by omega) (by omega)
            rwa [hj] at this
          have s3 : wr.cell? ⟨w.heap.size + 1 + 1 + 1, j, none⟩ = some (.bool (out.any fun q => decide (q.id = (j : Int)))) := (cell_at hV.b3).trans (seen_at out j j8)
          have HV : Hid (VoIn w wr x (.slice avr out.length cvr) (.slice none 0 0) (.slice none 0 0) out [] [] (seenOf out)) := hV
          have hsz := hV.size
          have n1 : ¬ w.heap.size = wr.heap.size := by omega
          have n2 : ¬ w.heap.size + 1 + 1 = wr.heap.size := by omega
          have n3 : ¬ w.heap.size + 1 + 1 + 1 = wr.heap.size := by omega
          have i1 : (0 : Int) ≤ (k : Int) := by omega
          have jj1 : (k : Int) < (x.nr : Int) := by omega
          have jj2 : (0 : Int) ≤ (j : Int) := by omega
          have jj3 : (j : Int) < 8 := by omega
          have HJ : Hid (pickN r.id 8 = (j : Int)) := hj
          have l2 : w.heap.size + 1 + 1 < wr.heap.size := by omega
          have l3 : w.heap.size + 1 + 1 + 1 < wr.heap.size := by omega
          rw [har] at q0
          clear hv hget e c1 c2 c3 c4 c5 hV p0 p8 hj hin har hRs
          cases hs : out.any (fun q => decide (q.id = (j : Int))) with
          | true =>
            rw [hs] at s3
            go_wp2_with (go_at_call 28; refine (HC.out _).mono ?_; rintro e w' ⟨rfl, rfl⟩)
            refine ⟨⟨k + 1, _, out, by omega, by go_num, ?_, HV.out.grow (World.grownBy_alloc _ _ none)⟩, by simp [intOf]; omega⟩
            show _ = _
            rw [HE.out, HD.out, addRoads, if_pos hl, HJ.out, hs, if_pos rfl]
          | false =>
            rw [hs] at s3
            obtain ⟨i0, hi, hz0, hz1, hz2⟩ := info_parts info_road
            have HW : Hid (∀ o u o2, VoIn w (((wr.setCell ⟨w.heap.size + 1 + 1 + 1, j, none⟩ u).alloc o).alloc o2) x (.slice avr out.length cvr) (.slice none 0 0) (.slice none 0 0) out [] [] ((seenOf out).setIfInBounds j u)) := fun o u o2 => ((HV.out.seen j u).grow (World.grownBy_alloc _ _ none)).grow (World.grownBy_alloc _ _ none)
            have sf : wr.frozen? ⟨w.heap.size + 1 + 1 + 1, j, none⟩ = false := frozen_at HV.out.b3
            generalize hrc : roadCells out = rc at *
            have HRC : Hid (roadCells out = rc) := hrc
            clear hrc
            have HO : Hid (∀ o u o2, (((wr.setCell ⟨w.heap.size + 1 + 1 + 1, j, none⟩ u).alloc o).alloc o2).ownsRow (w.heap.size + 4) 74 5 (.slice avr out.length cvr) out.length rc) := fun o u o2 => by
              rw [← HRC.out]; exact (HW.out o u o2).rowR
            have HP : Hid (∀ o u o2 y, (((wr.setCell ⟨w.heap.size + 1 + 1 + 1, j, none⟩ u).alloc o).alloc o2).grownBy y (Value.slice avr out.length cvr).ownBlock → y.cell? ⟨w.heap.size + 1 + 1, 0, none⟩ = some (.slice avr out.length cvr) ∧ y.frozen? ⟨w.heap.size + 1 + 1, 0, none⟩ = false) := fun o u o2 y hy => by
              have h5 := ((HW.out o u o2).after (Or.inl rfl) hy 0 (.slice none 0 0)).2.2.2.2
              exact ⟨cell_at h5, frozen_at h5⟩
            have HN : Hid (∀ o u o2, (((wr.setCell ⟨w.heap.size + 1 + 1 + 1, j, none⟩ u).alloc o).alloc o2).heap[wr.heap.size + 1]? = some o2) := fun o u o2 => by
              have := heap_alloc_new ((wr.setCell ⟨w.heap.size + 1 + 1 + 1, j, none⟩ u).alloc o) o2
              simpa using this
            go_wp2_with (first
              | (go_at_call 28; refine (HC.out _).mono ?_; rintro e w' ⟨rfl, rfl⟩)
              | (at_builtin; refine wpList_append_lies _ rfl _ _ 22 rfl (w.heap.size + 4) 74 i0 _ 5 40 Tryz.underlying22 hi hz0 hz1 hz2 rfl (by decide) (.slice avr out.length cvr) out.length rc rfl (HO.out _ _ _) ⟨wr.heap.size + 1, 0, none⟩ 1 1 [.int .i64 j, .int .i64 r.rtt, .int .i64 r.cwnd, .int .i64 r.out, .bool r.lossy] rfl rfl (World.news_of_block (cs := #[.int .i64 j, .int .i64 r.rtt, .int .i64 r.cwnd, .int .i64 r.out, .bool r.lossy]) (t := 74) (fr := (0, 0)) (HN.out _ _ _)) (by simp [Value.oneCell']) (by decide) (by unfold maxLen; omega) (by omega) (by simp; omega) (wr.heap.size + 1 + 1) (by simp) ?_; intro g cap w2 hown hgr hat hlt; obtain ⟨y1, y2⟩ := HP.out _ _ _ _ hgr))
            rw [← HRC.out] at hown
            have h6 := (HW.out _ _ _).addR hgr { r with id := (j : Int) } hown (hat.elim Or.inl fun e => Or.inr (by simp; omega))
            rw [seen_set out { r with id := (j : Int) } j j8 rfl] at h6
            refine ⟨⟨k + 1, _, _, by omega, by go_num, ?_, h6⟩, by simp [intOf]; omega⟩
            show _ = _
            rw [HE.out, HD.out, addRoads, if_pos hl, HJ.out, hs]
            rfl
        · have d2 : decide ((out.length : Int) < 8) = false := by simp; omega
          have HF : Hid (addRoads [] v.roads = out) := by
            show _ = _
            rw [HE.out, List.drop_eq_getElem_cons (by omega), addRoads, if_neg hl]
          have HV : Hid (VoIn w wr x (.slice avr out.length cvr) (.slice none 0 0) (.slice none 0 0) out [] [] (seenOf out)) := hV
          clear hv hV HE hRs
          go_wp2_with fail
          go_meet
          rw [HF.out]
          exact ⟨_, HV.out⟩
      · have d1 : decide ((k : Int) < (x.nr : Int)) = false := by simp; omega
        have HF : Hid (addRoads [] v.roads = out) := by
          show _ = _
          rw [HE.out, List.drop_eq_nil_of_le (by omega), addRoads]
        have HV : Hid (VoIn w wr x (.slice avr out.length cvr) (.slice none 0 0) (.slice none 0 0) out [] [] (seenOf out)) := hV
        clear hv hV HE hRs
        go_wp2_with fail
        go_meet
        rw [HF.out]
        exact ⟨_, HV.out⟩
  case rest =>
    obtain ⟨vr, hV1⟩ := hcut
    generalize hrs : addRoads [] v.roads = rs at *
    have HRS : Hid (addRoads [] v.roads = rs) := hrs
    clear hrs
    generalize seenOf rs = sn at *
    go_upto_block 2 with fail
    go_cut [] (fun wx => ∃ vf, VoIn w wx x vr vf (.slice none 0 0) rs (v.fresh.take 16) [] sn)
    case first =>
      have HV1 : Hid (VoIn w wc x vr (.slice none 0 0) (.slice none 0 0) rs [] [] sn) := hV1
      clear hV1
      go_wp2_with fail
      go_loopw [7] (fun i wr => ∃ (vf : Value) (fs : List Pk), fs.length ≤ x.nf ∧ fs.length ≤ 16 ∧ i = .int .i64 fs.length ∧ Hid (fs = v.fresh.take fs.length) ∧ VoIn w wr x vr vf (.slice none 0 0) rs fs [] sn) (fun i _ => x.nf - (intOf i).toNat)
      case atStart => exact ⟨_, [], Nat.zero_le _, by simp, rfl, rfl, HV1.out⟩
      case round =>
        obtain ⟨vf, fs, hk, hk16, rfl, HT, hV⟩ := hrel
        have hFs := hv.lenF
        obtain ⟨avf, cvf, rfl⟩ := slice_form hV.rowF
        have q0 : wr.cell? ⟨w.heap.size, 1, none⟩ = some (.slice x.af x.nf x.cf) := cell_at hV.b0
        have o0 : wr.cell? ⟨w.heap.size + 1 + 1, 1, none⟩ = some (.slice avf fs.length cvf) := cell_at hV.b2
        have HV : Hid (VoIn w wr x vr (.slice avf fs.length cvf) (.slice none 0 0) rs fs [] sn) := hV
        clear HV1
        by_cases hlt : fs.length < x.nf
        · have d1 : decide ((fs.length : Int) < (x.nf : Int)) = true := by simp; omega
          by_cases hl : fs.length < 16
          · have d2 : decide ((fs.length : Int) < 16) = true := by simp; omega
            have hget : v.fresh[fs.length]? = some v.fresh[fs.length] := by simp
            obtain ⟨b, o, har, hbb, b', o', e, c1, c2, c3⟩ := hv.fresh fs.length _ hget
            obtain ⟨rfl, rfl⟩ : b = b' ∧ o + fs.length * 3 = o' := by simpa using e
            have HD : Hid (fs ++ [v.fresh[fs.length]] = v.fresh.take (fs.length + 1)) := by
              show _ = _
              rw [List.take_add_one, hget, ← HT.out]; rfl
            generalize v.fresh[fs.length] = r at *
            have w1 : wr.cell? ⟨b, o + fs.length * 3, none⟩ = some (.int .i64 r.seq) := (hV.below.cell (p := ⟨b, o + fs.length * 3, none⟩) hbb).trans c1
            have w2 : wr.cell? ⟨b, o + fs.length * 3 + 1, none⟩ = some (.int .i64 r.size) := (hV.below.cell (p := ⟨b, o + fs.length * 3 + 1, none⟩) hbb).trans c2
            have w3 : wr.cell? ⟨b, o + fs.length * 3 + 2, none⟩ = some (.int .i64 r.on) := (hV.below.cell (p := ⟨b, o + fs.length * 3 + 2, none⟩) hbb).trans c3
            obtain ⟨i0, hi, hz0, hz1, hz2⟩ := info_parts info_packet
            have HW : Hid (∀ o n, VoIn w ((wr.alloc o).drewN n) x vr (.slice avf fs.length cvf) (.slice none 0 0) rs fs [] sn) := fun o n => (hV.grow (World.grownBy_alloc _ _ none)).grow (grown_drewN _ n)
            have HO : Hid (∀ o n, ((wr.alloc o).drewN n).ownsRow (w.heap.size + 4) 72 3 (.slice avf fs.length cvf) fs.length (packCells fs)) := fun o n => (HW.out o n).rowF
            have HP : Hid (∀ o n y, ((wr.alloc o).drewN n).grownBy y (Value.slice avf fs.length cvf).ownBlock → y.cell? ⟨w.heap.size + 1 + 1, 1, none⟩ = some (.slice avf fs.length cvf) ∧ y.frozen? ⟨w.heap.size + 1 + 1, 1, none⟩ = false) := fun o n y hy => by
              have h5 := ((HW.out o n).after (Or.inr (Or.inl rfl)) hy 1 (.slice none 0 0)).2.2.2.2
              exact ⟨cell_at h5, frozen_at h5⟩
            have HR : Hid (∀ o n y g cap, ((wr.alloc o).drewN n).grownBy y (Value.slice avf fs.length cvf).ownBlock → y.ownsRow (w.heap.size + 4) 72 3 (.slice (some ⟨g, 0, none⟩) (fs.length + 1) cap) (fs.length + 1) (packCells fs ++ [.int .i64 r.seq, .int .i64 r.size, .int .i64 r.on]) → ((Value.slice avf fs.length cvf).ownBlock = some g ∨ g = wr.heap.size + 1) →
                (∃ (vf : Value) (fs' : List Pk), fs'.length ≤ x.nf ∧ fs'.length ≤ 16 ∧ Value.int .i64 ((fs.length : Int) + 1) = .int .i64 fs'.length ∧ Hid (fs' = v.fresh.take fs'.length) ∧ VoIn w (y.setCell ⟨w.heap.size + 1 + 1, 1, none⟩ (.slice (some ⟨g, 0, none⟩) (fs.length + 1) cap)) x vr vf (.slice none 0 0) rs fs' [] sn)) := fun o n y g cap hy ho hat => by
              have h6 := (HW.out o n).addF hy r ho (hat.elim Or.inl fun e => Or.inr (by have := size_ad wr o n; omega))
              refine ⟨_, fs ++ [r], by simp; omega, by simp; omega, by simp, ?_, h6⟩
              show _ = _
              simp only [List.length_append, List.length_cons, List.length_nil, Nat.zero_add]
              exact HD.out
            have hsz := hV.size
            have n1 : ¬ w.heap.size = wr.heap.size := by omega
            have n2 : ¬ w.heap.size + 1 + 1 = wr.heap.size := by omega
            have n3 : ¬ b = wr.heap.size := by omega
            have l1 : w.heap.size < wr.heap.size := by omega
            have l2 : w.heap.size + 1 + 1 < wr.heap.size := by omega
            have l3 : b < wr.heap.size := by omega
            have i1 : (0 : Int) ≤ (fs.length : Int) := by omega
            have jj1 : (fs.length : Int) < (x.nf : Int) := by omega
            rw [har] at q0
            clear hv hget e c1 c2 c3 hV har hFs HV HD HT HW
            generalize packCells fs = pc at *
            generalize fs.length = k at *
            go_wp2_with fail
            go_region_law ((refine step_append_lies _ (by rfl) _ _ _ (by rfl) (w.heap.size + 4) 72 i0 _ 3 24 Tryz.underlying23 hi hz0 hz1 hz2 (by rfl) (by omega) (.slice avf k cvf) k pc (by rfl) (HO.out _ 1) ⟨wr.heap.size, 0, none⟩ 1 1 [.int .i64 r.seq, .int .i64 r.size, .int .i64 r.on] (by rfl) (by rfl) (World.news_of_block (cs := #[.int .i64 r.seq, .int .i64 r.size, .int .i64 r.on]) (t := 72) (fr := (0, 0)) (heap_alloc_new wr _)) (by simp [Value.oneCell']) (by omega) (by unfold maxLen; omega) (by omega) (by simp; omega) (wr.heap.size + 1) (by simp) ?_; intro gg cap1 w4 hown1 hgrow hat hlt2; obtain ⟨y1, y2⟩ := HP.out _ 1 _ hgrow))
            all_goals (go_wp2_with fail; refine ⟨HR.out _ 1 _ _ _ hgrow hown1 hat, ?_⟩; simp [intOf]; omega)
          · have d2 : decide ((fs.length : Int) < 16) = false := by simp; omega
            have HF : Hid (fs = v.fresh.take 16) := by
              show _ = _
              rw [show (16 : Nat) = fs.length by omega]; exact HT.out
            clear hv hV hFs HT
            go_wp2_with fail
            go_meet
            rw [← HF.out]
            exact ⟨_, HV.out⟩
        · have d1 : decide ((fs.length : Int) < (x.nf : Int)) = false := by simp; omega
          have HF : Hid (fs = v.fresh.take 16) := by
            show _ = _
            rw [HT.out, List.take_of_length_le (by omega), List.take_of_length_le (by omega)]
          clear hv hV hFs HT
          go_wp2_with fail
          go_meet
          rw [← HF.out]
          exact ⟨_, HV.out⟩
    case rest =>
      obtain ⟨vf0, hV2⟩ := hcut
      generalize hfs : v.fresh.take 16 = fs0 at *
      have HFS : Hid (v.fresh.take 16 = fs0) := hfs
      clear hfs
      go_upto_block 4 with fail
      go_cut [] (fun wx => ∃ va, VoIn w wx x vr vf0 va rs fs0 (v.again.take 16) sn)
      case first =>
        have HV2 : Hid (VoIn w wc x vr vf0 (.slice none 0 0) rs fs0 [] sn) := hV2
        clear hV2
        go_wp2_with fail
        go_loopw [8] (fun i wr => ∃ (vf : Value) (fs : List Pk), fs.length ≤ x.na ∧ fs.length ≤ 16 ∧ i = .int .i64 fs.length ∧ Hid (fs = v.again.take fs.length) ∧ VoIn w wr x vr vf0 vf rs fs0 fs sn) (fun i _ => x.na - (intOf i).toNat)
        case atStart => exact ⟨_, [], Nat.zero_le _, by simp, rfl, rfl, HV2.out⟩
        case round =>
          obtain ⟨vf, fs, hk, hk16, rfl, HT, hV⟩ := hrel
          have hFs := hv.lenA
          obtain ⟨avf, cvf, rfl⟩ := slice_form hV.rowA
          have q0 : wr.cell? ⟨w.heap.size, 2, none⟩ = some (.slice x.aa x.na x.ca) := cell_at hV.b0
          have o0 : wr.cell? ⟨w.heap.size + 1 + 1, 2, none⟩ = some (.slice avf fs.length cvf) := cell_at hV.b2
          have HV : Hid (VoIn w wr x vr vf0 (.slice avf fs.length cvf) rs fs0 fs sn) := hV
          clear HV2
          by_cases hlt : fs.length < x.na
          · have d1 : decide ((fs.length : Int) < (x.na : Int)) = true := by simp; omega
            by_cases hl : fs.length < 16
            · have d2 : decide ((fs.length : Int) < 16) = true := by simp; omega
              have hget : v.again[fs.length]? = some v.again[fs.length] := by simp
              obtain ⟨b, o, har, hbb, b', o', e, c1, c2, c3⟩ := hv.again fs.length _ hget
              obtain ⟨rfl, rfl⟩ : b = b' ∧ o + fs.length * 3 = o' := by simpa using e
              have HD : Hid (fs ++ [v.again[fs.length]] = v.again.take (fs.length + 1)) := by
                show _ = _
                rw [List.take_add_one, hget, ← HT.out]; rfl
              generalize v.again[fs.length] = r at *
              have w1 : wr.cell? ⟨b, o + fs.length * 3, none⟩ = some (.int .i64 r.seq) := (hV.below.cell (p := ⟨b, o + fs.length * 3, none⟩) hbb).trans c1
              have w2 : wr.cell? ⟨b, o + fs.length * 3 + 1, none⟩ = some (.int .i64 r.size) := (hV.below.cell (p := ⟨b, o + fs.length * 3 + 1, none⟩) hbb).trans c2
              have w3 : wr.cell? ⟨b, o + fs.length * 3 + 2, none⟩ = some (.int .i64 r.on) := (hV.below.cell (p := ⟨b, o + fs.length * 3 + 2, none⟩) hbb).trans c3
              obtain ⟨i0, hi, hz0, hz1, hz2⟩ := info_parts info_packet
              have HW : Hid (∀ o n, VoIn w ((wr.alloc o).drewN n) x vr vf0 (.slice avf fs.length cvf) rs fs0 fs sn) := fun o n => (hV.grow (World.grownBy_alloc _ _ none)).grow (grown_drewN _ n)
              have HO : Hid (∀ o n, ((wr.alloc o).drewN n).ownsRow (w.heap.size + 4) 72 3 (.slice avf fs.length cvf) fs.length (packCells fs)) := fun o n => (HW.out o n).rowA
              have HP : Hid (∀ o n y, ((wr.alloc o).drewN n).grownBy y (Value.slice avf fs.length cvf).ownBlock → y.cell? ⟨w.heap.size + 1 + 1, 2, none⟩ = some (.slice avf fs.length cvf) ∧ y.frozen? ⟨w.heap.size + 1 + 1, 2, none⟩ = false) := fun o n y hy => by
                have h5 := ((HW.out o n).after (Or.inr (Or.inr rfl)) hy 2 (.slice none 0 0)).2.2.2.2
                exact ⟨cell_at h5, frozen_at h5⟩
              have HR : Hid (∀ o n y g cap, ((wr.alloc o).drewN n).grownBy y (Value.slice avf fs.length cvf).ownBlock → y.ownsRow (w.heap.size + 4) 72 3 (.slice (some ⟨g, 0, none⟩) (fs.length + 1) cap) (fs.length + 1) (packCells fs ++ [.int .i64 r.seq, .int .i64 r.size, .int .i64 r.on]) → ((Value.slice avf fs.length cvf).ownBlock = some g ∨ g = wr.heap.size + 1) →
                  (∃ (vf : Value) (fs' : List Pk), fs'.length ≤ x.na ∧ fs'.length ≤ 16 ∧ Value.int .i64 ((fs.length : Int) + 1) = .int .i64 fs'.length ∧ Hid (fs' = v.again.take fs'.length) ∧ VoIn w (y.setCell ⟨w.heap.size + 1 + 1, 2, none⟩ (.slice (some ⟨g, 0, none⟩) (fs.length + 1) cap)) x vr vf0 vf rs fs0 fs' sn)) := fun o n y g cap hy ho hat => by
                have h6 := (HW.out o n).addA hy r ho (hat.elim Or.inl fun e => Or.inr (by have := size_ad wr o n; omega))
                refine ⟨_, fs ++ [r], by simp; omega, by simp; omega, by simp, ?_, h6⟩
                show _ = _
                simp only [List.length_append, List.length_cons, List.length_nil, Nat.zero_add]
                exact HD.out
              have hsz := hV.size
              have n1 : ¬ w.heap.size = wr.heap.size := by omega
              have n2 : ¬ w.heap.size + 1 + 1 = wr.heap.size := by omega
              have n3 : ¬ b = wr.heap.size := by omega
              have l1 : w.heap.size < wr.heap.size := by omega
              have l2 : w.heap.size + 1 + 1 < wr.heap.size := by omega
              have l3 : b < wr.heap.size := by omega
              have i1 : (0 : Int) ≤ (fs.length : Int) := by omega
              have jj1 : (fs.length : Int) < (x.na : Int) := by omega
              rw [har] at q0
              clear hv hget e c1 c2 c3 hV har hFs HV HD HT HW
              generalize packCells fs = pc at *
              generalize fs.length = k at *
              go_wp2_with fail
              go_region_law ((refine step_append_lies _ (by rfl) _ _ _ (by rfl) (w.heap.size + 4) 72 i0 _ 3 24 Tryz.underlying23 hi hz0 hz1 hz2 (by rfl) (by omega) (.slice avf k cvf) k pc (by rfl) (HO.out _ 1) ⟨wr.heap.size, 0, none⟩ 1 1 [.int .i64 r.seq, .int .i64 r.size, .int .i64 r.on] (by rfl) (by rfl) (World.news_of_block (cs := #[.int .i64 r.seq, .int .i64 r.size, .int .i64 r.on]) (t := 72) (fr := (0, 0)) (heap_alloc_new wr _)) (by simp [Value.oneCell']) (by omega) (by unfold maxLen; omega) (by omega) (by simp; omega) (wr.heap.size + 1) (by simp) ?_; intro gg cap1 w4 hown1 hgrow hat hlt2; obtain ⟨y1, y2⟩ := HP.out _ 1 _ hgrow))
              all_goals (go_wp2_with fail; refine ⟨HR.out _ 1 _ _ _ hgrow hown1 hat, ?_⟩; simp [intOf]; omega)
            · have d2 : decide ((fs.length : Int) < 16) = false := by simp; omega
              have HF : Hid (fs = v.again.take 16) := by
                show _ = _
                rw [show (16 : Nat) = fs.length by omega]; exact HT.out
              clear hv hV hFs HT
              go_wp2_with fail
              go_meet
              rw [← HF.out]
              exact ⟨_, HV.out⟩
          · have d1 : decide ((fs.length : Int) < (x.na : Int)) = false := by simp; omega
            have HF : Hid (fs = v.again.take 16) := by
              show _ = _
              rw [HT.out, List.take_of_length_le (by omega), List.take_of_length_le (by omega)]
            clear hv hV hFs HT
            go_wp2_with fail
            go_meet
            rw [← HF.out]
            exact ⟨_, HV.out⟩
      case rest =>
        obtain ⟨va, hV3⟩ := hcut
        generalize hgs : v.again.take 16 = gs0 at *
        have HGS : Hid (v.again.take 16 = gs0) := hgs
        clear hgs
        obtain ⟨s0, s1, rfl⟩ := slice_form hV3.rowR
        obtain ⟨s2, s3, rfl⟩ := slice_form hV3.rowF
        obtain ⟨s4, s5, rfl⟩ := slice_form hV3.rowA
        generalize hvr : Value.slice s0 rs.length s1 = vr at *
        generalize hvf : Value.slice s2 fs0.length s3 = vf0 at *
        generalize hva : Value.slice s4 gs0.length s5 = va at *
        have c0 : wc.cell? ⟨w.heap.size + 1 + 1, 0, none⟩ = some vr := cell_at hV3.b2
        have c1 : wc.cell? ⟨w.heap.size + 1 + 1, 1, none⟩ = some vf0 := cell_at hV3.b2
        have c2 : wc.cell? ⟨w.heap.size + 1 + 1, 2, none⟩ = some va := cell_at hV3.b2
        have e0 : wc.cell? ⟨w.heap.size + 1, 0, none⟩ = some (.slice none 0 0) := cell_at hV3.b1
        have e1 : wc.cell? ⟨w.heap.size + 1, 1, none⟩ = some (.slice none 0 0) := cell_at hV3.b1
        have e2 : wc.cell? ⟨w.heap.size + 1, 2, none⟩ = some (.slice none 0 0) := cell_at hV3.b1
        have ef : ∀ j, wc.frozen? ⟨w.heap.size + 1, j, none⟩ = false := fun j => frozen_at hV3.b1
        have HV : Hid (VoIn w wc x vr vf0 va rs fs0 gs0 sn) := hV3
        clear hV1 hV2 hV3 hv
        subst hvr hvf hva
        go_wp2_with fail
        have hE := set3 wc (w.heap.size + 1) 25 _ _ _ (Value.slice s0 rs.length s1) (Value.slice s2 fs0.length s3) (Value.slice s4 gs0.length s5) HV.out.b1
        refine bodyPost_ret (v := .agg #[Value.slice s0 rs.length s1, Value.slice s2 fs0.length s3, Value.slice s4 gs0.length s5]) ?_ rfl ?_
        · exact viewOf_results _ _ (w.heap.size + 1) _ _ _ rfl (cell_at hE) (cell_at hE) (cell_at hE)
        · refine ⟨_, _, _, rfl, ?_⟩
          rw [HRS.out, HFS.out, HGS.out]
          exact HV.out.out _ _ _
end Go.Proofs.YthllhabjfchgiaaGreatDoor
