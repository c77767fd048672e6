import Derived.Test.YthllhabjfchgiaaGreatDoorHy21
/- Package helmkeep: ran and lives. -/
namespace Go.Proofs.YthllhabjfchgiaaGreatDoor
open Go.RowKit
open Hx (Rd Pk Vw St Mc In64 Out Ls)
attribute [local go_sem ↓] Go.wp_at_zero Go.wp_at_succ
attribute [local go_sem] setCell_drewN'
variable {w w' : World}

theorem Below.of_grown (h : w.grownBy w' none) : Below w.heap.size w w' := ⟨h.os, h.tape, h.output, h.size, fun k hk => h.block k hk (by simp)⟩

/-- three boxes at the top of what was there -/
structure Box3 (w W : World) (o0 o1 o2 : Obj) : Prop where
  below : Below w.heap.size w W
  b0 : W.heap[w.heap.size]? = some o0
  b1 : W.heap[w.heap.size + 1]? = some o1
  b2 : W.heap[w.heap.size + 2]? = some o2

theorem box3_first (w : World) (o0 o1 o2 : Obj) : Box3 w (((w.alloc o0).alloc o1).alloc o2) o0 o1 o2 := by
  have e : (((w.alloc o0).alloc o1).alloc o2).heap = ((w.heap.push o0).push o1).push o2 := rfl
  have g : w.grownBy (((w.alloc o0).alloc o1).alloc o2) none := ((World.grownBy_alloc w _ none).trans (World.grownBy_alloc _ _ none)).trans (World.grownBy_alloc _ _ none)
  refine ⟨Below.of_grown g, ?_, ?_, ?_⟩
  all_goals
    rw [e]; simp only [Array.getElem?_push, Array.size_push]; repeat (rw [if_neg (by omega)])
    exact if_pos trivial

theorem Box3.lt {W : World} {o0 o1 o2 : Obj} (h : Box3 w W o0 o1 o2) : w.heap.size + 2 < W.heap.size := lt_of_some h.b2

theorem Box3.later {W y : World} {o0 o1 o2 : Obj} (h : Box3 w W o0 o1 o2) (hb : Below W.heap.size W y) : Box3 w y o0 o1 o2 := by
  have := h.lt
  exact ⟨h.below.trans (hb.mono (by omega)), (hb.block _ (by omega)).trans h.b0, (hb.block _ (by omega)).trans h.b1, (hb.block _ (by omega)).trans h.b2⟩

theorem ran_results (tmps : Array Value) (w : World) (g : Nat) (v0 v1 v2 v3 v4 v5 v6 v7 v8 v9 b : Value) (h8 : tmps[8]? = some (.pointer (some ⟨g, 0, none⟩))) (h9 : tmps[9]? = some b) (h : w.heap[g]? = some (.cells #[v0, v1, v2, v3, v4, v5, v6, v7, v8, v9] 35)) :
    (results Tryz.f26 tmps).run Tryz.prog w = .ok (.tuple #[.agg #[v0, v1, v2, v3, v4, v5, v6, v7, v8, v9], b]) w := by
  have q0 : w.cell? ⟨g, 0, none⟩ = some v0 := cell_at h
  have q1 : w.cell? ⟨g, 1, none⟩ = some v1 := cell_at h
  have q2 : w.cell? ⟨g, 2, none⟩ = some v2 := cell_at h
  have q3 : w.cell? ⟨g, 3, none⟩ = some v3 := cell_at h
  have q4 : w.cell? ⟨g, 4, none⟩ = some v4 := cell_at h
  have q5 : w.cell? ⟨g, 5, none⟩ = some v5 := cell_at h
  have q6 : w.cell? ⟨g, 6, none⟩ = some v6 := cell_at h
  have q7 : w.cell? ⟨g, 7, none⟩ = some v7 := cell_at h
  have q8 : w.cell? ⟨g, 8, none⟩ = some v8 := cell_at h
  have q9 : w.cell? ⟨g, 9, none⟩ = some v9 := cell_at h
  simp [results, Tryz.results26, go_sem, h8, h9, q0, q1, q2, q3, q4, q5, q6, q7, q8, q9]

theorem set10 (w : World) (g : Nat) (T : TypeId) (a0 a1 a2 a3 a4 a5 a6 a7 a8 a9 v0 v1 v2 v3 v4 v5 v6 v7 v8 v9 : Value) (h : w.heap[g]? = some (.cells #[a0, a1, a2, a3, a4, a5, a6, a7, a8, a9] T)) :
    ((((((((((w.setCell ⟨g, 0, none⟩ v0).setCell ⟨g, 1, none⟩ v1).setCell ⟨g, 2, none⟩ v2).setCell ⟨g, 3, none⟩ v3).setCell ⟨g, 4, none⟩ v4).setCell ⟨g, 5, none⟩ v5).setCell ⟨g, 6, none⟩ v6).setCell ⟨g, 7, none⟩ v7).setCell ⟨g, 8, none⟩ v8).setCell ⟨g, 9, none⟩ v9).heap[g]? = some (.cells #[v0, v1, v2, v3, v4, v5, v6, v7, v8, v9] T) ∧ w.grownBy ((((((((((w.setCell ⟨g, 0, none⟩ v0).setCell ⟨g, 1, none⟩ v1).setCell ⟨g, 2, none⟩ v2).setCell ⟨g, 3, none⟩ v3).setCell ⟨g, 4, none⟩ v4).setCell ⟨g, 5, none⟩ v5).setCell ⟨g, 6, none⟩ v6).setCell ⟨g, 7, none⟩ v7).setCell ⟨g, 8, none⟩ v8).setCell ⟨g, 9, none⟩ v9) (some g) := by
  have h0 : (w.setCell ⟨g, 0, none⟩ v0).heap[g]? = some (.cells #[v0, a1, a2, a3, a4, a5, a6, a7, a8, a9] T) := heap_setCell_same _ _ _ _ _ _ h
  have g0 : w.grownBy (w.setCell ⟨g, 0, none⟩ v0) (some g) := grown_set w g 0 v0
  have h1 : ((w.setCell ⟨g, 0, none⟩ v0).setCell ⟨g, 1, none⟩ v1).heap[g]? = some (.cells #[v0, v1, a2, a3, a4, a5, a6, a7, a8, a9] T) := heap_setCell_same _ _ _ _ _ _ h0
  have g1 : w.grownBy ((w.setCell ⟨g, 0, none⟩ v0).setCell ⟨g, 1, none⟩ v1) (some g) := g0.trans (grown_set _ g 1 v1)
  have h2 : (((w.setCell ⟨g, 0, none⟩ v0).setCell ⟨g, 1, none⟩ v1).setCell ⟨g, 2, none⟩ v2).heap[g]? = some (.cells #[v0, v1, v2, a3, a4, a5, a6, a7, a8, a9] T) := heap_setCell_same _ _ _ _ _ _ h1
  have g2 : w.grownBy (((w.setCell ⟨g, 0, none⟩ v0).setCell ⟨g, 1, none⟩ v1).setCell ⟨g, 2, none⟩ v2) (some g) := g1.trans (grown_set _ g 2 v2)
  have h3 : ((((w.setCell ⟨g, 0, none⟩ v0).setCell ⟨g, 1, none⟩ v1).setCell ⟨g, 2, none⟩ v2).setCell ⟨g, 3, none⟩ v3).heap[g]? = some (.cells #[v0, v1, v2, v3, a4, a5, a6, a7, a8, a9] T) := heap_setCell_same _ _ _ _ _ _ h2
  have g3 : w.grownBy ((((w.setCell ⟨g, 0, none⟩ v0).setCell ⟨g, 1, none⟩ v1).setCell ⟨g, 2, none⟩ v2).setCell ⟨g, 3, none⟩ v3) (some g) := g2.trans (grown_set _ g 3 v3)
  have h4 : (((((w.setCell ⟨g, 0, none⟩ v0).setCell ⟨g, 1, none⟩ v1).setCell ⟨g, 2, none⟩ v2).setCell ⟨g, 3, none⟩ v3).setCell ⟨g, 4, none⟩ v4).heap[g]? = some (.cells #[v0, v1, v2, v3, v4, a5, a6, a7, a8, a9] T) := heap_setCell_same _ _ _ _ _ _ h3
  have g4 : w.grownBy (((((w.setCell ⟨g, 0, none⟩ v0).setCell ⟨g, 1, none⟩ v1).setCell ⟨g, 2, none⟩ v2).setCell ⟨g, 3, none⟩ v3).setCell ⟨g, 4, none⟩ v4) (some g) := g3.trans (grown_set _ g 4 v4)
  have h5 : ((((((w.setCell ⟨g, 0, none⟩ v0).setCell ⟨g, 1, none⟩ v1).setCell ⟨g, 2, none⟩ v2).setCell ⟨g, 3, none⟩ v3).setCell ⟨g, 4, none⟩ v4).setCell ⟨g, 5, none⟩ v5).heap[g]? = some (.cells #[v0, v1, v2, v3, v4, v5, a6, a7, a8, a9] T) := heap_setCell_same _ _ _ _ _ _ h4
  have g5 : w.grownBy ((((((w.setCell ⟨g, 0, none⟩ v0).setCell ⟨g, 1, none⟩ v1).setCell ⟨g, 2, none⟩ v2).setCell ⟨g, 3, none⟩ v3).setCell ⟨g, 4, none⟩ v4).setCell ⟨g, 5, none⟩ v5) (some g) := g4.trans (grown_set _ g 5 v5)
  have h6 : (((((((w.setCell ⟨g, 0, none⟩ v0).setCell ⟨g, 1, none⟩ v1).setCell ⟨g, 2, none⟩ v2).setCell ⟨g, 3, none⟩ v3).setCell ⟨g, 4, none⟩ v4).setCell ⟨g, 5, none⟩ v5).setCell ⟨g, 6, none⟩ v6).heap[g]? = some (.cells #[v0, v1, v2, v3, v4, v5, v6, a7, a8, a9] T) := heap_setCell_same _ _ _ _ _ _ h5
  have g6 : w.grownBy (((((((w.setCell ⟨g, 0, none⟩ v0).setCell ⟨g, 1, none⟩ v1).setCell ⟨g, 2, none⟩ v2).setCell ⟨g, 3, none⟩ v3).setCell ⟨g, 4, none⟩ v4).setCell ⟨g, 5, none⟩ v5).setCell ⟨g, 6, none⟩ v6) (some g) := g5.trans (grown_set _ g 6 v6)
  have h7 : ((((((((w.setCell ⟨g, 0, none⟩ v0).setCell ⟨g, 1, none⟩ v1).setCell ⟨g, 2, none⟩ v2).setCell ⟨g, 3, none⟩ v3).setCell ⟨g, 4, none⟩ v4).setCell ⟨g, 5, none⟩ v5).setCell ⟨g, 6, none⟩ v6).setCell ⟨g, 7, none⟩ v7).heap[g]? = some (.cells #[v0, v1, v2, v3, v4, v5, v6, v7, a8, a9] T) := heap_setCell_same _ _ _ _ _ _ h6
  have g7 : w.grownBy ((((((((w.setCell ⟨g, 0, none⟩ v0).setCell ⟨g, 1, none⟩ v1).setCell ⟨g, 2, none⟩ v2).setCell ⟨g, 3, none⟩ v3).setCell ⟨g, 4, none⟩ v4).setCell ⟨g, 5, none⟩ v5).setCell ⟨g, 6, none⟩ v6).setCell ⟨g, 7, none⟩ v7) (some g) := g6.trans (grown_set _ g 7 v7)
  have h8 : (((((((((w.setCell ⟨g, 0, none⟩ v0).setCell ⟨g, 1, none⟩ v1).setCell ⟨g, 2, none⟩ v2).setCell ⟨g, 3, none⟩ v3).setCell ⟨g, 4, none⟩ v4).setCell ⟨g, 5, none⟩ v5).setCell ⟨g, 6, none⟩ v6).setCell ⟨g, 7, none⟩ v7).setCell ⟨g, 8, none⟩ v8).heap[g]? = some (.cells #[v0, v1, v2, v3, v4, v5, v6, v7, v8, a9] T) := heap_setCell_same _ _ _ _ _ _ h7
  have g8 : w.grownBy (((((((((w.setCell ⟨g, 0, none⟩ v0).setCell ⟨g, 1, none⟩ v1).setCell ⟨g, 2, none⟩ v2).setCell ⟨g, 3, none⟩ v3).setCell ⟨g, 4, none⟩ v4).setCell ⟨g, 5, none⟩ v5).setCell ⟨g, 6, none⟩ v6).setCell ⟨g, 7, none⟩ v7).setCell ⟨g, 8, none⟩ v8) (some g) := g7.trans (grown_set _ g 8 v8)
  have h9 : ((((((((((w.setCell ⟨g, 0, none⟩ v0).setCell ⟨g, 1, none⟩ v1).setCell ⟨g, 2, none⟩ v2).setCell ⟨g, 3, none⟩ v3).setCell ⟨g, 4, none⟩ v4).setCell ⟨g, 5, none⟩ v5).setCell ⟨g, 6, none⟩ v6).setCell ⟨g, 7, none⟩ v7).setCell ⟨g, 8, none⟩ v8).setCell ⟨g, 9, none⟩ v9).heap[g]? = some (.cells #[v0, v1, v2, v3, v4, v5, v6, v7, v8, v9] T) := heap_setCell_same _ _ _ _ _ _ h8
  have g9 : w.grownBy ((((((((((w.setCell ⟨g, 0, none⟩ v0).setCell ⟨g, 1, none⟩ v1).setCell ⟨g, 2, none⟩ v2).setCell ⟨g, 3, none⟩ v3).setCell ⟨g, 4, none⟩ v4).setCell ⟨g, 5, none⟩ v5).setCell ⟨g, 6, none⟩ v6).setCell ⟨g, 7, none⟩ v7).setCell ⟨g, 8, none⟩ v8).setCell ⟨g, 9, none⟩ v9) (some g) := g8.trans (grown_set _ g 9 v9)
  exact ⟨h9, g9⟩

theorem take8 {l : List Int} (h : l.take 8 = [0, 2, 0, 0, 0, 0, 0, 0]) : l.getD 0 0 = 0 ∧ l.getD 1 0 = 2 ∧ l.getD 2 0 = 0 ∧ l.getD 3 0 = 0 ∧ l.getD 4 0 = 0 ∧ l.getD 5 0 = 0 ∧ l.getD 6 0 = 0 ∧ l.getD 7 0 = 0 := by
  have k : ∀ i, i < 8 → l[i]? = ([0, 2, 0, 0, 0, 0, 0, 0] : List Int)[i]? := fun i hi => by rw [← h, List.getElem?_take_of_lt hi]
  simp [List.getD, k]

theorem live_result (va : Value) : resultV (outOf liveV liveC.data.toList 7 0 0 0 0 0 0 0 0).status va (outOf liveV liveC.data.toList 7 0 0 0 0 0 0 0 0).regs = .agg #[.int .u8 0, va, .int .i64 0, .int .i64 2, .int .i64 0, .int .i64 0, .int .i64 0, .int .i64 0, .int .i64 0, .int .i64 0] := by
  obtain ⟨h0, h1, h2, h3, h4, h5, h6, h7⟩ := take8 live_regs
  rw [resultV, live_status, h0, h1, h2, h3, h4, h5, h6, h7]

set_option maxRecDepth 100000 in
set_option maxHeartbeats 4000000 in
theorem ran_live (ar af aa : Option Addr) (nr cr nf cf na ca : Nat) (hv : ViewV w.heap.size w ar af aa nr nf na liveV) (hT : Tab64 w) (hone : 1 < w.heap.size) :
    Calls Tryz.prog 26 #[.string liveT, .bool false, .agg #[.slice ar nr cr, .slice af nf cf, .slice aa na ca], .agg #[.int .i64 0, .int .i64 0, .int .i64 0, .int .i64 0, .int .i64 0, .int .i64 0, .int .i64 0, .int .i64 0]] w fun e w' => ∃ a c, e = .returned (.tuple #[.agg #[.int .u8 0, .slice a 1 c, .int .i64 0, .int .i64 2, .int .i64 0, .int .i64 0, .int .i64 0, .int .i64 0, .int .i64 0, .int .i64 0], .bool true]) ∧
      w'.ownsRow w.heap.size 76 2 (.slice a 1 c) 1 [.int .i64 3, .int .i64 9] ∧ Below w.heap.size w w' := by
  go_enter Tryz.func26, Tryz.ntmps26
  go_wp2_with fail
  refine (compile_live _).mono ?_
  rintro e w1 ⟨rfl, g1⟩
  have b1 := (box3_first w _ _ _).later (Below.of_grown g1)
  clear g1
  have HB1 := b1
  go_wp2_with fail
  refine (load_any w1 liveC).mono ?_
  rintro e w2 ⟨hb2, h⟩
  obtain ⟨C, hCl, rfl, hcd⟩ : ∃ C, w1.heap.size ≤ C ∧ e = .returned (.tuple #[.pointer (some ⟨C, 0, none⟩), .int .i64 0]) ∧ Coded w2 C (loaded liveC.data.toList) := by
    rcases h with ⟨_, C, h1, h2, h3⟩ | ⟨ht, _⟩
    · exact ⟨C, h1, h2, h3⟩
    · rw [live_takes] at ht; cases ht
  have b2 := b1.later hb2
  have v0 : w2.cell? ⟨w.heap.size, 0, none⟩ = some (.slice ar nr cr) := cell_at b2.b0
  have v1 : w2.cell? ⟨w.heap.size, 1, none⟩ = some (.slice af nf cf) := cell_at b2.b0
  have v2 : w2.cell? ⟨w.heap.size, 2, none⟩ = some (.slice aa na ca) := cell_at b2.b0
  have z : ∀ j, j < 8 → w2.cell? ⟨w.heap.size + 1, j, none⟩ = some (.int .i64 0) := fun j hj => by
    rw [cell_at b2.b1]
    match j, hj with
    | 0, _ => rfl
    | 1, _ => rfl
    | 2, _ => rfl
    | 3, _ => rfl
    | 4, _ => rfl
    | 5, _ => rfl
    | 6, _ => rfl
    | 7, _ => rfl
  have z0 := z 0 (by omega)
  have z1 := z 1 (by omega)
  have z2 := z 2 (by omega)
  have z3 := z 3 (by omega)
  have z4 := z 4 (by omega)
  have z5 := z 5 (by omega)
  have z6 := z 6 (by omega)
  have z7 := z 7 (by omega)
  have HN : Hid (∀ n, Calls Tryz.prog 17 #[.pointer (some ⟨C, 0, none⟩)] (w2.drewN n) fun e w' => e = .returned (.int .i64 7) ∧ w' = w2.drewN n) := fun n => by
    have := need_any (w := w2.drewN n) (C := C) (n := 7) (by rw [World.cell?_drewN, ← live_need]; exact hcd.need)
    exact this
  have hbw : Below w.heap.size w w2 := b2.below
  have HR : Hid (∀ n, Calls Tryz.prog 16 #[.pointer (some ⟨C, 0, none⟩), .agg #[.slice ar nr cr, .slice af nf cf, .slice aa na ca], .agg #[.int .i64 0, .int .i64 0, .int .i64 0, .int .i64 0, .int .i64 0, .int .i64 0, .int .i64 0, .int .i64 0], .int .i64 7] (w2.drewN n) fun e w' => ∃ a c, e = .returned (.agg #[.int .u8 0, .slice a 1 c, .int .i64 0, .int .i64 2, .int .i64 0, .int .i64 0, .int .i64 0, .int .i64 0, .int .i64 0, .int .i64 0]) ∧ w'.ownsRow w2.heap.size 76 2 (.slice a 1 c) 1 [.int .i64 3, .int .i64 9] ∧ Below w2.heap.size w2 w') := fun n => by
    have hd : Below w2.heap.size w2 (w2.drewN n) := ⟨rfl, rfl, rfl, Nat.le_refl _, fun _ _ => rfl⟩
    have hlt := b2.lt
    refine (run_coded (w2.drewN n) C liveC.data.toList live_takes (hcd.later hd) liveV ar af aa nr cr nf cf na ca 0 0 0 0 0 0 0 0 7 (hv.later (hbw.trans (hd.mono (by omega))) (by show _ ≤ w2.heap.size; omega)) (hT.later (hbw.trans (hd.mono (by omega))) hone) (by show 1 < w2.heap.size; omega) (by simp [In64]) (by omega)).mono ?_
    rintro e w' ⟨va, h1, h2, h3⟩
    rw [live_acts] at h2
    rw [live_result] at h1
    obtain ⟨a, c, rfl⟩ := slice_form h2
    exact ⟨a, c, h1, by simpa [actCells] using h2, hd.trans h3⟩
  have HB2 : Hid (Box3 w w2 _ _ _) := b2
  clear hb2 h hcd b2 b1 HB1 hbw hv hT z
  go_wp2_with fail
  refine wp_quiet_tail 5 (by kernel_rfl) (by kernel_rfl) ?_
  simp only [List.take_succ_cons, List.take_zero, List.drop_succ_cons, List.drop_zero]
  repeat (go_big_quiet_step ((go_at_call 17; exact Calls.quiet_of_same (HN.out _))))
  refine wpQuiet_nil ?_
  intro _ hw'
  obtain ⟨k3, hw''⟩ := hw'
  subst hw''
  go_wp2_with fail
  refine (HR.out _).mono ?_
  rintro e w3 ⟨a, c, rfl, hrow, hb3⟩
  have b3 := HB2.out.later hb3
  have hf : ∀ j, w3.frozen? ⟨w.heap.size + 1 + 1, j, none⟩ = false := fun j => frozen_at b3.b2
  have hc : ∀ j, w3.cell? ⟨w.heap.size + 1 + 1, j, none⟩ = _ := fun j => cell_at b3.b2
  have r0 := hc 0
  have r1 := hc 1
  have r2 := hc 2
  have r3 := hc 3
  have r4 := hc 4
  have r5 := hc 5
  have r6 := hc 6
  have r7 := hc 7
  have r8 := hc 8
  have r9 := hc 9
  have HB3 : Hid (Box3 w w3 _ _ _) := b3
  have HS : Hid (w.heap.size + 2 < w2.heap.size) := HB2.out.lt
  have HW : Hid (w3.ownsRow w2.heap.size 76 2 (.slice a 1 c) 1 [.int .i64 3, .int .i64 9]) := hrow
  clear b3 hb3 hc hrow HB2 HR HN
  go_wp2_with fail
  obtain ⟨k1, k2⟩ := set10 w3 (w.heap.size + 1 + 1) 35 _ _ _ _ _ _ _ _ _ _ (.int .u8 0) (.slice a 1 c) (.int .i64 0) (.int .i64 2) (.int .i64 0) (.int .i64 0) (.int .i64 0) (.int .i64 0) (.int .i64 0) (.int .i64 0) HB3.out.b2
  refine bodyPost_ret (v := .tuple #[.agg #[.int .u8 0, .slice a 1 c, .int .i64 0, .int .i64 2, .int .i64 0, .int .i64 0, .int .i64 0, .int .i64 0, .int .i64 0, .int .i64 0], .bool true]) ?_ rfl ?_
  · exact ran_results _ _ (w.heap.size + 1 + 1) _ _ _ _ _ _ _ _ _ _ _ rfl rfl k1
  · refine ⟨a, c, rfl, ?_, ?_⟩
    · have hs := HS.out
      exact (owns_mono HW.out (by omega)).kept k2 (own_far HW.out (by omega))
    · exact HB3.out.below.trans ⟨k2.os, k2.tape, k2.output, k2.size, fun k hk => k2.block k (by have := HB3.out.lt; omega) (by simp; omega)⟩

theorem live_view {W : World} {o2 : Obj} (h : Box3 w W (.cells #[.int .i64 3, .int .i64 0, .int .i64 0, .int .i64 0, .bool false] 74) (.cells #[.int .i64 9, .int .i64 0, .int .i64 0] 72) o2) :
    ViewV W.heap.size W (some ⟨w.heap.size, 0, none⟩) (some ⟨w.heap.size + 1, 0, none⟩) none 1 1 0 liveV := by
  have hl := h.lt
  refine ⟨fun i r hr => ?_, fun i r hr => ?_, fun i r hr => by simp [liveV] at hr, rfl, rfl, rfl, ⟨?_, ?_, ?_⟩⟩
  · match i, hr with
    | 0, hr =>
      simp [liveV] at hr; subst hr
      exact ⟨w.heap.size, 0, rfl, by omega, w.heap.size, 0, rfl, cell_at h.b0, cell_at h.b0, cell_at h.b0, cell_at h.b0, cell_at h.b0⟩
    | i + 1, hr => simp [liveV] at hr
  · match i, hr with
    | 0, hr =>
      simp [liveV] at hr; subst hr
      exact ⟨w.heap.size + 1, 0, rfl, by omega, w.heap.size + 1, 0, rfl, cell_at h.b1, cell_at h.b1, cell_at h.b1⟩
    | i + 1, hr => simp [liveV] at hr
  · intro r hr; simp [liveV] at hr; subst hr; simp [In64]
  · intro r hr; simp [liveV] at hr; subst hr; simp [In64]
  · intro r hr; simp [liveV] at hr

set_option maxRecDepth 100000 in
set_option maxHeartbeats 4000000 in
theorem lives_any (hT : Tab64 w) (hone : 1 < w.heap.size) :
    Calls Tryz.prog 30 #[] w fun e w' => e = .returned (.bool true) ∧ Below w.heap.size w w' := by
  go_enter Tryz.func30, Tryz.ntmps30
  go_wp2_with fail
  have hx := box3_first w (.cells #[.int .i64 3, .int .i64 0, .int .i64 0, .int .i64 0, .bool false] 74) (.cells #[.int .i64 9, .int .i64 0, .int .i64 0] 72) (.cells #[.slice (some ⟨w.heap.size, 0, none⟩) 1 1, .slice (some ⟨w.heap.size + 1, 0, none⟩) 1 1, .slice none 0 0] 25)
  refine (ran_live _ _ _ _ _ _ _ _ _ (live_view hx) (hT.later hx.below hone) (by have := hx.lt; omega)).mono ?_
  rintro e w1 ⟨a, c, rfl, hrow, hb⟩
  have hlt := hx.lt
  obtain ⟨g, rfl, hg1, hg2, hcs⟩ := row_cell hrow (j := 0) (u := .int .i64 3) rfl
  have k0 := hcs 0 _ rfl
  have k1 := hcs 1 _ rfl
  have HB : Hid (∀ o, Below w.heap.size w (w1.alloc o)) := fun o => (hx.below.trans (hb.mono (by omega))).alloc (by have := hb.size; omega) o
  have n1 : ¬ g = w1.heap.size := by omega
  have e8 := fun w => eql8 w 0 2 0 0 0 0 0 0
  clear hrow hb hx hlt hcs hT hg1
  go_wp2_with fail
  go_ret
  exact ⟨rfl, HB.out _⟩
end Go.Proofs.YthllhabjfchgiaaGreatDoor
