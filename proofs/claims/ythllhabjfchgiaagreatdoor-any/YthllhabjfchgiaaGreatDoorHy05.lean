import Derived.Test.YthllhabjfchgiaaGreatDoorHy04
/- A step's target, a block and a loop taken off; (*loader).endIf. -/
namespace Go.Proofs.YthllhabjfchgiaaGreatDoor
open Go.RowKit
open Hx (St Bk Ls In64)
variable {B : Nat} {w : World} {L : Nat} {s : ByteArray} {l : Ls} {vs vb vl : Value}

theorem step_len (l : List St) : (l.flatMap stepCells).length = 7 * l.length := by
  induction l with
  | nil => rfl
  | cons b bs ih => simp only [List.flatMap_cons, List.length_append, ih, List.length_cons, stepCells, List.length_nil]; omega

theorem step_split (l : List St) (i : Nat) (st : St) (h : l[i]? = some st) : ∃ a b, l = a ++ st :: b ∧ a.length = i := by
  have hi : i < l.length := by
    rcases Nat.lt_or_ge i l.length with h' | h'
    · exact h'
    · rw [List.getElem?_eq_none h'] at h; cases h
  refine ⟨l.take i, l.drop (i + 1), ?_, by simp; omega⟩
  have e : l[i] = st := by rw [List.getElem?_eq_getElem hi] at h; exact Option.some.inj h
  rw [← e, List.getElem_cons_drop, List.take_append_drop]

theorem step_cell (l : List St) (i : Nat) (st : St) (h : l[i]? = some st) (j : Nat) (hj : j < 7) : (l.flatMap stepCells)[i * 7 + j]? = (stepCells st)[j]? := by
  obtain ⟨a, b, rfl, rfl⟩ := step_split l i st h
  simp only [List.flatMap_append, List.flatMap_cons]
  rw [List.getElem?_append_right (by rw [step_len]; omega), step_len, List.getElem?_append_left (by simp [stepCells]; omega)]
  congr 1
  omega

theorem step_set_to (l : List St) (i : Nat) (st : St) (h : l[i]? = some st) (x : Int) : (l.flatMap stepCells).set (i * 7 + 6) (.int .i64 x) = (l.set i { st with to := x }).flatMap stepCells := by
  obtain ⟨a, b, rfl, rfl⟩ := step_split l i st h
  simp only [List.flatMap_append, List.flatMap_cons]
  rw [List.set_append_right _ _ (by rw [step_len]; omega), step_len, show a.length * 7 + 6 - 7 * a.length = 6 by omega, List.set_append_left _ _ (by simp [stepCells]), List.set_append_right _ _ (Nat.le_refl _)]
  simp [stepCells]

/-- the steps' row: where a step lies -/
theorem LoadIn.stepAt (h : LoadIn B w L s l vs vb vl) {i : Nat} {st : St} (hst : l.steps[i]? = some st) :
    ∃ g cap, vs = .slice (some ⟨g, 0, none⟩) l.steps.length cap ∧ g < w.heap.size ∧ ¬ g = L ∧ some g ≠ vb.ownBlock ∧ some g ≠ vl.ownBlock ∧ i < l.steps.length ∧ StepAt w g (i * 7) st ∧ (∀ j, w.frozen? ⟨g, j, none⟩ = false) := by
  have hi : i < l.steps.length := by
    rcases Nat.lt_or_ge i l.steps.length with h' | h'
    · exact h'
    · rw [List.getElem?_eq_none h'] at hst; cases hst
  have hrow := h.steps
  have hns := h.ns
  have hsb := h.sb
  have hsl := h.sl
  rcases hrow.2 with ⟨h1, h2⟩ | ⟨g, cap, cur, h1, h2, h3⟩
  · omega
  · have hlt := (hrow.lt g (by rw [h1]; rfl)).2
    rw [h1] at hrow hns hsb hsl
    have hc : ∀ j, j < 7 → w.cell? ⟨g, i * 7 + j, none⟩ = (stepCells st)[j]? := fun j hj => by
      rw [hrow.cellAt _ (by omega)]; exact step_cell _ _ _ hst j hj
    refine ⟨g, cap, h1, hlt, fun e => hns (by rw [← e]; rfl), ?_, ?_, hi, ⟨hc 0 (by omega), hc 1 (by omega), hc 2 (by omega), hc 3 (by omega), hc 4 (by omega), hc 5 (by omega), hc 6 (by omega)⟩, fun j => hrow.frozenAt j⟩
    · rcases hsb with e | e
      · cases e
      · exact e
    · rcases hsl with e | e
      · cases e
      · exact e

/-- a step's target is written -/
theorem LoadIn.putTo {g cap : Nat} (h : LoadIn B w L s l (.slice (some ⟨g, 0, none⟩) l.steps.length cap) vb vl) {i : Nat} {st : St} (hst : l.steps[i]? = some st) (x : Int) :
    LoadIn B (w.setCell ⟨g, i * 7 + 6, none⟩ (.int .i64 x)) L s { l with steps := l.steps.set i { st with to := x } } (.slice (some ⟨g, 0, none⟩) l.steps.length cap) vb vl ∧
    Moves L w (.slice (some ⟨g, 0, none⟩) l.steps.length cap) vb vl (w.setCell ⟨g, i * 7 + 6, none⟩ (.int .i64 x)) (.slice (some ⟨g, 0, none⟩) l.steps.length cap) vb vl := by
  have hgL : ¬ g = L := fun e => h.ns (by rw [← e]; rfl)
  have hc : ∀ k, (w.setCell ⟨g, i * 7 + 6, none⟩ (.int .i64 x)).cell? ⟨L, k, none⟩ = w.cell? ⟨L, k, none⟩ := fun k => World.cell?_setCell_other _ _ _ _ (by intro e; cases e; exact hgL rfl)
  have hrow := h.steps
  have hst2 := hrow.stored (i * 7 + 6) (.int .i64 x)
  rw [step_set_to l.steps i st hst x] at hst2
  refine ⟨⟨h.bL, by rw [hc]; exact h.c0, by rw [hc]; exact h.c1, by rw [hc]; exact h.c2, by rw [hc]; exact h.c3, by rw [hc]; exact h.c4, by rw [hc]; exact h.c5, by rw [hc]; exact h.c6, by rw [hc]; exact h.c7, fun j => by rw [World.frozen?_setCell]; exact h.fr j,
    ?_, h.blocks.kept hst2.2 (apart_symm h.sb), h.loops.kept hst2.2 (apart_symm h.sl), h.ns, h.nb, h.nl, h.sb, h.sl, h.bl⟩,
    ⟨rfl, rfl, rfl, by simp, fun k _ _ h2 _ _ => Below.heap_setCell _ _ _ _ (fun e => h2 (by rw [e]; rfl)), fun _ h => Or.inl h, fun _ h => Or.inl h, fun _ h => Or.inl h⟩⟩
  have := hst2.1
  simpa using this

/-- a row without its last element -/
theorem owns_pop {e : TypeId} {size g n cap : Nat} {xs : List Value} (h : w.ownsRow B e size (.slice (some ⟨g, 0, none⟩) (n + 1) cap) (n + 1) xs) : w.ownsRow B e size (.slice (some ⟨g, 0, none⟩) n cap) n (xs.take (n * size)) := by
  obtain ⟨h1, h2⟩ := h
  rcases h2 with ⟨h3, _⟩ | ⟨g', cap', cur, h3, h4, h5, h6, h7, h8, h9⟩
  · cases h3
  · obtain ⟨rfl, rfl⟩ : g = g' ∧ cap = cap' := by simpa using h3
    have hle : n * size ≤ (n + 1) * size := Nat.mul_le_mul_right _ (by omega)
    refine ⟨by rw [List.length_take, h1]; omega, Or.inr ⟨g, cap, cur, rfl, h4, h5, by omega, h7, h8, ?_⟩⟩
    rw [← h9, List.take_take, Nat.min_eq_left hle]
end Go.Proofs.YthllhabjfchgiaaGreatDoor

/- A block and a loop taken off; (*loader).endIf. -/
namespace Go.Proofs.YthllhabjfchgiaaGreatDoor
open Go.RowKit
open Hx (St Bk Ls In64)
attribute [local go_sem ↓] Go.wp_at_zero Go.wp_at_succ
attribute [local go_sem] setCell_drewN'
variable {B : Nat} {w : World} {L : Nat} {s : ByteArray} {l : Ls} {vs vb vl : Value}

theorem LoadIn.popBlocks {g cap : Nat} {init : List Bk} {b : Bk} (h : LoadIn B w L s l vs (.slice (some ⟨g, 0, none⟩) (init.length + 1) cap) vl) (hb : l.blocks = init ++ [b]) :
    LoadIn B (w.setCell ⟨L, 3, none⟩ (.slice (some ⟨g, 0, none⟩) init.length cap)) L s { l with blocks := init } vs (.slice (some ⟨g, 0, none⟩) init.length cap) vl ∧
    Moves L w vs (.slice (some ⟨g, 0, none⟩) (init.length + 1) cap) vl (w.setCell ⟨L, 3, none⟩ (.slice (some ⟨g, 0, none⟩) init.length cap)) vs (.slice (some ⟨g, 0, none⟩) init.length cap) vl := by
  have hlen : l.blocks.length = init.length + 1 := by rw [hb]; simp
  have ho := h.blocks
  rw [hlen] at ho
  have ho2 := owns_pop ho
  have e : (l.blocks.flatMap bkCells).take (init.length * 4) = init.flatMap bkCells := by
    rw [hb, List.flatMap_append, List.take_left' (by rw [bk_len]; omega)]
  rw [e] at ho2
  obtain ⟨g1, g2, _, _⟩ := h.blocksTo (w1 := w) ⟨rfl, rfl, rfl, Nat.le_refl _, fun _ _ _ => rfl⟩ ho2 (fun g' hg' => Or.inl hg')
  exact ⟨g1, g2⟩

theorem LoadIn.popLoops {g cap : Nat} {init : List Int} {x : Int} (h : LoadIn B w L s l vs vb (.slice (some ⟨g, 0, none⟩) (init.length + 1) cap)) (hx : l.loops = init ++ [x]) :
    LoadIn B (w.setCell ⟨L, 4, none⟩ (.slice (some ⟨g, 0, none⟩) init.length cap)) L s { l with loops := init } vs vb (.slice (some ⟨g, 0, none⟩) init.length cap) ∧
    Moves L w vs vb (.slice (some ⟨g, 0, none⟩) (init.length + 1) cap) (w.setCell ⟨L, 4, none⟩ (.slice (some ⟨g, 0, none⟩) init.length cap)) vs vb (.slice (some ⟨g, 0, none⟩) init.length cap) := by
  have hlen : l.loops.length = init.length + 1 := by rw [hx]; simp
  have ho := h.loops
  rw [hlen] at ho
  have ho2 := owns_pop ho
  have e : (l.loops.map (Value.int .i64)).take (init.length * 1) = init.map (Value.int .i64) := by
    rw [hx, List.map_append, List.take_left' (by simp)]
  rw [e] at ho2
  obtain ⟨g1, g2, _, _⟩ := h.loopsTo (w1 := w) ⟨rfl, rfl, rfl, Nat.le_refl _, fun _ _ _ => rfl⟩ ho2 (fun g' hg' => Or.inl hg')
  exact ⟨g1, g2⟩

theorem grown_drewN (w : World) (k : Nat) : w.grownBy (w.drewN k) none := ⟨rfl, rfl, rfl, Nat.le_refl _, fun _ _ _ => rfl⟩

theorem owns_cap {e : TypeId} {size n cap : Nat} {a : Option Addr} {xs : List Value} (h : w.ownsRow B e size (.slice a n cap) n xs) : n ≤ cap ∧ cap ≤ maxLen := by
  rcases h.2 with ⟨h3, h4⟩ | ⟨g', cap', cur, h3, h4, h5, h6, h7, h8⟩
  · cases h3; exact ⟨Nat.le_refl _, Nat.zero_le _⟩
  · cases h3; exact ⟨h6, h7⟩

set_option maxRecDepth 100000 in
set_option maxHeartbeats 1000000 in
theorem endIf_other (h : LoadIn B w L s l vs vb vl) (init : List Bk) (b : Bk) (hb : l.blocks = init ++ [b]) (hne : init ≠ []) (hlb : l.blocks.length ≤ 900000)
    (p : Nat) (st : St) (hst : l.steps[p]? = some st) (hp : 0 < p) (ho : b.other = p) :
    Calls Tryz.prog 171 #[.pointer (some ⟨L, 0, none⟩), .agg #[.int .i64 b.opener, .int .i64 b.other, .int .i64 b.need, .int .i64 b.before]] w fun e w' => e = .returned (.tuple #[]) ∧
      ∃ vb', LoadIn B w' L s (endIfAt l p st init b) vs vb' vl ∧ Moves L w vs vb vl w' vs vb' vl := by
  obtain ⟨gs, cs, rfl, hgs, hgsL, hgb, hgl, hps, hat, hfr⟩ := h.stepAt hst
  obtain ⟨gb, cb, hvb⟩ : ∃ gb cb, vb = .slice (some ⟨gb, 0, none⟩) (init.length + 1) cb := by
    obtain ⟨g, cap, init', b', e1, _⟩ := h.inner (by rw [hb]; simp)
    exact ⟨g, cap, by rw [e1, hb]; simp⟩
  subst hvb
  have HP : Hid (∀ o k z, z = max b.need b.before → Calls Tryz.prog 172 #[.pointer (some ⟨L, 0, none⟩), .int .i64 z] ((((w.setCell ⟨gs, p * 7 + 6, none⟩ (.int .i64 l.steps.length)).setCell ⟨L, 3, none⟩ (.slice (some ⟨gb, 0, none⟩) init.length cb)).alloc o).drewN k) fun e w' => e = .returned (.tuple #[]) ∧
      LoadIn B w' L s (endIfAt l p st init b) (.slice (some ⟨gs, 0, none⟩) l.steps.length cs) (.slice (some ⟨gb, 0, none⟩) init.length cb) vl ∧
      Moves L w (.slice (some ⟨gs, 0, none⟩) l.steps.length cs) (.slice (some ⟨gb, 0, none⟩) (init.length + 1) cb) vl w' (.slice (some ⟨gs, 0, none⟩) l.steps.length cs) (.slice (some ⟨gb, 0, none⟩) init.length cb) vl) := fun o k z hz => by
    subst hz
    obtain ⟨h2, m2⟩ := h.putTo hst (l.steps.length : Int)
    obtain ⟨h4, m4⟩ := h2.popBlocks (init := init) (b := b) hb
    have h5 := (h4.alloc o).drewN k
    refine (count_any h5 hne (by have : l.blocks.length = init.length + 1 := by rw [hb]; simp
                                 show init.length ≤ _; omega) (max b.need b.before)).mono ?_
    rintro e w' ⟨h6, h7, h8⟩
    exact ⟨h6, h7, m2.trans (m4.trans ((Moves.grow L _ _ _ _ (World.grownBy_alloc _ o none)).trans (Moves.trans (Moves.grow L _ _ _ _ (grown_drewN _ k)) h8)))⟩
  have c2 := h.c2
  have c3 := h.c3
  have f3 := h.fr 3
  have f6 := hfr (p * 7 + 6)
  have a6 := hat.2.2.2.2.2.2
  have hgsL' : ¬ L = gs := fun e => hgsL e.symm
  have hlen : l.blocks.length = init.length + 1 := by rw [hb]; simp
  have hin : init.length ≤ 900000 := by omega
  have hcap : init.length ≤ cb := by
    have h9 := h.blocks
    rw [hlen] at h9
    have := owns_cap h9
    omega
  have hL := h.lt
  have n1 : ¬ L = w.heap.size := by omega
  have n2 : ¬ gs = w.heap.size := by omega
  have ho' : decide (0 < b.other) = true := by rw [ho]; simp; omega
  clear h hb hne hat hfr hlen hst
  rw [ho] at ho' ⊢
  clear ho
  generalize endIfAt l p st init b = l' at *
  generalize init.length = n at *
  generalize l.steps.length = m at *
  have i0 : (0 : Int) ≤ (p : Int) := by omega
  have i1 : (p : Int) < (m : Int) := by omega
  have i2 : (0 : Int) ≤ (n : Int) := by omega
  have i3 : (n : Int) ≤ (cb : Int) := by omega
  generalize b.need = x at *
  generalize b.before = y at *
  go_enter Tryz.func171, Tryz.ntmps171
  go_wp2_with fail
  refine wp_quiet_tail 12 (by kernel_rfl) (by kernel_rfl) ?_
  simp only [List.take_succ_cons, List.take_zero, List.drop_succ_cons, List.drop_zero]
  repeat (go_big_quiet_step (fail))
  refine wpQuiet_nil ?_
  intro _ hw'
  obtain ⟨k1, hw''⟩ := hw'
  subst hw''
  go_wp2_with fail
  refine wp_quiet_tail 14 (by kernel_rfl) (by kernel_rfl) ?_
  simp only [List.take_succ_cons, List.take_zero, List.drop_succ_cons, List.drop_zero]
  repeat (go_big_quiet_step (fail))
  refine wpQuiet_nil ?_
  intro _ hw'
  obtain ⟨k2, hw''⟩ := hw'
  subst hw''
  go_wp2_with fail
  all_goals
    refine (HP.out _ _ _ (by omega)).mono ?_
    rintro e w1 ⟨rfl, h1, h2⟩
    go_wp2
    go_end0
    exact ⟨rfl, _, h1, h2⟩
set_option maxRecDepth 100000 in
set_option maxHeartbeats 1000000 in
theorem endIf_only (h : LoadIn B w L s l vs vb vl) (init : List Bk) (b : Bk) (hb : l.blocks = init ++ [b]) (hne : init ≠ []) (hlb : l.blocks.length ≤ 900000)
    (p : Nat) (st : St) (hst : l.steps[p]? = some st) (hp : ¬ 0 < b.other) (ho : b.opener = p) :
    Calls Tryz.prog 171 #[.pointer (some ⟨L, 0, none⟩), .agg #[.int .i64 b.opener, .int .i64 b.other, .int .i64 b.need, .int .i64 b.before]] w fun e w' => e = .returned (.tuple #[]) ∧
      ∃ vb', LoadIn B w' L s (endIfAt l p st init b) vs vb' vl ∧ Moves L w vs vb vl w' vs vb' vl := by
  obtain ⟨gs, cs, rfl, hgs, hgsL, hgb, hgl, hps, hat, hfr⟩ := h.stepAt hst
  obtain ⟨gb, cb, hvb⟩ : ∃ gb cb, vb = .slice (some ⟨gb, 0, none⟩) (init.length + 1) cb := by
    obtain ⟨g, cap, init', b', e1, _⟩ := h.inner (by rw [hb]; simp)
    exact ⟨g, cap, by rw [e1, hb]; simp⟩
  subst hvb
  have HP : Hid (∀ o k z, z = max b.need b.before → Calls Tryz.prog 172 #[.pointer (some ⟨L, 0, none⟩), .int .i64 z] ((((w.setCell ⟨gs, p * 7 + 6, none⟩ (.int .i64 l.steps.length)).setCell ⟨L, 3, none⟩ (.slice (some ⟨gb, 0, none⟩) init.length cb)).alloc o).drewN k) fun e w' => e = .returned (.tuple #[]) ∧
      LoadIn B w' L s (endIfAt l p st init b) (.slice (some ⟨gs, 0, none⟩) l.steps.length cs) (.slice (some ⟨gb, 0, none⟩) init.length cb) vl ∧
      Moves L w (.slice (some ⟨gs, 0, none⟩) l.steps.length cs) (.slice (some ⟨gb, 0, none⟩) (init.length + 1) cb) vl w' (.slice (some ⟨gs, 0, none⟩) l.steps.length cs) (.slice (some ⟨gb, 0, none⟩) init.length cb) vl) := fun o k z hz => by
    subst hz
    obtain ⟨h2, m2⟩ := h.putTo hst (l.steps.length : Int)
    obtain ⟨h4, m4⟩ := h2.popBlocks (init := init) (b := b) hb
    have h5 := (h4.alloc o).drewN k
    refine (count_any h5 hne (by have : l.blocks.length = init.length + 1 := by rw [hb]; simp
                                 show init.length ≤ _; omega) (max b.need b.before)).mono ?_
    rintro e w' ⟨h6, h7, h8⟩
    exact ⟨h6, h7, m2.trans (m4.trans ((Moves.grow L _ _ _ _ (World.grownBy_alloc _ o none)).trans (Moves.trans (Moves.grow L _ _ _ _ (grown_drewN _ k)) h8)))⟩
  have c2 := h.c2
  have c3 := h.c3
  have f3 := h.fr 3
  have f6 := hfr (p * 7 + 6)
  have a6 := hat.2.2.2.2.2.2
  have hgsL' : ¬ L = gs := fun e => hgsL e.symm
  have hlen : l.blocks.length = init.length + 1 := by rw [hb]; simp
  have hin : init.length ≤ 900000 := by omega
  have hcap : init.length ≤ cb := by
    have h9 := h.blocks
    rw [hlen] at h9
    have := owns_cap h9
    omega
  have hL := h.lt
  have n1 : ¬ L = w.heap.size := by omega
  have n2 : ¬ gs = w.heap.size := by omega
  have ho' : decide (0 < b.other) = false := by simpa using hp
  clear h hb hne hat hfr hlen hst
  rw [ho]
  clear ho hp
  generalize endIfAt l p st init b = l' at *
  generalize init.length = n at *
  generalize l.steps.length = m at *
  have i0 : (0 : Int) ≤ (p : Int) := by omega
  have i1 : (p : Int) < (m : Int) := by omega
  have i2 : (0 : Int) ≤ (n : Int) := by omega
  have i3 : (n : Int) ≤ (cb : Int) := by omega
  generalize b.need = x at *
  generalize b.before = y at *
  go_enter Tryz.func171, Tryz.ntmps171
  go_wp2_with fail
  refine wp_quiet_tail 12 (by kernel_rfl) (by kernel_rfl) ?_
  simp only [List.take_succ_cons, List.take_zero, List.drop_succ_cons, List.drop_zero]
  repeat (go_big_quiet_step (fail))
  refine wpQuiet_nil ?_
  intro _ hw'
  obtain ⟨k1, hw''⟩ := hw'
  subst hw''
  go_wp2_with fail
  refine wp_quiet_tail 14 (by kernel_rfl) (by kernel_rfl) ?_
  simp only [List.take_succ_cons, List.take_zero, List.drop_succ_cons, List.drop_zero]
  repeat (go_big_quiet_step (fail))
  refine wpQuiet_nil ?_
  intro _ hw'
  obtain ⟨k2, hw''⟩ := hw'
  subst hw''
  go_wp2_with fail
  all_goals
    refine (HP.out _ _ _ (by omega)).mono ?_
    rintro e w1 ⟨rfl, h1, h2⟩
    go_wp2
    go_end0
    exact ⟨rfl, _, h1, h2⟩
end Go.Proofs.YthllhabjfchgiaaGreatDoor

/- (*loader).endCode, endLoop. -/
namespace Go.Proofs.YthllhabjfchgiaaGreatDoor
open Go.RowKit
open Hx (St Bk Ls In64)
attribute [local go_sem ↓] Go.wp_at_zero Go.wp_at_succ
attribute [local go_sem] setCell_drewN'
variable {B : Nat} {w : World} {L : Nat} {s : ByteArray} {l : Ls} {vs vb vl : Value}

theorem LoadIn.putMust (h : LoadIn B w L s l vs vb vl) (x : Int) : LoadIn B (w.setCell ⟨L, 6, none⟩ (.int .i64 x)) L s { l with need := x } vs vb vl := by
  have hc : ∀ k, ¬ k = 6 → (w.setCell ⟨L, 6, none⟩ (.int .i64 x)).cell? ⟨L, k, none⟩ = w.cell? ⟨L, k, none⟩ := fun k hk => World.cell?_setCell_other _ _ _ _ (by intro e; cases e; exact hk rfl)
  exact h.put 6 _ _ vs vb vl (by rw [hc 1 (by omega)]; exact h.c1) (by rw [hc 2 (by omega)]; exact h.c2) (by rw [hc 3 (by omega)]; exact h.c3) (by rw [hc 4 (by omega)]; exact h.c4) (by rw [hc 5 (by omega)]; exact h.c5) (World.cell?_setCell_same _ _ _ h.c6) (by rw [hc 7 (by omega)]; exact h.c7) (by omega) h.steps h.blocks h.loops h.ns h.nb h.nl h.sb h.sl h.bl

/-- the blocks are nil -/
theorem LoadIn.noBlocks (h : LoadIn B w L s l vs vb vl) : LoadIn B (w.setCell ⟨L, 3, none⟩ (.slice none 0 0)) L s { l with blocks := [] } vs (.slice none 0 0) vl ∧ Moves L w vs vb vl (w.setCell ⟨L, 3, none⟩ (.slice none 0 0)) vs (.slice none 0 0) vl := by
  obtain ⟨g1, g2, _, _⟩ := h.blocksTo (w1 := w) ⟨rfl, rfl, rfl, Nat.le_refl _, fun _ _ _ => rfl⟩ (vb' := .slice none 0 0) (blocks' := []) ⟨rfl, Or.inl ⟨rfl, rfl⟩⟩ (fun g' hg' => by cases hg')
  exact ⟨g1, g2⟩

set_option maxRecDepth 100000 in
set_option maxHeartbeats 1000000 in
theorem endCode_any (h : LoadIn B w L s l vs vb vl) (hne : l.blocks ≠ []) (hlb : l.blocks.length ≤ 900000) (hls : l.steps.length ≤ 900000) :
    Calls Tryz.prog 169 #[.pointer (some ⟨L, 0, none⟩)] w fun e w' => e = .returned (.tuple #[]) ∧
      ∃ vs' vb', LoadIn B w' L s (endCodeAt l) vs' vb' vl ∧ Moves L w vs vb vl w' vs' vb' vl := by
  have HA : Hid (Calls Tryz.prog 118 #[.pointer (some ⟨L, 0, none⟩), .agg #[.int .u8 1, .int .i64 0, .int .i64 0, .int .i64 0, .int .i64 0, .int .i64 0, .int .i64 0]] w fun e w' => e = .returned (.tuple #[]) ∧
      ∃ vs', LoadIn B w' L s (addStep l ⟨1, 0, 0, 0, 0, 0, 0⟩) vs' vb vl ∧ Moves L w vs vb vl w' vs' vb vl) := add_any h hne (by omega) (by omega) 1 0 0 0 0 0 0
  have HB : Hid ((addStep l ⟨1, 0, 0, 0, 0, 0, 0⟩).blocks.length = l.blocks.length) := addStep_blocks l _ hne
  have hpos : 0 < l.blocks.length := List.length_pos_iff.2 hne
  unfold endCodeAt
  generalize addStep l ⟨1, 0, 0, 0, 0, 0, 0⟩ = l1 at *
  generalize l.blocks.length = nb at *
  clear h hne
  go_enter Tryz.func169, Tryz.ntmps169
  go_wp2_with fail
  refine (HA.out).mono ?_
  rintro e w1 ⟨rfl, vs1, h1, m1⟩
  obtain ⟨g, cap, init, b, hvb, hb, htop, hgL, hBg, hgw, hgs, hgl, b0, b1, b2, b3, hf⟩ := h1.inner (fun e => by have := HB.out; rw [e] at this; simp at this; omega)
  subst hvb
  have hn : l1.blocks.length = init.length + 1 := by rw [hb]; simp
  have HI : Hid (Calls Tryz.prog 168 #[.pointer (some ⟨L, 0, none⟩)] w1 fun e w' => e = .returned (.pointer (some ⟨g, init.length * 4, none⟩)) ∧ ∃ k, w' = w1.drewN k) :=
    inner_walk L g init.length cap w1 (by rw [h1.c3, hn]) (by have := HB.out; omega)
  have HP : Hid (∀ k, LoadIn B (((w1.setCell ⟨L, 6, none⟩ (.int .i64 b.need)).setCell ⟨L, 3, none⟩ (.slice none 0 0)).drewN k) L s { l1 with need := l1.top.need, blocks := [] } vs1 (.slice none 0 0) vl ∧
      Moves L w vs (.slice (some ⟨g, 0, none⟩) l1.blocks.length cap) vl (((w1.setCell ⟨L, 6, none⟩ (.int .i64 b.need)).setCell ⟨L, 3, none⟩ (.slice none 0 0)).drewN k) vs1 (.slice none 0 0) vl) := fun k => by
    obtain ⟨h2, m2⟩ := (h1.putMust b.need).noBlocks
    rw [htop]
    exact ⟨h2.drewN k, m1.trans ((Moves.own _ _ _ _ _ _ _).trans (m2.trans (Moves.grow L _ _ _ _ (grown_drewN _ k))))⟩
  have c3 := h1.c3
  have c6 := h1.c6
  have f3 := h1.fr 3
  have f6 := h1.fr 6
  have hgL' : ¬ L = g := fun e => hgL e.symm
  clear h1 m1 hb htop b0 b1 b3 hf
  generalize init.length * 4 = p at *
  go_wp2_with fail
  refine (HI.out).mono ?_
  rintro e w2 ⟨rfl, k, rfl⟩
  go_wp2
  go_end0
  exact ⟨rfl, _, _, HP.out _⟩
end Go.Proofs.YthllhabjfchgiaaGreatDoor

/- (*loader).endLoop. -/
namespace Go.Proofs.YthllhabjfchgiaaGreatDoor
open Go.RowKit
open Hx (St Bk Ls In64)
attribute [local go_sem ↓] Go.wp_at_zero Go.wp_at_succ
attribute [local go_sem] setCell_drewN'
variable {B : Nat} {w : World} {L : Nat} {s : ByteArray} {l : Ls} {vs vb vl : Value}

set_option maxRecDepth 100000 in
set_option maxHeartbeats 2000000 in
theorem endLoop_any (h : LoadIn B w L s l vs vb vl) (hbl : 2 ≤ l.blocks.length) (hlb : l.blocks.length ≤ 900000) (hls : l.steps.length ≤ 900000) (linit : List Int) (x : Int) (hx : l.loops = linit ++ [x]) (hll : l.loops.length ≤ 900000)
    (p : Nat) (sp : St) (hst : l.steps[p]? = some sp) (q a b c d dp t : Int) :
    Calls Tryz.prog 170 #[.pointer (some ⟨L, 0, none⟩), .agg #[.int .u8 q, .int .i64 a, .int .i64 b, .int .i64 c, .int .i64 d, .int .i64 dp, .int .i64 t], .int .i64 p] w fun e w' => e = .returned (.tuple #[]) ∧
      ∃ vs' vb' vl', LoadIn B w' L s (endLoopAt l ⟨q, a, b, c, d, dp, t⟩ p sp) vs' vb' vl' ∧ Moves L w vs vb vl w' vs' vb' vl' := by
  have hne : l.blocks ≠ [] := fun e => by rw [e] at hbl; simp at hbl
  have hlt : p < l.steps.length := by
    rcases Nat.lt_or_ge p l.steps.length with h' | h'
    · exact h'
    · rw [List.getElem?_eq_none h'] at hst; cases hst
  have HA : Hid (∀ o, Calls Tryz.prog 118 #[.pointer (some ⟨L, 0, none⟩), .agg #[.int .u8 q, .int .i64 a, .int .i64 b, .int .i64 c, .int .i64 d, .int .i64 dp, .int .i64 p]] (w.alloc o) fun e w' => e = .returned (.tuple #[]) ∧
      ∃ vs', LoadIn B w' L s (addStep l ⟨q, a, b, c, d, dp, p⟩) vs' vb vl ∧ Moves L w vs vb vl w' vs' vb vl) := fun o => by
    refine (add_any (h.alloc o) hne (by omega) (by omega) q a b c d dp p).mono ?_
    rintro e w' ⟨h1, vs', h2, h3⟩
    exact ⟨h1, vs', h2, (Moves.grow L w _ _ _ (World.grownBy_alloc w o none)).trans h3⟩
  have HB : Hid ((addStep l ⟨q, a, b, c, d, dp, p⟩).blocks.length = l.blocks.length) := addStep_blocks l _ hne
  have HS : Hid ((addStep l ⟨q, a, b, c, d, dp, p⟩).steps[p]? = some sp) := by
    show _ = _
    rw [addStep_steps, List.getElem?_append_left hlt]; exact hst
  have HL : Hid ((addStep l ⟨q, a, b, c, d, dp, p⟩).loops = linit ++ [x]) := hx
  have HN : Hid ((addStep l ⟨q, a, b, c, d, dp, p⟩).steps.length = l.steps.length + 1) := by
    show _ = _
    rw [addStep_steps]; simp
  have HE : Hid (endLoopAt l ⟨q, a, b, c, d, dp, t⟩ p sp = endLoopOf (addStep l ⟨q, a, b, c, d, dp, p⟩) p sp) := rfl
  rw [HE.out]
  have hll' : linit.length ≤ 900000 := by rw [hx] at hll; simp at hll; omega
  clear HE
  generalize addStep l ⟨q, a, b, c, d, dp, p⟩ = l1 at *
  have hL := h.lt
  have n1 : ¬ L = w.heap.size := by omega
  generalize l.blocks.length = nb at *
  generalize l.steps.length = ns at *
  clear h hne hx hst hll
  go_enter Tryz.func170, Tryz.ntmps170
  go_wp2_with fail
  refine (HA.out _).mono ?_
  rintro e w1 ⟨rfl, vs1, h1, m1⟩
  obtain ⟨gs, cs, rfl, hgs, hgsL, hgb, hgl, hps, hat, hfr⟩ := h1.stepAt HS.out
  obtain ⟨g, cap, init, bb, hvb, hb, htop, hgL, hBg, hgw, hgs2, hgl2, b0, b1, b2, b3, hf⟩ := h1.inner (fun e => by have := HB.out; rw [e] at this; simp at this; omega)
  obtain ⟨gl, capl, hvl, hglw, cgl⟩ := h1.lastLoop HL.out
  subst hvb
  subst hvl
  have hn : l1.blocks.length = init.length + 1 := by rw [hb]; simp
  have hin : init.length ≤ 900000 := by have := HB.out; omega
  have hin0 : init ≠ [] := fun e => by have := HB.out; rw [hn, e] at this; simp at this; omega
  have hns : l1.steps.length ≤ 900001 := by have := HN.out; omega
  rw [hn] at h1 m1 hgb
  have HI : Hid (Calls Tryz.prog 168 #[.pointer (some ⟨L, 0, none⟩)] w1 fun e w' => e = .returned (.pointer (some ⟨g, init.length * 4, none⟩)) ∧ ∃ k, w' = w1.drewN k) :=
    inner_walk L g init.length cap w1 h1.c3 (by omega)
  have HP : Hid (∀ k z, z = wrap64 (Hx.listSize sp.a * bb.need) → Calls Tryz.prog 172 #[.pointer (some ⟨L, 0, none⟩), .int .i64 z] ((((w1.setCell ⟨L, 3, none⟩ (.slice (some ⟨g, 0, none⟩) init.length cap)).setCell ⟨L, 4, none⟩ (.slice (some ⟨gl, 0, none⟩) linit.length capl)).setCell ⟨gs, p * 7 + 6, none⟩ (.int .i64 l1.steps.length)).drewN k) fun e w' => e = .returned (.tuple #[]) ∧
      LoadIn B w' L s (endLoopOf l1 p sp) (.slice (some ⟨gs, 0, none⟩) l1.steps.length cs) (.slice (some ⟨g, 0, none⟩) init.length cap) (.slice (some ⟨gl, 0, none⟩) linit.length capl) ∧
      Moves L w vs (.slice (some ⟨g, 0, none⟩) (init.length + 1) cap) (.slice (some ⟨gl, 0, none⟩) (linit.length + 1) capl) w' (.slice (some ⟨gs, 0, none⟩) l1.steps.length cs) (.slice (some ⟨g, 0, none⟩) init.length cap) (.slice (some ⟨gl, 0, none⟩) linit.length capl)) := fun k z hz => by
    subst hz
    obtain ⟨h2, m2⟩ := h1.popBlocks (init := init) (b := bb) hb
    obtain ⟨h3, m3⟩ := h2.popLoops (init := linit) (x := x) HL.out
    obtain ⟨h4, m4⟩ := h3.putTo HS.out (l1.steps.length : Int)
    have h5 := h4.drewN k
    refine (count_any h5 hin0 (by show init.length ≤ _; omega) _).mono ?_
    rintro e w' ⟨h6, h7, h8⟩
    refine ⟨h6, ?_, m1.trans (m2.trans (m3.trans (m4.trans (Moves.trans (Moves.grow L _ _ _ _ (grown_drewN _ k)) h8))))⟩
    have e1 : l1.blocks.dropLast = init := by rw [hb]; simp
    have e2 : l1.loops.dropLast = linit := by rw [HL.out]; simp
    unfold endLoopOf
    rw [e1, e2, htop]
    exact h7
  have hcap : init.length ≤ cap := by
    have h9 := h1.blocks
    rw [hn] at h9
    have := owns_cap h9
    omega
  have hcapl : linit.length ≤ capl := by
    have h9 := h1.loops
    rw [HL.out] at h9
    simp only [List.length_append, List.length_singleton] at h9
    have := owns_cap h9
    omega
  have c2 := h1.c2
  have c3 := h1.c3
  have c4 := h1.c4
  have f3 := h1.fr 3
  have f4 := h1.fr 4
  have f6 := hfr (p * 7 + 6)
  have a1 := hat.2.1
  have a6 := hat.2.2.2.2.2.2
  have hgsL' : ¬ L = gs := fun e => hgsL e.symm
  have hgL' : ¬ L = g := fun e => hgL e.symm
  have HQ : Hid (l1.blocks.length = init.length + 1) := hn
  clear h1 m1 hb htop b0 b1 b3 hf hfr hat hn hin0 HA HB HS HL HN
  generalize hm : l1.steps.length = m at *
  generalize hj : linit.length = j at *
  generalize init.length = n at *
  have HJ : Hid (linit.length = j) := hj
  clear hm hj
  have i0 : (0 : Int) ≤ (p : Int) := by omega
  have i1 : (p : Int) < (m : Int) := by omega
  have i2 : (0 : Int) ≤ (n : Int) := by omega
  have i3 : (n : Int) ≤ (cap : Int) := by omega
  have i4 : (0 : Int) ≤ (j : Int) := by omega
  have i5 : (j : Int) ≤ (capl : Int) := by omega
  go_wp2_with fail
  refine (HI.out).mono ?_
  rintro e w2 ⟨rfl, k, rfl⟩
  go_wp2_with fail
  refine wp_quiet_tailN 14 (by kernel_rfl) (by kernel_rfl) ?_
  simp only [List.take_succ_cons, List.take_zero, List.drop_succ_cons, List.drop_zero]
  repeat (go_big_quiet_step (fail))
  refine wpQuiet_nil ?_
  intro _ hw'
  obtain ⟨k2, hw''⟩ := hw'
  subst hw''
  go_wp2_with fail
  refine wp_quiet_tailN 14 (by kernel_rfl) (by kernel_rfl) ?_
  simp only [List.take_succ_cons, List.take_zero, List.drop_succ_cons, List.drop_zero]
  repeat (go_big_quiet_step (fail))
  refine wpQuiet_nil ?_
  intro _ hw'
  obtain ⟨k3, hw''⟩ := hw'
  subst hw''
  go_wp2_with fail
  refine wp_quiet_tailN 12 (by kernel_rfl) (by kernel_rfl) ?_
  simp only [List.take_succ_cons, List.take_zero, List.drop_succ_cons, List.drop_zero]
  repeat (go_big_quiet_step (fail))
  refine wpQuiet_nil ?_
  intro _ hw'
  obtain ⟨k4, hw''⟩ := hw'
  subst hw''
  go_wp2_with fail
  refine (listSize_any _ _).mono ?_
  rintro e w3 ⟨rfl, rfl⟩
  go_wp2_with fail
  refine (HP.out _ _ rfl).mono ?_
  rintro e w4 ⟨rfl, h1, h2⟩
  go_wp2
  go_end0
  rw [HQ.out, HJ.out]
  exact ⟨rfl, _, _, _, h1, h2⟩
end Go.Proofs.YthllhabjfchgiaaGreatDoor

/- (*loader).end. -/
namespace Go.Proofs.YthllhabjfchgiaaGreatDoor
open Go.RowKit
open Hx (St Bk Ls In64)
attribute [local go_sem ↓] Go.wp_at_zero Go.wp_at_succ
attribute [local go_sem] setCell_drewN'
variable {B : Nat} {w : World} {L : Nat} {s : ByteArray} {l : Ls} {vs vb vl : Value}

set_option maxRecDepth 100000 in
set_option maxHeartbeats 1000000 in
theorem end_code (h : LoadIn B w L s l vs vb vl) (hbl : l.blocks.length = 1) (hls : l.steps.length ≤ 900000) (q a b c d dp t : Int) :
    Calls Tryz.prog 116 #[.pointer (some ⟨L, 0, none⟩), .agg #[.int .u8 q, .int .i64 a, .int .i64 b, .int .i64 c, .int .i64 d, .int .i64 dp, .int .i64 t]] w fun e w' => e = .returned (.tuple #[]) ∧
      ∃ vs' vb' vl', LoadIn B w' L s (endCodeAt l) vs' vb' vl' ∧ Moves L w vs vb vl w' vs' vb' vl' := by
  have hne : l.blocks ≠ [] := fun e => by rw [e] at hbl; simp at hbl
  obtain ⟨g, cap, init, bb, hvb, hb, htop, hgL, hBg, hgw, hgs2, hgl2, b0, b1, b2, b3, hf⟩ := h.inner hne
  subst hvb
  have hn : l.blocks.length = init.length + 1 := by rw [hb]; simp
  rw [hn] at h ⊢
  have HI : Hid (∀ o, Calls Tryz.prog 168 #[.pointer (some ⟨L, 0, none⟩)] (w.alloc o) fun e w' => e = .returned (.pointer (some ⟨g, init.length * 4, none⟩)) ∧ ∃ k, w' = (w.alloc o).drewN k) := fun o =>
    inner_walk L g init.length cap (w.alloc o) (h.alloc o).c3 (by omega)
  have HC : Hid (∀ o o2 k, Calls Tryz.prog 169 #[.pointer (some ⟨L, 0, none⟩)] (((w.alloc o).drewN k).alloc o2) fun e w' => e = .returned (.tuple #[]) ∧
      ∃ vs' vb', LoadIn B w' L s (endCodeAt l) vs' vb' vl ∧ Moves L w vs (.slice (some ⟨g, 0, none⟩) (init.length + 1) cap) vl w' vs' vb' vl) := fun o o2 k => by
    refine (endCode_any (((h.alloc o).drewN k).alloc o2) hne (by omega) hls).mono ?_
    rintro e w' ⟨h1, vs', vb', h2, h3⟩
    exact ⟨h1, vs', vb', h2, (Moves.grow L w _ _ _ (World.grownBy_alloc w o none)).trans ((Moves.grow L _ _ _ _ (grown_drewN _ k)).trans (Moves.trans (Moves.grow L _ _ _ _ (World.grownBy_alloc _ o2 none)) h3))⟩
  have c3 := h.c3
  have hL := h.lt
  have n1 : ¬ L = w.heap.size := by omega
  have n2 : ¬ g = w.heap.size := by omega
  have n3 : ¬ L = w.heap.size + 1 := by omega
  have n4 : ¬ g = w.heap.size + 1 := by omega
  have hone : (((init.length : Int) + 1) == 1) = true := by simp; omega
  clear h hf hne hb htop hn hbl
  generalize endCodeAt l = l2 at *
  generalize init.length = n at *
  go_enter Tryz.func116, Tryz.ntmps116
  go_wp2_with fail
  refine (HI.out _).mono ?_
  rintro e w1 ⟨rfl, k, rfl⟩
  go_wp2_with fail
  refine (HC.out _ _ _).mono ?_
  rintro e w2 ⟨rfl, vs', vb', h1, h2⟩
  go_wp2
  go_end0
  exact ⟨rfl, _, _, _, h1, h2⟩

set_option maxRecDepth 100000 in
set_option maxHeartbeats 1000000 in
theorem end_loop (h : LoadIn B w L s l vs vb vl) (hbl : 2 ≤ l.blocks.length) (hlb : l.blocks.length ≤ 900000) (p : Nat) (sp : St) (hst : l.steps[p]? = some sp) (hop : l.top.opener = p) (hsp : sp.op = 4) (linit : List Int) (x : Int) (hx : l.loops = linit ++ [x]) (hll : l.loops.length ≤ 900000) (hls : l.steps.length ≤ 900000) (q a b c d dp t : Int) :
    Calls Tryz.prog 116 #[.pointer (some ⟨L, 0, none⟩), .agg #[.int .u8 q, .int .i64 a, .int .i64 b, .int .i64 c, .int .i64 d, .int .i64 dp, .int .i64 t]] w fun e w' => e = .returned (.tuple #[]) ∧
      ∃ vs' vb' vl', LoadIn B w' L s (endLoopAt l ⟨q, a, b, c, d, dp, t⟩ p sp) vs' vb' vl' ∧ Moves L w vs vb vl w' vs' vb' vl' := by
  have hne : l.blocks ≠ [] := fun e => by rw [e] at hbl; simp at hbl
  obtain ⟨g, cap, init, bb, hvb, hb, htop, hgL, hBg, hgw, hgs2, hgl2, b0, b1, b2, b3, hf⟩ := h.inner hne
  subst hvb
  have hn : l.blocks.length = init.length + 1 := by rw [hb]; simp
  rw [hn] at h ⊢
  have HI : Hid (∀ o, Calls Tryz.prog 168 #[.pointer (some ⟨L, 0, none⟩)] (w.alloc o) fun e w' => e = .returned (.pointer (some ⟨g, init.length * 4, none⟩)) ∧ ∃ k, w' = (w.alloc o).drewN k) := fun o =>
    inner_walk L g init.length cap (w.alloc o) (h.alloc o).c3 (by omega)
  have hlb' : l.blocks.length ≤ 900000 := hlb
  have HC : Hid (∀ o o2 k k2, Calls Tryz.prog 170 #[.pointer (some ⟨L, 0, none⟩), .agg #[.int .u8 q, .int .i64 a, .int .i64 b, .int .i64 c, .int .i64 d, .int .i64 dp, .int .i64 t], .int .i64 p] ((((w.alloc o).drewN k).alloc o2).drewN k2) fun e w' => e = .returned (.tuple #[]) ∧
      ∃ vs' vb' vl', LoadIn B w' L s (endLoopAt l ⟨q, a, b, c, d, dp, t⟩ p sp) vs' vb' vl' ∧ Moves L w vs (.slice (some ⟨g, 0, none⟩) (init.length + 1) cap) vl w' vs' vb' vl') := fun o o2 k k2 => by
    refine (endLoop_any ((((h.alloc o).drewN k).alloc o2).drewN k2) hbl hlb hls linit x hx hll p sp hst q a b c d dp t).mono ?_
    rintro e w' ⟨h1, vs', vb', vl', h2, h3⟩
    exact ⟨h1, vs', vb', vl', h2, (Moves.grow L w _ _ _ (World.grownBy_alloc w o none)).trans ((Moves.grow L _ _ _ _ (grown_drewN _ k)).trans ((Moves.grow L _ _ _ _ (World.grownBy_alloc _ o2 none)).trans (Moves.trans (Moves.grow L _ _ _ _ (grown_drewN _ k2)) h3)))⟩
  have c3 := h.c3
  have hL := h.lt
  have n1 : ¬ L = w.heap.size := by omega
  have n2 : ¬ g = w.heap.size := by omega
  have n3 : ¬ L = w.heap.size + 1 := by omega
  have n4 : ¬ g = w.heap.size + 1 := by omega
  rw [htop] at hop
  rw [hop] at b0
  obtain ⟨gs, cs, hvs, hgs, hgsL, hgb, hgl, hps, hat, hfr⟩ := h.stepAt hst
  subst hvs
  have c2 := h.c2
  have a0 := hat.1
  have n5 : ¬ gs = w.heap.size := by omega
  have n6 : ¬ gs = w.heap.size + 1 := by omega
  have hone : (((init.length : Int) + 1) == 1) = false := by simp; omega
  have i0 : (0 : Int) ≤ (p : Int) := by omega
  have i1 : (p : Int) < (l.steps.length : Int) := by omega
  rw [hsp] at a0
  have hl0 := hlb'
  clear h hf hne hb htop hn hbl hat hfr
  generalize endLoopAt l ⟨q, a, b, c, d, dp, t⟩ p sp = l2 at *
  generalize init.length = n at *
  go_enter Tryz.func116, Tryz.ntmps116
  go_wp2_with fail
  refine (HI.out _).mono ?_
  rintro e w1 ⟨rfl, k, rfl⟩
  go_wp2_with fail
  refine wp_quiet_tail 10 (by kernel_rfl) (by kernel_rfl) ?_
  simp only [List.take_succ_cons, List.take_zero, List.drop_succ_cons, List.drop_zero]
  repeat (go_big_quiet_step (fail))
  refine wpQuiet_nil ?_
  intro _ hw'
  obtain ⟨k2, hw''⟩ := hw'
  subst hw''
  go_wp2_with fail
  refine (HC.out _ _ _ _).mono ?_
  rintro e w2 ⟨rfl, vs', vb', vl', h1, h2⟩
  go_wp2
  go_end0
  exact ⟨rfl, _, _, _, h1, h2⟩
end Go.Proofs.YthllhabjfchgiaaGreatDoor

/- (*loader).end, of an If. -/
namespace Go.Proofs.YthllhabjfchgiaaGreatDoor
open Go.RowKit
open Hx (St Bk Ls In64)
attribute [local go_sem ↓] Go.wp_at_zero Go.wp_at_succ
attribute [local go_sem] setCell_drewN'
variable {B : Nat} {w : World} {L : Nat} {s : ByteArray} {l : Ls} {vs vb vl : Value}

set_option maxRecDepth 100000 in
set_option maxHeartbeats 1000000 in
theorem end_if_other (h : LoadIn B w L s l vs vb vl) (hbl : 2 ≤ l.blocks.length) (hlb : l.blocks.length ≤ 900000) (p : Nat) (sp : St) (hst : l.steps[p]? = some sp) (hop : l.top.opener = p) (hsp : ¬ sp.op = 4) (r : Nat) (sr : St) (hr : l.steps[r]? = some sr) (hr0 : 0 < r) (ho : l.top.other = r) (q a b c d dp t : Int) :
    Calls Tryz.prog 116 #[.pointer (some ⟨L, 0, none⟩), .agg #[.int .u8 q, .int .i64 a, .int .i64 b, .int .i64 c, .int .i64 d, .int .i64 dp, .int .i64 t]] w fun e w' => e = .returned (.tuple #[]) ∧
      ∃ vs' vb' vl', LoadIn B w' L s (endIfAt l r sr l.blocks.dropLast l.top) vs' vb' vl' ∧ Moves L w vs vb vl w' vs' vb' vl' := by
  have hne : l.blocks ≠ [] := fun e => by rw [e] at hbl; simp at hbl
  obtain ⟨g, cap, init, bb, hvb, hb, htop, hgL, hBg, hgw, hgs2, hgl2, b0, b1, b2, b3, hf⟩ := h.inner hne
  subst hvb
  have hn : l.blocks.length = init.length + 1 := by rw [hb]; simp
  rw [hn] at h ⊢
  have HI : Hid (∀ o, Calls Tryz.prog 168 #[.pointer (some ⟨L, 0, none⟩)] (w.alloc o) fun e w' => e = .returned (.pointer (some ⟨g, init.length * 4, none⟩)) ∧ ∃ k, w' = (w.alloc o).drewN k) := fun o =>
    inner_walk L g init.length cap (w.alloc o) (h.alloc o).c3 (by omega)
  have HC : Hid (∀ o o2 k k2, Calls Tryz.prog 171 #[.pointer (some ⟨L, 0, none⟩), .agg #[.int .i64 bb.opener, .int .i64 bb.other, .int .i64 bb.need, .int .i64 bb.before]] ((((w.alloc o).drewN k).alloc o2).drewN k2) fun e w' => e = .returned (.tuple #[]) ∧
      ∃ vb', LoadIn B w' L s (endIfAt l r sr l.blocks.dropLast l.top) vs vb' vl ∧ Moves L w vs (.slice (some ⟨g, 0, none⟩) (init.length + 1) cap) vl w' vs vb' vl) := fun o o2 k k2 => by
    have e1 : l.blocks.dropLast = init := by rw [hb]; simp
    have hin : init ≠ [] := fun e => by rw [e] at hn; simp at hn; omega
    rw [e1, htop]
    refine (endIf_other ((((h.alloc o).drewN k).alloc o2).drewN k2) init bb hb hin hlb r sr hr hr0 (by rw [← htop]; exact ho)).mono ?_
    rintro e w' ⟨h1, vb', h2, h3⟩
    exact ⟨h1, vb', h2, (Moves.grow L w _ _ _ (World.grownBy_alloc w o none)).trans ((Moves.grow L _ _ _ _ (grown_drewN _ k)).trans ((Moves.grow L _ _ _ _ (World.grownBy_alloc _ o2 none)).trans (Moves.trans (Moves.grow L _ _ _ _ (grown_drewN _ k2)) h3)))⟩
  have c3 := h.c3
  have hL := h.lt
  have n1 : ¬ L = w.heap.size := by omega
  have n2 : ¬ g = w.heap.size := by omega
  have n3 : ¬ L = w.heap.size + 1 := by omega
  have n4 : ¬ g = w.heap.size + 1 := by omega
  rw [htop] at hop
  rw [hop] at b0 HC
  obtain ⟨gs, cs, hvs, hgs, hgsL, hgb, hgl, hps, hat, hfr⟩ := h.stepAt hst
  subst hvs
  have c2 := h.c2
  have a0 := hat.1
  have n5 : ¬ gs = w.heap.size := by omega
  have n6 : ¬ gs = w.heap.size + 1 := by omega
  have hone : (((init.length : Int) + 1) == 1) = false := by simp; omega
  have i0 : (0 : Int) ≤ (p : Int) := by omega
  have i1 : (p : Int) < (l.steps.length : Int) := by omega
  have hsp' : (sp.op == 4) = false := by simpa using hsp
  clear h hf hne hb htop hn hbl hat hfr
  generalize endIfAt l r sr l.blocks.dropLast l.top = l2 at *
  generalize init.length = n at *
  go_enter Tryz.func116, Tryz.ntmps116
  go_wp2_with fail
  refine (HI.out _).mono ?_
  rintro e w1 ⟨rfl, k, rfl⟩
  go_wp2_with fail
  refine wp_quiet_tail 10 (by kernel_rfl) (by kernel_rfl) ?_
  simp only [List.take_succ_cons, List.take_zero, List.drop_succ_cons, List.drop_zero]
  repeat (go_big_quiet_step (fail))
  refine wpQuiet_nil ?_
  intro _ hw'
  obtain ⟨k2, hw''⟩ := hw'
  subst hw''
  go_wp2_with fail
  refine (HC.out _ _ _ _).mono ?_
  rintro e w2 ⟨rfl, vb', h1, h2⟩
  go_wp2
  go_end0
  exact ⟨rfl, _, _, _, h1, h2⟩

set_option maxRecDepth 100000 in
set_option maxHeartbeats 1000000 in
theorem end_if_only (h : LoadIn B w L s l vs vb vl) (hbl : 2 ≤ l.blocks.length) (hlb : l.blocks.length ≤ 900000) (p : Nat) (sp : St) (hst : l.steps[p]? = some sp) (hop : l.top.opener = p) (hsp : ¬ sp.op = 4) (ho : ¬ 0 < l.top.other) (q a b c d dp t : Int) :
    Calls Tryz.prog 116 #[.pointer (some ⟨L, 0, none⟩), .agg #[.int .u8 q, .int .i64 a, .int .i64 b, .int .i64 c, .int .i64 d, .int .i64 dp, .int .i64 t]] w fun e w' => e = .returned (.tuple #[]) ∧
      ∃ vs' vb' vl', LoadIn B w' L s (endIfAt l p sp l.blocks.dropLast l.top) vs' vb' vl' ∧ Moves L w vs vb vl w' vs' vb' vl' := by
  have hne : l.blocks ≠ [] := fun e => by rw [e] at hbl; simp at hbl
  obtain ⟨g, cap, init, bb, hvb, hb, htop, hgL, hBg, hgw, hgs2, hgl2, b0, b1, b2, b3, hf⟩ := h.inner hne
  subst hvb
  have hn : l.blocks.length = init.length + 1 := by rw [hb]; simp
  rw [hn] at h ⊢
  have HI : Hid (∀ o, Calls Tryz.prog 168 #[.pointer (some ⟨L, 0, none⟩)] (w.alloc o) fun e w' => e = .returned (.pointer (some ⟨g, init.length * 4, none⟩)) ∧ ∃ k, w' = (w.alloc o).drewN k) := fun o =>
    inner_walk L g init.length cap (w.alloc o) (h.alloc o).c3 (by omega)
  have HC : Hid (∀ o o2 k k2, Calls Tryz.prog 171 #[.pointer (some ⟨L, 0, none⟩), .agg #[.int .i64 bb.opener, .int .i64 bb.other, .int .i64 bb.need, .int .i64 bb.before]] ((((w.alloc o).drewN k).alloc o2).drewN k2) fun e w' => e = .returned (.tuple #[]) ∧
      ∃ vb', LoadIn B w' L s (endIfAt l p sp l.blocks.dropLast l.top) vs vb' vl ∧ Moves L w vs (.slice (some ⟨g, 0, none⟩) (init.length + 1) cap) vl w' vs vb' vl) := fun o o2 k k2 => by
    have e1 : l.blocks.dropLast = init := by rw [hb]; simp
    have hin : init ≠ [] := fun e => by rw [e] at hn; simp at hn; omega
    rw [e1, htop]
    refine (endIf_only ((((h.alloc o).drewN k).alloc o2).drewN k2) init bb hb hin hlb p sp hst (by rw [← htop]; exact ho) (by rw [← htop]; exact hop)).mono ?_
    rintro e w' ⟨h1, vb', h2, h3⟩
    exact ⟨h1, vb', h2, (Moves.grow L w _ _ _ (World.grownBy_alloc w o none)).trans ((Moves.grow L _ _ _ _ (grown_drewN _ k)).trans ((Moves.grow L _ _ _ _ (World.grownBy_alloc _ o2 none)).trans (Moves.trans (Moves.grow L _ _ _ _ (grown_drewN _ k2)) h3)))⟩
  have c3 := h.c3
  have hL := h.lt
  have n1 : ¬ L = w.heap.size := by omega
  have n2 : ¬ g = w.heap.size := by omega
  have n3 : ¬ L = w.heap.size + 1 := by omega
  have n4 : ¬ g = w.heap.size + 1 := by omega
  rw [htop] at hop
  rw [hop] at b0 HC
  obtain ⟨gs, cs, hvs, hgs, hgsL, hgb, hgl, hps, hat, hfr⟩ := h.stepAt hst
  subst hvs
  have c2 := h.c2
  have a0 := hat.1
  have n5 : ¬ gs = w.heap.size := by omega
  have n6 : ¬ gs = w.heap.size + 1 := by omega
  have hone : (((init.length : Int) + 1) == 1) = false := by simp; omega
  have i0 : (0 : Int) ≤ (p : Int) := by omega
  have i1 : (p : Int) < (l.steps.length : Int) := by omega
  have hsp' : (sp.op == 4) = false := by simpa using hsp
  clear h hf hne hb htop hn hbl hat hfr
  generalize endIfAt l p sp l.blocks.dropLast l.top = l2 at *
  generalize init.length = n at *
  go_enter Tryz.func116, Tryz.ntmps116
  go_wp2_with fail
  refine (HI.out _).mono ?_
  rintro e w1 ⟨rfl, k, rfl⟩
  go_wp2_with fail
  refine wp_quiet_tail 10 (by kernel_rfl) (by kernel_rfl) ?_
  simp only [List.take_succ_cons, List.take_zero, List.drop_succ_cons, List.drop_zero]
  repeat (go_big_quiet_step (fail))
  refine wpQuiet_nil ?_
  intro _ hw'
  obtain ⟨k2, hw''⟩ := hw'
  subst hw''
  go_wp2_with fail
  refine (HC.out _ _ _ _).mono ?_
  rintro e w2 ⟨rfl, vb', h1, h2⟩
  go_wp2
  go_end0
  exact ⟨rfl, _, _, _, h1, h2⟩
end Go.Proofs.YthllhabjfchgiaaGreatDoor
