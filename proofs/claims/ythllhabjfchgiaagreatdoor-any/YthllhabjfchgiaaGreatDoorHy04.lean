import Derived.Test.YthllhabjfchgiaaGreatDoorHy01
import Derived.Test.YthllhabjfchgiaaGreatDoorHy02
import Derived.Deep.RegionLaw
import Derived.Deep.DrawnRows
import Derived.Test.YthllhabjfchgiaaGreatDoorHy03
/- (*machine).push. -/
namespace Go.Proofs.YthllhabjfchgiaaGreatDoor
open Go.RowKit
open Hx (Rd Pk Vw St Mc In64)
attribute [local go_sem ↓] Go.wp_at_zero Go.wp_at_succ
variable {B C : Nat} {w : World} {M SB : Nat} {v : Vw} {m : Mc}

theorem info_action : (Tryz.prog.info? 76).map (fun i => (i.zero, i.size, i.bytes)) = some (some (.agg #[.int .i64 0, .int .i64 0]), 2, 16) := by kernel_rfl

/-- behind an append to the actions, and the store of what it gave -/
theorem MachIn.acted (h : MachIn B C w M SB v m) {va : Value} (hva : w.ownsRow C 76 2 va m.acts.length (actCells m.acts)) {w1 : World} (hg : w.grownBy w1 va.ownBlock)
    {v' : Value} {acts' : List (Int × Int)} (hown : w1.ownsRow C 76 2 v' acts'.length (actCells acts')) :
    MachIn B C (w1.setCell ⟨M, 12, none⟩ v') M SB v { m with acts := acts' } ∧ Below B w (w1.setCell ⟨M, 12, none⟩ v') ∧
    (∃ u, w1.cell? ⟨M, 12, none⟩ = some u) ∧ w1.frozen? ⟨M, 12, none⟩ = false := by
  have hs := h.size
  have b1 := h.bM
  have b2 := h.bS
  have c1 := h.cM
  have c2 := h.cS
  have hne := h.ne
  have hfar : ∀ k, k < C → some k ≠ va.ownBlock := fun k hk e => by
    have := (hva.lt k e.symm).1
    omega
  have hb : ∀ k, k < C → w1.heap[k]? = w.heap[k]? := fun k hk => hg.block k (by omega) (hfar k hk)
  have hc1 : ∀ x : Addr, x.block < C → w1.cell? x = w.cell? x := fun x hx => World.cell?_of_block (hb _ hx)
  have hf1 : ∀ x : Addr, x.block < C → w1.frozen? x = w.frozen? x := fun x hx => World.frozen?_of_block (hb _ hx)
  have hc : ∀ x : Addr, x.block < C → ¬ x.block = M → (w1.setCell ⟨M, 12, none⟩ v').cell? x = w.cell? x := fun x hx hM => by
    rw [World.cell?_setCell_other _ _ _ _ (fun e => hM (by rw [← e]))]; exact hc1 x hx
  have hcM : ∀ k, ¬ k = 12 → (w1.setCell ⟨M, 12, none⟩ v').cell? ⟨M, k, none⟩ = w.cell? ⟨M, k, none⟩ := fun k hk => by
    rw [World.cell?_setCell_other _ _ _ _ (by intro e; cases e; exact hk rfl)]; exact hc1 _ c1
  obtain ⟨va0, hva0, _⟩ := h.acts
  have h12 : w1.cell? ⟨M, 12, none⟩ = some va0 := by rw [hc1 _ c1]; exact hva0
  have hsz := hg.size
  refine ⟨⟨?_, h.bM, h.bS, h.cM, h.cS, h.ne, by simp; omega, ?_, ?_, ?_, ?_, ?_, h.leftLen, ?_, ?_, h.inSlots, h.inLeft, ?_, h.one⟩, ?_, ⟨va0, h12⟩, by rw [hf1 _ c1]; exact h.actsF⟩
  · exact h.view.keep (fun x hx => hc x (by omega) (by omega)) (fun k hk => hcM k (by omega))
  · rw [hcM 3 (by omega)]; exact h.slots
  · intro k hk; rw [hc _ c2 (fun e => hne e.symm)]; exact h.slot k hk
  · intro k hk; rw [World.frozen?_setCell, hf1 _ c2]; exact h.slotF k hk
  · intro k hk; rw [hcM _ (by omega)]; exact h.left k hk
  · intro k hk; rw [World.frozen?_setCell, hf1 _ c1]; exact h.leftF k hk
  · refine ⟨v', World.cell?_setCell_same _ _ _ h12, hown.kept (grownBy_setCell w1 ⟨M, 12, none⟩ v') ?_⟩
    cases hb : v'.ownBlock with
    | none => exact Or.inl rfl
    | some g =>
      right
      have := (hown.lt g hb).1
      simp; omega
  · rw [World.frozen?_setCell, hf1 _ c1]; exact h.actsF
  · intro j hj
    have := h.one
    rw [hc _ (by show 1 < _; omega) (by show ¬ 1 = M; omega)]; exact h.tab j hj
  · exact ((Below.refl _ _).grown hg (by omega) (fun k hk => by have := (hva.lt k hk).1; omega)).setCell (p := ⟨M, 12, none⟩) h.bM _

set_option maxRecDepth 100000 in
set_option maxHeartbeats 1000000 in
theorem push_more (hm : MachIn B C w M SB v m) (i j : Int) (r : Rd) (p : Pk) (hj : j ≤ 9223372036854775807) (hr : v.road i = some r) (hp : v.packet j = some p) (hl : m.acts.length < 256) :
    Calls Tryz.prog 54 #[.pointer (some ⟨M, 0, none⟩), .int .i64 i, .int .i64 j] w fun e w' => e = .returned (.bool true) ∧ MachIn B C w' M SB v { m with acts := m.acts ++ [(r.id, p.seq)] } ∧ Below B w w' := by
  have HR : Hid (Calls Tryz.prog 97 #[.pointer (some ⟨M, 0, none⟩), .int .i64 i] w fun e w' => (∃ p, e = .returned p ∧ RoadP w p (some r)) ∧ w' = w) := by
    have := road_any B M i v w hm.view
    rwa [hr] at this
  have HQ : Hid (Calls Tryz.prog 98 #[.pointer (some ⟨M, 0, none⟩), .int .i64 j] w fun e w' => (∃ q, e = .returned q ∧ PackP w q (some p)) ∧ w' = w) := by
    have := packet_any B M j v w hm.view hj
    rwa [hp] at this
  obtain ⟨va, hva, hown⟩ := hm.acts
  have hlen : (m.acts.length : Int) < 256 := by omega
  have hne : ((m.acts.length : Int) == 256) = false := by simp; omega
  have fa := hm.actsF
  obtain ⟨aa, cap, hval⟩ : ∃ aa cap, va = .slice aa m.acts.length cap := by
    obtain ⟨h1, h2⟩ := hown
    rcases h2 with ⟨h3, h4⟩ | ⟨g, cap, cur, h3, h4⟩
    · exact ⟨none, 0, by rw [h3, h4]⟩
    · exact ⟨_, _, h3⟩
  obtain ⟨i0, hi0, hz0, hz1, hz2⟩ := info_parts info_action
  have HP : Hid (∀ (o : Obj) (n : Nat) (w1 : World) (v' : Value), ((w.alloc o).drewN n).grownBy w1 va.ownBlock → w1.ownsRow C 76 2 v' (m.acts.length + 1) (actCells m.acts ++ [.int .i64 r.id, .int .i64 p.seq]) →
      MachIn B C (w1.setCell ⟨M, 12, none⟩ v') M SB v { m with acts := m.acts ++ [(r.id, p.seq)] } ∧ Below B w (w1.setCell ⟨M, 12, none⟩ v') ∧ (∃ u, w1.cell? ⟨M, 12, none⟩ = some u) ∧ w1.frozen? ⟨M, 12, none⟩ = false) := by
    intro o n w1 v' hg ho
    have hm' := (hm.alloc o).drewN n
    have e1 : actCells (m.acts ++ [(r.id, p.seq)]) = actCells m.acts ++ [.int .i64 r.id, .int .i64 p.seq] := by simp [actCells]
    have e2 : (m.acts ++ [(r.id, p.seq)]).length = m.acts.length + 1 := by simp
    have hown2 : w1.ownsRow C 76 2 v' (m.acts ++ [(r.id, p.seq)]).length (actCells (m.acts ++ [(r.id, p.seq)])) := by rw [e1, e2]; exact ho
    obtain ⟨h1, h2, h3, h4⟩ := hm'.acted (va := va) ((hown.alloc o).kept (w' := (w.alloc o).drewN n) (row := none) ⟨rfl, rfl, rfl, Nat.le_refl _, fun _ _ _ => rfl⟩ (by cases va.ownBlock <;> simp)) hg hown2
    exact ⟨h1, (below_drewN ((Below.refl _ _).alloc (by have := hm.size; have := hm.cM; have := hm.bM; omega) o) n).trans h2, h3, h4⟩
  have hO : ∀ (o : Obj) (n : Nat), ((w.alloc o).drewN n).ownsRow C 76 2 va m.acts.length (actCells m.acts) := fun o n =>
    (hown.alloc o).kept (w' := (w.alloc o).drewN n) (row := none) ⟨rfl, rfl, rfl, Nat.le_refl _, fun _ _ _ => rfl⟩ (by cases va.ownBlock <;> simp)
  have HO : Hid (∀ (o : Obj) (n : Nat), ((w.alloc o).drewN n).ownsRow C 76 2 va m.acts.length (actCells m.acts)) := hO
  have hsz := hm.size
  have hMs : M < w.heap.size := by have := hm.cM; omega
  have hmx : m.acts.length + 1 ≤ maxLen := by unfold maxLen; omega
  have hby : (m.acts.length + 1) * 16 ≤ 140737488355328 := by omega
  subst hval
  clear hO hown hm hr hp
  generalize actCells m.acts = cells at *
  generalize m.acts ++ [(r.id, p.seq)] = acts' at *
  generalize m.acts.length = len at *
  go_enter Tryz.func54, Tryz.ntmps54
  go_wp2_with fail
  refine (HR.out).mono ?_
  rintro e w1 ⟨⟨pr, rfl, b1, o1, rfl, r1, r2, r3, r4, r5⟩, rfl⟩
  go_wp2_with fail
  refine (HQ.out).mono ?_
  rintro e w2 ⟨⟨pp, rfl, b2, o2, rfl, q1, q2, q3⟩, rfl⟩
  go_wp2_with fail
  go_region_law ((refine step_append_lies _ (by rfl) _ _ _ (by rfl) C 76 i0 _ 2 16 Tryz.underlying33 hi0 hz0 hz1 hz2 (by rfl) (by omega) (.slice aa len cap) len cells (by rfl) (HO.out _ 1) ⟨w2.heap.size, 0, none⟩ 1 1 [.int .i64 r.id, .int .i64 p.seq] (by rfl) (by rfl) (World.news_of_block (cs := #[.int .i64 r.id, .int .i64 p.seq]) (t := 76) (fr := (0, 0)) (heap_alloc_new w2 _)) (by simp [Value.oneCell']) (by omega) hmx hby (by simp; omega) (w2.heap.size + 1) (by simp) ?_; intro gg cap1 w3 hown1 hgrow hat hlt; obtain ⟨u12, hu12⟩ := (HP.out _ 1 _ _ hgrow hown1).2.2.1; have hf12 := (HP.out _ 1 _ _ hgrow hown1).2.2.2))
  all_goals (go_wp2; go_ret; exact ⟨rfl, (HP.out _ 1 _ _ hgrow hown1).1, (HP.out _ 1 _ _ hgrow hown1).2.1⟩)

set_option maxHeartbeats 1000000 in
theorem push_none (hm : MachIn B C w M SB v m) (i j : Int) (hj : j ≤ 9223372036854775807) (hn : v.road i = none ∨ v.packet j = none) :
    Calls Tryz.prog 54 #[.pointer (some ⟨M, 0, none⟩), .int .i64 i, .int .i64 j] w fun e w' => e = .returned (.bool true) ∧ w' = w := by
  have HR : Hid (Calls Tryz.prog 97 #[.pointer (some ⟨M, 0, none⟩), .int .i64 i] w fun e w' => (∃ p, e = .returned p ∧ RoadP w p (v.road i)) ∧ w' = w) := road_any B M i v w hm.view
  have HQ : Hid (Calls Tryz.prog 98 #[.pointer (some ⟨M, 0, none⟩), .int .i64 j] w fun e w' => (∃ q, e = .returned q ∧ PackP w q (v.packet j)) ∧ w' = w) := packet_any B M j v w hm.view hj
  clear hm
  generalize v.road i = rd at *
  generalize v.packet j = pk at *
  cases rd with
  | none =>
    go_enter Tryz.func54, Tryz.ntmps54
    go_wp2_with fail
    refine (HR.out).mono ?_
    rintro e w1 ⟨⟨pr, rfl, rfl⟩, rfl⟩
    go_wp2_with fail
    refine (HQ.out).mono ?_
    rintro e w2 ⟨⟨pp, rfl, hq⟩, rfl⟩
    go_wp2
    go_ret
    exact ⟨rfl, rfl⟩
  | some r =>
    obtain rfl : pk = none := hn.resolve_left (by simp)
    go_enter Tryz.func54, Tryz.ntmps54
    go_wp2_with fail
    refine (HR.out).mono ?_
    rintro e w1 ⟨⟨pr, rfl, b1, o1, rfl, r1, r2, r3, r4, r5⟩, rfl⟩
    go_wp2_with fail
    refine (HQ.out).mono ?_
    rintro e w2 ⟨⟨pp, rfl, rfl⟩, rfl⟩
    go_wp2
    go_ret
    exact ⟨rfl, rfl⟩

set_option maxHeartbeats 1000000 in
theorem push_full (hm : MachIn B C w M SB v m) (i j : Int) (r : Rd) (p : Pk) (hj : j ≤ 9223372036854775807) (hr : v.road i = some r) (hp : v.packet j = some p) (hl : m.acts.length = 256) :
    Calls Tryz.prog 54 #[.pointer (some ⟨M, 0, none⟩), .int .i64 i, .int .i64 j] w fun e w' => e = .returned (.bool false) ∧ w' = w := by
  have HR : Hid (Calls Tryz.prog 97 #[.pointer (some ⟨M, 0, none⟩), .int .i64 i] w fun e w' => (∃ p, e = .returned p ∧ RoadP w p (some r)) ∧ w' = w) := by
    have := road_any B M i v w hm.view
    rwa [hr] at this
  have HQ : Hid (Calls Tryz.prog 98 #[.pointer (some ⟨M, 0, none⟩), .int .i64 j] w fun e w' => (∃ q, e = .returned q ∧ PackP w q (some p)) ∧ w' = w) := by
    have := packet_any B M j v w hm.view hj
    rwa [hp] at this
  obtain ⟨va, hva, hown⟩ := hm.acts
  obtain ⟨aa, cap, hval⟩ : ∃ aa cap, va = .slice aa 256 cap := by
    obtain ⟨h1, h2⟩ := hown
    rcases h2 with ⟨h3, h4⟩ | ⟨g, cap, cur, h3, h4⟩
    · omega
    · exact ⟨_, _, by rw [h3, hl]⟩
  subst hval
  clear hown hm hr hp hl
  go_enter Tryz.func54, Tryz.ntmps54
  go_wp2_with fail
  refine (HR.out).mono ?_
  rintro e w1 ⟨⟨pr, rfl, b1, o1, rfl, r1, r2, r3, r4, r5⟩, rfl⟩
  go_wp2_with fail
  refine (HQ.out).mono ?_
  rintro e w2 ⟨⟨pp, rfl, b2, o2, rfl, q1, q2, q3⟩, rfl⟩
  go_wp2
  go_ret
  exact ⟨rfl, rfl⟩
end Go.Proofs.YthllhabjfchgiaaGreatDoor

/- (*loader).add. -/
namespace Go.Proofs.YthllhabjfchgiaaGreatDoor
open Go.RowKit
open Hx (St Bk Ls In64)
attribute [local go_sem ↓] Go.wp_at_zero Go.wp_at_succ
variable {B : Nat} {w : World} {L : Nat} {s : ByteArray} {l : Ls} {vs vb vl : Value}

/-- behind an append to the steps, and the store of what it gave -/
theorem LoadIn.stepsTo (h : LoadIn B w L s l vs vb vl) {w1 : World} (hg : w.grownBy w1 vs.ownBlock) {vs' : Value} {steps' : List St} (hown : w1.ownsRow B 125 7 vs' steps'.length (steps'.flatMap stepCells))
    (hat : ∀ g, vs'.ownBlock = some g → vs.ownBlock = some g ∨ w.heap.size ≤ g) :
    LoadIn B (w1.setCell ⟨L, 2, none⟩ vs') L s { l with steps := steps' } vs' vb vl ∧ Moves L w vs vb vl (w1.setCell ⟨L, 2, none⟩ vs') vs' vb vl ∧ w1.cell? ⟨L, 2, none⟩ = some vs ∧ w1.frozen? ⟨L, 2, none⟩ = false := by
  have hL := h.lt
  have hbL : w1.heap[L]? = w.heap[L]? := hg.block L hL (fun e => h.ns e.symm)
  have hc1 : ∀ j, w1.cell? ⟨L, j, none⟩ = w.cell? ⟨L, j, none⟩ := fun j => World.cell?_of_block hbL
  have hf1 : ∀ j, w1.frozen? ⟨L, j, none⟩ = w.frozen? ⟨L, j, none⟩ := fun j => World.frozen?_of_block hbL
  have hc : ∀ j, ¬ j = 2 → (w1.setCell ⟨L, 2, none⟩ vs').cell? ⟨L, j, none⟩ = w.cell? ⟨L, j, none⟩ := fun j hj => by
    rw [World.cell?_setCell_other _ _ _ _ (by intro e; cases e; exact hj rfl)]; exact hc1 j
  have h2 : w1.cell? ⟨L, 2, none⟩ = some vs := by rw [hc1]; exact h.c2
  have ns' : vs'.ownBlock ≠ some L := fun e => by
    rcases hat L e with h1 | h1
    · exact h.ns h1
    · omega
  have far : ∀ {v : Value}, (vs.ownBlock = none ∨ vs.ownBlock ≠ v.ownBlock) → (∀ g, v.ownBlock = some g → g < w.heap.size) → vs'.ownBlock = none ∨ vs'.ownBlock ≠ v.ownBlock := fun {v} hv hlt => by
    cases hq : vs'.ownBlock with
    | none => exact Or.inl rfl
    | some g =>
      refine Or.inr (fun e => ?_)
      have hg' := hlt g e.symm
      rcases hat g hq with h1 | h1
      · rcases hv with h3 | h3
        · rw [h3] at h1; cases h1
        · exact h3 (h1.trans e)
      · omega
  have hbw : w.ownsRow B 226 4 vb l.blocks.length (l.blocks.flatMap bkCells) := h.blocks
  have hlw := h.loops
  have hg2 := grownBy_setCell w1 ⟨L, 2, none⟩ vs'
  refine ⟨⟨h.bL, by rw [hc 0 (by omega)]; exact h.c0, by rw [hc 1 (by omega)]; exact h.c1, World.cell?_setCell_same _ _ _ h2, by rw [hc 3 (by omega)]; exact h.c3, by rw [hc 4 (by omega)]; exact h.c4, by rw [hc 5 (by omega)]; exact h.c5, by rw [hc 6 (by omega)]; exact h.c6, by rw [hc 7 (by omega)]; exact h.c7,
    fun j => by rw [World.frozen?_setCell, hf1]; exact h.fr j, hown.kept hg2 (Or.inr ns'), (hbw.kept hg ?_).kept hg2 (Or.inr h.nb), (hlw.kept hg ?_).kept hg2 (Or.inr h.nl), ns', h.nb, h.nl, far h.sb (fun g e => (hbw.lt g e).2), far h.sl (fun g e => (hlw.lt g e).2), h.bl⟩, ?_, h2, by rw [hf1]; exact h.fr 2⟩
  · cases hq : vb.ownBlock with
    | none => exact Or.inl rfl
    | some g =>
      refine Or.inr (fun e => ?_)
      rcases h.sb with h3 | h3
      · rw [h3] at e; cases e
      · exact h3 (by rw [hq]; exact e.symm)
  · cases hq : vl.ownBlock with
    | none => exact Or.inl rfl
    | some g =>
      refine Or.inr (fun e => ?_)
      rcases h.sl with h3 | h3
      · rw [h3] at e; cases e
      · exact h3 (by rw [hq]; exact e.symm)
  · refine ⟨hg.os, hg.tape, hg.output, by simpa using hg.size, fun k hk hkL h1 _ _ => ?_, hat, fun _ h => Or.inl h, fun _ h => Or.inl h⟩
    rw [Below.heap_setCell _ _ _ _ hkL]
    exact hg.block k hk h1

theorem heap_second (w : World) (o1 o2 : Obj) : ((w.alloc o1).alloc o2).drew.heap[w.heap.size + 1]? = some o2 := by
  have := heap_alloc_new (w.alloc o1) o2
  rwa [World.size_alloc] at this

theorem info_step : (Tryz.prog.info? 125).map (fun i => (i.zero, i.size, i.bytes)) = some (some (.agg #[.int .u8 0, .int .i64 0, .int .i64 0, .int .i64 0, .int .i64 0, .int .i64 0, .int .i64 0]), 7, 56) := by kernel_rfl

theorem slice_form {base : Nat} {e : TypeId} {size n : Nat} {v : Value} {xs : List Value} (h : w.ownsRow base e size v n xs) : ∃ a c, v = .slice a n c := by
  rcases h.2 with ⟨h1, h2⟩ | ⟨g, cap, cur, h1, h2⟩
  · exact ⟨none, 0, by rw [h1, h2]⟩
  · exact ⟨_, _, h1⟩

set_option maxRecDepth 100000 in
set_option maxHeartbeats 2000000 in
theorem add_any (h : LoadIn B w L s l vs vb vl) (hne : l.blocks ≠ []) (hlb : l.blocks.length ≤ 1000000) (hls : l.steps.length ≤ 1000000) (q a b c d dp t : Int) :
    Calls Tryz.prog 118 #[.pointer (some ⟨L, 0, none⟩), .agg #[.int .u8 q, .int .i64 a, .int .i64 b, .int .i64 c, .int .i64 d, .int .i64 dp, .int .i64 t]] w fun e w' => e = .returned (.tuple #[]) ∧
      ∃ vs', LoadIn B w' L s (Hx.Ls.count { l with steps := l.steps ++ [⟨q, a, b, c, d, dp, t⟩] } 1) vs' vb vl ∧ Moves L w vs vb vl w' vs' vb vl := by
  obtain ⟨aS, cS, rfl⟩ := slice_form h.steps
  obtain ⟨i0, hi0, hz0, hz1, hz2⟩ := info_parts info_step
  have HP : Hid (∀ (o1 o2 : Obj) (k : Nat) (w1 : World) (g cap : Nat), (((w.alloc o1).alloc o2).drewN k).grownBy w1 (Value.slice aS l.steps.length cS).ownBlock →
      w1.ownsRow B 125 7 (.slice (some ⟨g, 0, none⟩) (l.steps.length + 1) cap) (l.steps.length + 1) (l.steps.flatMap stepCells ++ [.int .u8 q, .int .i64 a, .int .i64 b, .int .i64 c, .int .i64 d, .int .i64 dp, .int .i64 t]) →
      ((Value.slice aS l.steps.length cS).ownBlock = some g ∨ g = w.heap.size + 1 + 1) →
      LoadIn B (w1.setCell ⟨L, 2, none⟩ (.slice (some ⟨g, 0, none⟩) (l.steps.length + 1) cap)) L s { l with steps := l.steps ++ [⟨q, a, b, c, d, dp, t⟩] } (.slice (some ⟨g, 0, none⟩) (l.steps.length + 1) cap) vb vl ∧
      Moves L w (.slice aS l.steps.length cS) vb vl (w1.setCell ⟨L, 2, none⟩ (.slice (some ⟨g, 0, none⟩) (l.steps.length + 1) cap)) (.slice (some ⟨g, 0, none⟩) (l.steps.length + 1) cap) vb vl ∧
      w1.cell? ⟨L, 2, none⟩ = some (.slice aS l.steps.length cS) ∧ w1.frozen? ⟨L, 2, none⟩ = false) := by
    intro o1 o2 k w1 g cap hg ho hat
    have hW := ((h.alloc o1).alloc o2).drewN k
    have e1 : (l.steps ++ [(⟨q, a, b, c, d, dp, t⟩ : St)]).length = l.steps.length + 1 := by simp
    have e2 : (l.steps ++ [(⟨q, a, b, c, d, dp, t⟩ : St)]).flatMap stepCells = l.steps.flatMap stepCells ++ [.int .u8 q, .int .i64 a, .int .i64 b, .int .i64 c, .int .i64 d, .int .i64 dp, .int .i64 t] := by simp [stepCells]
    have hsz : (((w.alloc o1).alloc o2).drewN k).heap.size = w.heap.size + 1 + 1 := by simp
    obtain ⟨h1, h2, h3, h4⟩ := hW.stepsTo hg (vs' := .slice (some ⟨g, 0, none⟩) (l.steps.length + 1) cap) (steps' := l.steps ++ [⟨q, a, b, c, d, dp, t⟩]) (by rw [e1, e2]; exact ho) (fun g' hg' => by
      have : g = g' := by simpa [Value.ownBlock] using hg'
      subst this
      rcases hat with h5 | h5
      · exact Or.inl h5
      · exact Or.inr (by rw [hsz]; omega))
    exact ⟨h1, (Moves.grow L w _ _ _ (w' := ((w.alloc o1).alloc o2).drewN k) ((World.grownBy_alloc w o1 none).trans ((World.grownBy_alloc _ o2 none).trans ⟨rfl, rfl, rfl, Nat.le_refl _, fun _ _ _ => rfl⟩))).trans h2, h3, h4⟩
  have HO : Hid (∀ (o1 o2 : Obj) (k : Nat), (((w.alloc o1).alloc o2).drewN k).ownsRow B 125 7 (.slice aS l.steps.length cS) l.steps.length (l.steps.flatMap stepCells)) := fun o1 o2 k => (((h.alloc o1).alloc o2).drewN k).steps
  have HC : Hid (∀ (w2 : World) (vs2 : Value), LoadIn B w2 L s { l with steps := l.steps ++ [⟨q, a, b, c, d, dp, t⟩] } vs2 vb vl →
      Calls Tryz.prog 172 #[.pointer (some ⟨L, 0, none⟩), .int .i64 1] w2 fun e w' => e = .returned (.tuple #[]) ∧ LoadIn B w' L s (Hx.Ls.count { l with steps := l.steps ++ [⟨q, a, b, c, d, dp, t⟩] } 1) vs2 vb vl ∧ Moves L w2 vs2 vb vl w' vs2 vb vl) := fun w2 vs2 h2 =>
    count_any h2 hne hlb 1
  have c2 := h.c2
  have hL := h.lt
  have hBw : B ≤ w.heap.size := by have := h.bL; omega
  have n1 : ¬ L = w.heap.size := by omega
  have n2 : ¬ L = w.heap.size + 1 := by omega
  have hmx : l.steps.length + 1 ≤ maxLen := by unfold maxLen; omega
  have hby : (l.steps.length + 1) * 56 ≤ 140737488355328 := by omega
  clear h hne hlb hls
  generalize Hx.Ls.count { l with steps := l.steps ++ [⟨q, a, b, c, d, dp, t⟩] } 1 = l2 at *
  generalize ({ l with steps := l.steps ++ [⟨q, a, b, c, d, dp, t⟩] } : Ls) = l1 at *
  generalize l.steps.flatMap stepCells = cells at *
  generalize l.steps.length = len at *
  go_enter Tryz.func118, Tryz.ntmps118
  go_wp2_with fail
  go_region_law ((refine step_append_lies _ (by rfl) _ _ _ (by rfl) B 125 i0 _ 7 56 Tryz.underlying118 hi0 hz0 hz1 hz2 (by rfl) (by omega) (.slice aS len cS) len cells (by rfl) (HO.out _ _ 1) ⟨w.heap.size + 1, 0, none⟩ 1 1 [.int .u8 q, .int .i64 a, .int .i64 b, .int .i64 c, .int .i64 d, .int .i64 dp, .int .i64 t] (by rfl) (by rfl) (World.news_of_block (cs := #[.int .u8 q, .int .i64 a, .int .i64 b, .int .i64 c, .int .i64 d, .int .i64 dp, .int .i64 t]) (t := 125) (fr := (0, 0)) (heap_second w _ _)) (by simp [Value.oneCell']) (by omega) hmx hby (by simp; omega) (w.heap.size + 1 + 1) (by simp) ?_; intro gg cap1 w3 hown1 hgrow hat hlt; have hu2 := (HP.out _ _ 1 _ _ _ hgrow hown1 hat).2.2.1; have hf2 := (HP.out _ _ 1 _ _ _ hgrow hown1 hat).2.2.2))
  all_goals
    have hm := (HP.out _ _ 1 _ _ _ hgrow hown1 hat).1
    have hv := (HP.out _ _ 1 _ _ _ hgrow hown1 hat).2.1
    have HM : Hid (LoadIn B (w3.setCell ⟨L, 2, none⟩ (.slice (some ⟨gg, 0, none⟩) (len + 1) cap1)) L s l1 (.slice (some ⟨gg, 0, none⟩) (len + 1) cap1) vb vl ∧ Moves L w (.slice aS len cS) vb vl (w3.setCell ⟨L, 2, none⟩ (.slice (some ⟨gg, 0, none⟩) (len + 1) cap1)) (.slice (some ⟨gg, 0, none⟩) (len + 1) cap1) vb vl) := ⟨hm, hv⟩
    clear hm hv hu2 hf2 hown1 hgrow hat hlt
    go_wp2_with fail
    refine (HC.out _ _ HM.out.1).mono ?_
    rintro e w4 ⟨rfl, h5, h6⟩
    go_wp2
    go_end0
    exact ⟨rfl, _, h5, HM.out.2.trans h6⟩
end Go.Proofs.YthllhabjfchgiaaGreatDoor

/- The blocks' and the loops' rows behind an append or a cut; (*loader).open, skip, openLoop. -/
namespace Go.Proofs.YthllhabjfchgiaaGreatDoor
open Go.RowKit
open Hx (St Bk Ls In64)
attribute [local go_sem ↓] Go.wp_at_zero Go.wp_at_succ
variable {B : Nat} {w : World} {L : Nat} {s : ByteArray} {l : Ls} {vs vb vl : Value}

theorem apart_symm {u v : Value} (h : u.ownBlock = none ∨ u.ownBlock ≠ v.ownBlock) : v.ownBlock = none ∨ v.ownBlock ≠ u.ownBlock := by
  cases hv : v.ownBlock with
  | none => exact Or.inl rfl
  | some g =>
    refine Or.inr (fun e => ?_)
    rcases h with h | h
    · rw [h] at e; cases e
    · exact h (by rw [hv]; exact e.symm)

/-- a row that lies where it lay or in a new block is apart from what an old row was apart from -/
theorem apart_new {w : World} {v v' u : Value} (hv : v.ownBlock = none ∨ v.ownBlock ≠ u.ownBlock) (hat : ∀ g, v'.ownBlock = some g → v.ownBlock = some g ∨ w.heap.size ≤ g) (hlt : ∀ g, u.ownBlock = some g → g < w.heap.size) : v'.ownBlock = none ∨ v'.ownBlock ≠ u.ownBlock := by
  cases hq : v'.ownBlock with
  | none => exact Or.inl rfl
  | some g =>
    refine Or.inr (fun e => ?_)
    have hg' := hlt g e.symm
    rcases hat g hq with h1 | h1
    · rcases hv with h3 | h3
      · rw [h3] at h1; cases h1
      · exact h3 (h1.trans e)
    · omega

theorem LoadIn.blocksTo (h : LoadIn B w L s l vs vb vl) {w1 : World} (hg : w.grownBy w1 vb.ownBlock) {vb' : Value} {blocks' : List Bk} (hown : w1.ownsRow B 226 4 vb' blocks'.length (blocks'.flatMap bkCells))
    (hat : ∀ g, vb'.ownBlock = some g → vb.ownBlock = some g ∨ w.heap.size ≤ g) :
    LoadIn B (w1.setCell ⟨L, 3, none⟩ vb') L s { l with blocks := blocks' } vs vb' vl ∧ Moves L w vs vb vl (w1.setCell ⟨L, 3, none⟩ vb') vs vb' vl ∧ w1.cell? ⟨L, 3, none⟩ = some vb ∧ w1.frozen? ⟨L, 3, none⟩ = false := by
  have hL := h.lt
  have hbL : w1.heap[L]? = w.heap[L]? := hg.block L hL (fun e => h.nb e.symm)
  have hc1 : ∀ j, w1.cell? ⟨L, j, none⟩ = w.cell? ⟨L, j, none⟩ := fun j => World.cell?_of_block hbL
  have hf1 : ∀ j, w1.frozen? ⟨L, j, none⟩ = w.frozen? ⟨L, j, none⟩ := fun j => World.frozen?_of_block hbL
  have hc : ∀ j, ¬ j = 3 → (w1.setCell ⟨L, 3, none⟩ vb').cell? ⟨L, j, none⟩ = w.cell? ⟨L, j, none⟩ := fun j hj => by
    rw [World.cell?_setCell_other _ _ _ _ (by intro e; cases e; exact hj rfl)]; exact hc1 j
  have h3 : w1.cell? ⟨L, 3, none⟩ = some vb := by rw [hc1]; exact h.c3
  have nb' : vb'.ownBlock ≠ some L := fun e => by
    rcases hat L e with h1 | h1
    · exact h.nb h1
    · omega
  have hsw := h.steps
  have hlw := h.loops
  have hg2 := grownBy_setCell w1 ⟨L, 3, none⟩ vb'
  exact ⟨⟨h.bL, by rw [hc 0 (by omega)]; exact h.c0, by rw [hc 1 (by omega)]; exact h.c1, by rw [hc 2 (by omega)]; exact h.c2, World.cell?_setCell_same _ _ _ h3, by rw [hc 4 (by omega)]; exact h.c4, by rw [hc 5 (by omega)]; exact h.c5, by rw [hc 6 (by omega)]; exact h.c6, by rw [hc 7 (by omega)]; exact h.c7,
    fun j => by rw [World.frozen?_setCell, hf1]; exact h.fr j, (hsw.kept hg h.sb).kept hg2 (Or.inr h.ns), hown.kept hg2 (Or.inr nb'), (hlw.kept hg (apart_symm h.bl)).kept hg2 (Or.inr h.nl), h.ns, nb', h.nl,
    apart_symm (apart_new (apart_symm h.sb) hat (fun g e => (hsw.lt g e).2)), h.sl, apart_new h.bl hat (fun g e => (hlw.lt g e).2)⟩,
    ⟨hg.os, hg.tape, hg.output, by simpa using hg.size, fun k hk hkL _ h2 _ => by rw [Below.heap_setCell _ _ _ _ hkL]; exact hg.block k hk h2, fun _ h => Or.inl h, hat, fun _ h => Or.inl h⟩, h3, by rw [hf1]; exact h.fr 3⟩

theorem LoadIn.loopsTo (h : LoadIn B w L s l vs vb vl) {w1 : World} (hg : w.grownBy w1 vl.ownBlock) {vl' : Value} {loops' : List Int} (hown : w1.ownsRow B 3 1 vl' loops'.length (loops'.map (Value.int .i64)))
    (hat : ∀ g, vl'.ownBlock = some g → vl.ownBlock = some g ∨ w.heap.size ≤ g) :
    LoadIn B (w1.setCell ⟨L, 4, none⟩ vl') L s { l with loops := loops' } vs vb vl' ∧ Moves L w vs vb vl (w1.setCell ⟨L, 4, none⟩ vl') vs vb vl' ∧ w1.cell? ⟨L, 4, none⟩ = some vl ∧ w1.frozen? ⟨L, 4, none⟩ = false := by
  have hL := h.lt
  have hbL : w1.heap[L]? = w.heap[L]? := hg.block L hL (fun e => h.nl e.symm)
  have hc1 : ∀ j, w1.cell? ⟨L, j, none⟩ = w.cell? ⟨L, j, none⟩ := fun j => World.cell?_of_block hbL
  have hf1 : ∀ j, w1.frozen? ⟨L, j, none⟩ = w.frozen? ⟨L, j, none⟩ := fun j => World.frozen?_of_block hbL
  have hc : ∀ j, ¬ j = 4 → (w1.setCell ⟨L, 4, none⟩ vl').cell? ⟨L, j, none⟩ = w.cell? ⟨L, j, none⟩ := fun j hj => by
    rw [World.cell?_setCell_other _ _ _ _ (by intro e; cases e; exact hj rfl)]; exact hc1 j
  have h4 : w1.cell? ⟨L, 4, none⟩ = some vl := by rw [hc1]; exact h.c4
  have nl' : vl'.ownBlock ≠ some L := fun e => by
    rcases hat L e with h1 | h1
    · exact h.nl h1
    · omega
  have hsw := h.steps
  have hbw := h.blocks
  have hg2 := grownBy_setCell w1 ⟨L, 4, none⟩ vl'
  exact ⟨⟨h.bL, by rw [hc 0 (by omega)]; exact h.c0, by rw [hc 1 (by omega)]; exact h.c1, by rw [hc 2 (by omega)]; exact h.c2, by rw [hc 3 (by omega)]; exact h.c3, World.cell?_setCell_same _ _ _ h4, by rw [hc 5 (by omega)]; exact h.c5, by rw [hc 6 (by omega)]; exact h.c6, by rw [hc 7 (by omega)]; exact h.c7,
    fun j => by rw [World.frozen?_setCell, hf1]; exact h.fr j, (hsw.kept hg h.sl).kept hg2 (Or.inr h.ns), (hbw.kept hg h.bl).kept hg2 (Or.inr h.nb), hown.kept hg2 (Or.inr nl'), h.ns, h.nb, nl',
    h.sb, apart_symm (apart_new (apart_symm h.sl) hat (fun g e => (hsw.lt g e).2)), apart_symm (apart_new (apart_symm h.bl) hat (fun g e => (hbw.lt g e).2))⟩,
    ⟨hg.os, hg.tape, hg.output, by simpa using hg.size, fun k hk hkL _ _ h3 => by rw [Below.heap_setCell _ _ _ _ hkL]; exact hg.block k hk h3, fun _ h => Or.inl h, fun _ h => Or.inl h, hat⟩, h4, by rw [hf1]; exact h.fr 4⟩

theorem info_block : (Tryz.prog.info? 226).map (fun i => (i.zero, i.size, i.bytes)) = some (some (.agg #[.int .i64 0, .int .i64 0, .int .i64 0, .int .i64 0]), 4, 32) := by kernel_rfl

set_option maxRecDepth 100000 in
set_option maxHeartbeats 2000000 in
theorem open_any (h : LoadIn B w L s l vs vb vl) (hne : l.blocks ≠ []) (hlb : l.blocks.length ≤ 900000) (hls : l.steps.length ≤ 900000) (q a b c d dp t : Int) :
    Calls Tryz.prog 113 #[.pointer (some ⟨L, 0, none⟩), .agg #[.int .u8 q, .int .i64 a, .int .i64 b, .int .i64 c, .int .i64 d, .int .i64 dp, .int .i64 t]] w fun e w' => e = .returned (.tuple #[]) ∧
      ∃ vs' vb', LoadIn B w' L s (openStep l ⟨q, a, b, c, d, dp, t⟩) vs' vb' vl ∧ Moves L w vs vb vl w' vs' vb' vl := by
  obtain ⟨i0, hi0, hz0, hz1, hz2⟩ := info_parts info_block
  have HA : Hid (∀ o, Calls Tryz.prog 118 #[.pointer (some ⟨L, 0, none⟩), .agg #[.int .u8 q, .int .i64 a, .int .i64 b, .int .i64 c, .int .i64 d, .int .i64 dp, .int .i64 t]] (w.alloc o) fun e w' => e = .returned (.tuple #[]) ∧
      ∃ vs', LoadIn B w' L s (addStep l ⟨q, a, b, c, d, dp, t⟩) vs' vb vl ∧ Moves L w vs vb vl w' vs' vb vl) := fun o => by
    refine (add_any (h.alloc o) hne (by omega) (by omega) q a b c d dp t).mono ?_
    rintro e w' ⟨h1, vs', h2, h3⟩
    exact ⟨h1, vs', h2, (Moves.grow L w _ _ _ (World.grownBy_alloc w o none)).trans h3⟩
  have hl1 : (addStep l ⟨q, a, b, c, d, dp, t⟩).blocks.length = l.blocks.length := addStep_blocks l _ hne
  have hl2 : (addStep l ⟨q, a, b, c, d, dp, t⟩).steps.length = l.steps.length + 1 := by rw [addStep_steps]; simp
  have HO : Hid (openStep l ⟨q, a, b, c, d, dp, t⟩ = { addStep l ⟨q, a, b, c, d, dp, t⟩ with blocks := (addStep l ⟨q, a, b, c, d, dp, t⟩).blocks ++ [⟨l.steps.length, 0, 0, 0⟩] }) := rfl
  have hL := h.lt
  have hBL := h.bL
  clear h hne
  generalize openStep l ⟨q, a, b, c, d, dp, t⟩ = l2 at *
  generalize addStep l ⟨q, a, b, c, d, dp, t⟩ = l1 at *
  generalize l.steps.length = len at *
  have HL1 : Hid (l1.blocks.length = l.blocks.length) := hl1
  have HL2 : Hid (l1.steps.length = len + 1) := hl2
  clear hl1 hl2
  have n1 : ¬ L = w.heap.size := by omega
  go_enter Tryz.func113, Tryz.ntmps113
  go_wp2_with fail
  refine (HA.out _).mono ?_
  rintro e w1 ⟨rfl, vs1, h1, m1⟩
  obtain ⟨aS, cS, hvs⟩ := slice_form h1.steps
  obtain ⟨aB, cB, hvb⟩ := slice_form h1.blocks
  rw [HL2.out] at hvs
  subst hvs
  subst hvb
  have HP : Hid (∀ (o : Obj) (k : Nat) (w2 : World) (g cap : Nat), ((w1.alloc o).drewN k).grownBy w2 (Value.slice aB l1.blocks.length cB).ownBlock →
      w2.ownsRow B 226 4 (.slice (some ⟨g, 0, none⟩) (l1.blocks.length + 1) cap) (l1.blocks.length + 1) (l1.blocks.flatMap bkCells ++ [.int .i64 len, .int .i64 0, .int .i64 0, .int .i64 0]) →
      ((Value.slice aB l1.blocks.length cB).ownBlock = some g ∨ g = w1.heap.size + 1) →
      LoadIn B (w2.setCell ⟨L, 3, none⟩ (.slice (some ⟨g, 0, none⟩) (l1.blocks.length + 1) cap)) L s l2 (.slice aS (len + 1) cS) (.slice (some ⟨g, 0, none⟩) (l1.blocks.length + 1) cap) vl ∧
      Moves L w vs (.slice aB l1.blocks.length cB) vl (w2.setCell ⟨L, 3, none⟩ (.slice (some ⟨g, 0, none⟩) (l1.blocks.length + 1) cap)) (.slice aS (len + 1) cS) (.slice (some ⟨g, 0, none⟩) (l1.blocks.length + 1) cap) vl ∧
      w2.cell? ⟨L, 3, none⟩ = some (.slice aB l1.blocks.length cB) ∧ w2.frozen? ⟨L, 3, none⟩ = false) := by
    intro o k w2 g cap hg ho hat
    have hW := (h1.alloc o).drewN k
    have hsz : ((w1.alloc o).drewN k).heap.size = w1.heap.size + 1 := by simp
    obtain ⟨g1, g2, g3, g4⟩ := hW.blocksTo hg (vb' := .slice (some ⟨g, 0, none⟩) (l1.blocks.length + 1) cap) (blocks' := l1.blocks ++ [⟨len, 0, 0, 0⟩]) (by
        have e1 : (l1.blocks ++ [(⟨len, 0, 0, 0⟩ : Bk)]).length = l1.blocks.length + 1 := by simp
        have e2 : (l1.blocks ++ [(⟨len, 0, 0, 0⟩ : Bk)]).flatMap bkCells = l1.blocks.flatMap bkCells ++ [.int .i64 len, .int .i64 0, .int .i64 0, .int .i64 0] := by simp [bkCells]
        rw [e1, e2]; exact ho) (fun g' hg' => by
      have : g = g' := by simpa [Value.ownBlock] using hg'
      subst this
      rcases hat with h5 | h5
      · exact Or.inl h5
      · exact Or.inr (by rw [hsz]; omega))
    rw [HO.out]
    exact ⟨g1, m1.trans ((Moves.grow L w1 _ _ _ (w' := (w1.alloc o).drewN k) ((World.grownBy_alloc w1 o none).trans ⟨rfl, rfl, rfl, Nat.le_refl _, fun _ _ _ => rfl⟩)).trans g2), g3, g4⟩
  have HW : Hid (∀ (o : Obj) (k : Nat), ((w1.alloc o).drewN k).ownsRow B 226 4 (.slice aB l1.blocks.length cB) l1.blocks.length (l1.blocks.flatMap bkCells)) := fun o k => ((h1.alloc o).drewN k).blocks
  have c2 := h1.c2
  have c3 := h1.c3
  have hL1 := h1.lt
  have hmx : l1.blocks.length + 1 ≤ maxLen := by have := HL1.out; unfold maxLen; omega
  have hby : (l1.blocks.length + 1) * 32 ≤ 140737488355328 := by have := HL1.out; omega
  have n2 : ¬ L = w1.heap.size := by omega
  have hBw : B ≤ w1.heap.size := by omega
  clear h1 m1 HA
  generalize l1.blocks.flatMap bkCells = cells at *
  have hwr : IntKind.i64.wrap (len : Int) = (len : Int) := by rw [IntKind.wrap_i64]; omega
  go_wp2_with fail
  go_region_law ((refine step_append_lies _ (by rfl) _ _ _ (by rfl) B 226 i0 _ 4 32 Tryz.underlying149 hi0 hz0 hz1 hz2 (by rfl) (by omega) (.slice aB l1.blocks.length cB) l1.blocks.length cells (by rfl) (HW.out _ 1) ⟨w1.heap.size, 0, none⟩ 1 1 [.int .i64 len, .int .i64 0, .int .i64 0, .int .i64 0] (by rfl) (by rfl) (World.news_of_block (cs := #[.int .i64 len, .int .i64 0, .int .i64 0, .int .i64 0]) (t := 226) (fr := (0, 0)) (heap_alloc_new w1 _)) (by simp [Value.oneCell']) (by omega) hmx hby (by simp; omega) (w1.heap.size + 1) (by simp) ?_; intro gg cap1 w3 hown1 hgrow hat hlt; have hu3 := (HP.out _ 1 _ _ _ hgrow hown1 hat).2.2.1; have hf3 := (HP.out _ 1 _ _ _ hgrow hown1 hat).2.2.2))
  all_goals
    have hm := (HP.out _ 1 _ _ _ hgrow hown1 hat).1
    have hv := (HP.out _ 1 _ _ _ hgrow hown1 hat).2.1
    clear hown1 hgrow hat hlt
    go_wp2
    go_end0
    exact ⟨rfl, _, _, hm, hv⟩
end Go.Proofs.YthllhabjfchgiaaGreatDoor

/- (*loader).skip, openLoop. -/
namespace Go.Proofs.YthllhabjfchgiaaGreatDoor
open Go.RowKit
open Hx (St Bk Ls In64)
attribute [local go_sem ↓] Go.wp_at_zero Go.wp_at_succ
variable {B : Nat} {w : World} {L : Nat} {s : ByteArray} {l : Ls} {vs vb vl : Value}

theorem setCell_drewN' (w : World) (n : Nat) (x : Addr) (u : Value) : (w.drewN n).setCell x u = (w.setCell x u).drewN n := rfl
attribute [local go_sem] setCell_drewN'

/-- the last loop, in its row -/
theorem LoadIn.lastLoop (h : LoadIn B w L s l vs vb vl) {init : List Int} {x : Int} (hx : l.loops = init ++ [x]) :
    ∃ g cap, vl = .slice (some ⟨g, 0, none⟩) (init.length + 1) cap ∧ g < w.heap.size ∧ w.cell? ⟨g, init.length, none⟩ = some (.int .i64 x) := by
  have hrow := h.loops
  have hlen : l.loops.length = init.length + 1 := by rw [hx]; simp
  rcases hrow.2 with ⟨h1, h2⟩ | ⟨g, cap, cur, h1, h2, h3⟩
  · omega
  · refine ⟨g, cap, by rw [h1, hlen], (hrow.lt g (by rw [h1]; rfl)).2, ?_⟩
    rw [h1] at hrow
    rw [hrow.cellAt _ (by omega), hx]
    simp

set_option maxHeartbeats 1000000 in
theorem skip_none (h : LoadIn B w L s l vs vb vl) (hl : l.loops = []) (q a b c d dp t : Int) :
    Calls Tryz.prog 117 #[.pointer (some ⟨L, 0, none⟩), .agg #[.int .u8 q, .int .i64 a, .int .i64 b, .int .i64 c, .int .i64 d, .int .i64 dp, .int .i64 t]] w fun e w' => e = .returned (.tuple #[]) ∧
      LoadIn B w' L s { l with bad := true } vs vb vl ∧ Moves L w vs vb vl w' vs vb vl := by
  have HP : Hid (∀ o, LoadIn B ((w.setCell ⟨L, 7, none⟩ (.bool true)).alloc o) L s { l with bad := true } vs vb vl ∧ Moves L w vs vb vl ((w.setCell ⟨L, 7, none⟩ (.bool true)).alloc o) vs vb vl) := fun o =>
    ⟨h.putBad.alloc o, (Moves.own L w vs vb vl 7 (.bool true)).trans (Moves.grow L _ vs vb vl (World.grownBy_alloc _ o none))⟩
  obtain ⟨a0, c0, rfl⟩ := slice_form h.loops
  have c4 := h.c4
  have c7 := h.c7
  have f7 := h.fr 7
  have hL := h.lt
  have n1 : ¬ L = w.heap.size := by omega
  have hlen : l.loops.length = 0 := by rw [hl]; rfl
  clear h hl
  generalize l.loops.length = n at *
  subst hlen
  go_enter Tryz.func117, Tryz.ntmps117
  go_wp2
  exact bodyPost_ret (v := .tuple #[]) (by simp [results, Tryz.results117, go_sem]) rfl ⟨rfl, HP.out _⟩

set_option maxRecDepth 100000 in
set_option maxHeartbeats 1000000 in
theorem skip_some (h : LoadIn B w L s l vs vb vl) (hne : l.blocks ≠ []) (hlb : l.blocks.length ≤ 900000) (hls : l.steps.length ≤ 900000) (hll : l.loops.length ≤ 900000) (init : List Int) (x : Int) (hx : l.loops = init ++ [x]) (q a b c d dp t : Int) :
    Calls Tryz.prog 117 #[.pointer (some ⟨L, 0, none⟩), .agg #[.int .u8 q, .int .i64 a, .int .i64 b, .int .i64 c, .int .i64 d, .int .i64 dp, .int .i64 t]] w fun e w' => e = .returned (.tuple #[]) ∧
      ∃ vs', LoadIn B w' L s (addStep l ⟨q, a, b, c, d, dp, x⟩) vs' vb vl ∧ Moves L w vs vb vl w' vs' vb vl := by
  obtain ⟨g, cap, rfl, hg, cg⟩ := h.lastLoop hx
  have hlen : l.loops.length = init.length + 1 := by rw [hx]; simp
  have HA : Hid (∀ o k, Calls Tryz.prog 118 #[.pointer (some ⟨L, 0, none⟩), .agg #[.int .u8 q, .int .i64 a, .int .i64 b, .int .i64 c, .int .i64 d, .int .i64 dp, .int .i64 x]] ((w.alloc o).drewN k) fun e w' => e = .returned (.tuple #[]) ∧
      ∃ vs', LoadIn B w' L s (addStep l ⟨q, a, b, c, d, dp, x⟩) vs' vb (.slice (some ⟨g, 0, none⟩) (init.length + 1) cap) ∧ Moves L w vs vb (.slice (some ⟨g, 0, none⟩) (init.length + 1) cap) w' vs' vb (.slice (some ⟨g, 0, none⟩) (init.length + 1) cap)) := fun o k => by
    refine (add_any ((h.alloc o).drewN k) hne (by omega) (by omega) q a b c d dp x).mono ?_
    rintro e w' ⟨h1, vs', h2, h3⟩
    exact ⟨h1, vs', h2, (Moves.grow L w _ _ _ (w' := (w.alloc o).drewN k) ((World.grownBy_alloc w o none).trans ⟨rfl, rfl, rfl, Nat.le_refl _, fun _ _ _ => rfl⟩)).trans h3⟩
  have c4 := h.c4
  have hL := h.lt
  have n1 : ¬ L = w.heap.size := by omega
  have n2 : ¬ g = w.heap.size := by omega
  have hi : init.length ≤ 900000 := by omega
  clear h hx hlen hne
  generalize init.length = n at *
  have hne0 : (((n : Int) + 1) == 0) = false := by simp; omega
  have i1 : (0 : Int) ≤ (n : Int) := by omega
  go_enter Tryz.func117, Tryz.ntmps117
  go_wp2_with fail
  refine wp_quiet_tail 13 (by kernel_rfl) (by kernel_rfl) ?_
  simp only [List.take_succ_cons, List.take_zero, List.drop_succ_cons, List.drop_zero]
  repeat (go_big_quiet_step (fail))
  refine wpQuiet_nil ?_
  intro _ hw'
  obtain ⟨k3, hw''⟩ := hw'
  subst hw''
  go_wp2_with fail
  refine (HA.out _ k3).mono ?_
  rintro e w1 ⟨rfl, vs', h1, h2⟩
  go_wp2
  go_end0
  exact ⟨rfl, vs', h1, h2⟩
end Go.Proofs.YthllhabjfchgiaaGreatDoor

/- (*loader).openLoop. -/
namespace Go.Proofs.YthllhabjfchgiaaGreatDoor
open Go.RowKit
open Hx (St Bk Ls In64)
attribute [local go_sem ↓] Go.wp_at_zero Go.wp_at_succ
variable {B : Nat} {w : World} {L : Nat} {s : ByteArray} {l : Ls} {vs vb vl : Value}

set_option maxHeartbeats 1000000 in
theorem openLoop_full (h : LoadIn B w L s l vs vb vl) (hl : l.loops.length = 8) (q a b c d dp t : Int) :
    Calls Tryz.prog 114 #[.pointer (some ⟨L, 0, none⟩), .agg #[.int .u8 q, .int .i64 a, .int .i64 b, .int .i64 c, .int .i64 d, .int .i64 dp, .int .i64 t]] w fun e w' => e = .returned (.tuple #[]) ∧
      LoadIn B w' L s { l with bad := true } vs vb vl ∧ Moves L w vs vb vl w' vs vb vl := by
  have HP : Hid (∀ o, LoadIn B ((w.setCell ⟨L, 7, none⟩ (.bool true)).alloc o) L s { l with bad := true } vs vb vl ∧ Moves L w vs vb vl ((w.setCell ⟨L, 7, none⟩ (.bool true)).alloc o) vs vb vl) := fun o =>
    ⟨h.putBad.alloc o, (Moves.own L w vs vb vl 7 (.bool true)).trans (Moves.grow L _ vs vb vl (World.grownBy_alloc _ o none))⟩
  obtain ⟨a0, c0, rfl⟩ := slice_form h.loops
  have c4 := h.c4
  have c7 := h.c7
  have f7 := h.fr 7
  have hL := h.lt
  have n1 : ¬ L = w.heap.size := by omega
  clear h
  generalize l.loops.length = n at *
  subst hl
  go_enter Tryz.func114, Tryz.ntmps114
  go_wp2
  exact bodyPost_ret (v := .tuple #[]) (by simp [results, Tryz.results114, go_sem]) rfl ⟨rfl, HP.out _⟩

set_option maxRecDepth 100000 in
set_option maxHeartbeats 2000000 in
theorem openLoop_more (h : LoadIn B w L s l vs vb vl) (hne : l.blocks ≠ []) (hlb : l.blocks.length ≤ 900000) (hls : l.steps.length ≤ 900000) (hll : l.loops.length < 8) (q a b c d dp t : Int) :
    Calls Tryz.prog 114 #[.pointer (some ⟨L, 0, none⟩), .agg #[.int .u8 q, .int .i64 a, .int .i64 b, .int .i64 c, .int .i64 d, .int .i64 dp, .int .i64 t]] w fun e w' => e = .returned (.tuple #[]) ∧
      ∃ vs' vb' vl', LoadIn B w' L s (loopStep l ⟨q, a, b, c, d, dp, t⟩) vs' vb' vl' ∧ Moves L w vs vb vl w' vs' vb' vl' := by
  obtain ⟨i0, hi0, hz0, hz1, hz2⟩ := info_parts info_int
  obtain ⟨aL, cL, rfl⟩ := slice_form h.loops
  have HA : Hid (∀ o, Calls Tryz.prog 113 #[.pointer (some ⟨L, 0, none⟩), .agg #[.int .u8 q, .int .i64 a, .int .i64 b, .int .i64 c, .int .i64 d, .int .i64 l.loops.length, .int .i64 t]] (w.alloc o) fun e w' => e = .returned (.tuple #[]) ∧
      ∃ vs' vb', LoadIn B w' L s (openStep l ⟨q, a, b, c, d, l.loops.length, t⟩) vs' vb' (.slice aL l.loops.length cL) ∧ Moves L w vs vb (.slice aL l.loops.length cL) w' vs' vb' (.slice aL l.loops.length cL)) := fun o => by
    refine (open_any (h.alloc o) hne hlb hls q a b c d l.loops.length t).mono ?_
    rintro e w' ⟨h1, vs', vb', h2, h3⟩
    exact ⟨h1, vs', vb', h2, (Moves.grow L w _ _ _ (World.grownBy_alloc w o none)).trans h3⟩
  have hl2 : (openStep l ⟨q, a, b, c, d, l.loops.length, t⟩).steps.length = l.steps.length + 1 := by
    show (l.steps ++ [_]).length = _
    simp
  have hl3 : (openStep l ⟨q, a, b, c, d, l.loops.length, t⟩).loops = l.loops := rfl
  have HO : Hid (loopStep l ⟨q, a, b, c, d, dp, t⟩ = { openStep l ⟨q, a, b, c, d, l.loops.length, t⟩ with loops := l.loops ++ [(l.steps.length : Int)] }) := rfl
  have c4 := h.c4
  have hL := h.lt
  have hBL := h.bL
  clear h hne hlb
  generalize loopStep l ⟨q, a, b, c, d, dp, t⟩ = l2 at *
  generalize openStep l ⟨q, a, b, c, d, l.loops.length, t⟩ = l1 at *
  have HL2 : Hid (l1.steps.length = l.steps.length + 1) := hl2
  have HL3 : Hid (l1.loops = l.loops) := hl3
  clear hl2 hl3
  have n1 : ¬ L = w.heap.size := by omega
  have h8 : ((l.loops.length : Int) == 8) = false := by simp; omega
  go_enter Tryz.func114, Tryz.ntmps114
  go_wp2_with fail
  refine (HA.out _).mono ?_
  rintro e w1 ⟨rfl, vs1, vb1, h1, m1⟩
  obtain ⟨aS, cS, hvs⟩ := slice_form h1.steps
  rw [HL2.out] at hvs
  subst hvs
  have HP : Hid (∀ (o : Obj) (k : Nat) (w2 : World) (g cap : Nat), ((w1.alloc o).drewN k).grownBy w2 (Value.slice aL l.loops.length cL).ownBlock →
      w2.ownsRow B 3 1 (.slice (some ⟨g, 0, none⟩) (l.loops.length + 1) cap) (l.loops.length + 1) (l.loops.map (Value.int .i64) ++ [.int .i64 l.steps.length]) →
      ((Value.slice aL l.loops.length cL).ownBlock = some g ∨ g = w1.heap.size + 1) →
      LoadIn B (w2.setCell ⟨L, 4, none⟩ (.slice (some ⟨g, 0, none⟩) (l.loops.length + 1) cap)) L s l2 (.slice aS (l.steps.length + 1) cS) vb1 (.slice (some ⟨g, 0, none⟩) (l.loops.length + 1) cap) ∧
      Moves L w vs vb (.slice aL l.loops.length cL) (w2.setCell ⟨L, 4, none⟩ (.slice (some ⟨g, 0, none⟩) (l.loops.length + 1) cap)) (.slice aS (l.steps.length + 1) cS) vb1 (.slice (some ⟨g, 0, none⟩) (l.loops.length + 1) cap) ∧
      w2.cell? ⟨L, 4, none⟩ = some (.slice aL l.loops.length cL) ∧ w2.frozen? ⟨L, 4, none⟩ = false) := by
    intro o k w2 g cap hg ho hat
    have hW := (h1.alloc o).drewN k
    have hsz : ((w1.alloc o).drewN k).heap.size = w1.heap.size + 1 := by simp
    obtain ⟨g1, g2, g3, g4⟩ := hW.loopsTo hg (vl' := .slice (some ⟨g, 0, none⟩) (l.loops.length + 1) cap) (loops' := l.loops ++ [(l.steps.length : Int)]) (by
        have e1 : (l.loops ++ [(l.steps.length : Int)]).length = l.loops.length + 1 := by simp
        have e2 : (l.loops ++ [(l.steps.length : Int)]).map (Value.int .i64) = l.loops.map (Value.int .i64) ++ [.int .i64 l.steps.length] := by simp
        rw [e1, e2]; exact ho) (fun g' hg' => by
      have : g = g' := by simpa [Value.ownBlock] using hg'
      subst this
      rcases hat with h5 | h5
      · exact Or.inl h5
      · exact Or.inr (by rw [hsz]; omega))
    rw [HO.out]
    exact ⟨g1, m1.trans ((Moves.grow L w1 _ _ _ (w' := (w1.alloc o).drewN k) ((World.grownBy_alloc w1 o none).trans ⟨rfl, rfl, rfl, Nat.le_refl _, fun _ _ _ => rfl⟩)).trans g2), g3, g4⟩
  have HW : Hid (∀ (o : Obj) (k : Nat), ((w1.alloc o).drewN k).ownsRow B 3 1 (.slice aL l.loops.length cL) l.loops.length (l.loops.map (Value.int .i64))) := fun o k => by
    have := ((h1.alloc o).drewN k).loops
    rw [HL3.out] at this
    exact this
  have d2 := h1.c2
  have d4 := h1.c4
  have hL1 := h1.lt
  have hmx : l.loops.length + 1 ≤ maxLen := by unfold maxLen; omega
  have hby : (l.loops.length + 1) * 8 ≤ 140737488355328 := by omega
  have n2 : ¬ L = w1.heap.size := by omega
  have hBw : B ≤ w1.heap.size := by omega
  have hwr : IntKind.i64.wrap (l.steps.length : Int) = (l.steps.length : Int) := by rw [IntKind.wrap_i64]; omega
  clear h1 m1 HA c4
  generalize l.loops.map (Value.int .i64) = cells at *
  go_wp2_with fail
  go_region_law ((refine step_append_lies _ (by rfl) _ _ _ (by rfl) B 3 i0 _ 1 8 Tryz.underlying91 hi0 hz0 hz1 hz2 (by rfl) (by omega) (.slice aL l.loops.length cL) l.loops.length cells (by rfl) (HW.out _ 1) ⟨w1.heap.size, 0, none⟩ 1 1 [.int .i64 l.steps.length] (by rfl) (by rfl) (World.news_of_block (cs := #[.int .i64 l.steps.length]) (t := 3) (fr := (0, 0)) (heap_alloc_new w1 _)) (by simp [Value.oneCell']) (by omega) hmx hby (by simp; omega) (w1.heap.size + 1) (by simp) ?_; intro gg cap1 w3 hown1 hgrow hat hlt; have hu3 := (HP.out _ 1 _ _ _ hgrow hown1 hat).2.2.1; have hf3 := (HP.out _ 1 _ _ _ hgrow hown1 hat).2.2.2))
  all_goals
    have hm := (HP.out _ 1 _ _ _ hgrow hown1 hat).1
    have hv := (HP.out _ 1 _ _ _ hgrow hown1 hat).2.1
    clear hown1 hgrow hat hlt
    go_wp2
    go_end0
    exact ⟨rfl, _, _, _, hm, hv⟩
end Go.Proofs.YthllhabjfchgiaaGreatDoor
