import Derived.Test.YthllhabjfchgiaaGreatDoorHy05
import Derived.Test.YthllhabjfchgiaaGreatDoorHy03
import Derived.Laws.BitsAllLaws
/- (*loader).end, of an If. -/
namespace Go.Proofs.YthllhabjfchgiaaGreatDoor
open Go.RowKit
open Hx (St Bk Ls In64)
attribute [local go_sem ↓] Go.wp_at_zero Go.wp_at_succ
attribute [local go_sem] setCell_drewN'
variable {B : Nat} {w : World} {L : Nat} {s : ByteArray} {l : Ls} {vs vb vl : Value}

set_option maxRecDepth 100000 in
set_option maxHeartbeats 1000000 in
theorem end_if_other (h : LoadIn B w L s l vs vb vl) (hbl : 2 ≤ l.blocks.length) (hlb : l.blocks.length ≤ 900000) (p : Nat) (sp : St) (hst : l.steps[p]? = some sp) (hop : l.top.opener = p) (hsp : ¬ sp.op = 4) (r : Nat) (sr : St) (hr : l.steps[r]? = some sr) (hr0 : 0 < r) (ho : l.top.other = r) (q a b c d dp t : Int) :
    Calls Tryz.prog 116 #[.pointer (some ⟨L, 0, none⟩), .agg #[.int .u8 q, .int .i64 a, .int .i64 b, .int .i64 c, .int .i64 d, .int .i64 dp, .int .i64 t]] w fun e w' => e = .returned (.tuple #[]) ∧
      ∃ vs' vb' vl', LoadIn B w' L s (endIfAt l r sr l.blocks.dropLast l.top) vs' vb' vl' ∧ Moves L w vs vb vl w' vs' vb' vl' := by
  have hne : l.blocks ≠ [] := fun e => by rw [e] at hbl; simp at hbl
  obtain ⟨g, cap, init, bb, hvb, hb, htop, hgL, hBg, hgw, hgs2, hgl2, b0, b1, b2, b3, hf⟩ := h.inner hne
  subst hvb
  have hn : l.blocks.length = init.length + 1 := by rw [hb]; simp
  rw [hn] at h ⊢
  have HI : Hid (∀ o, Calls Tryz.prog 168 #[.pointer (some ⟨L, 0, none⟩)] (w.alloc o) fun e w' => e = .returned (.pointer (some ⟨g, init.length * 4, none⟩)) ∧ ∃ k, w' = (w.alloc o).drewN k) := fun o =>
    inner_walk L g init.length cap (w.alloc o) (h.alloc o).c3 (by omega)
  have HC : Hid (∀ o o2 k k2, Calls Tryz.prog 171 #[.pointer (some ⟨L, 0, none⟩), .agg #[.int .i64 bb.opener, .int .i64 bb.other, .int .i64 bb.need, .int .i64 bb.before]] ((((w.alloc o).drewN k).alloc o2).drewN k2) fun e w' => e = .returned (.tuple #[]) ∧
      ∃ vb', LoadIn B w' L s (endIfAt l r sr l.blocks.dropLast l.top) vs vb' vl ∧ Moves L w vs (.slice (some ⟨g, 0, none⟩) (init.length + 1) cap) vl w' vs vb' vl) := fun o o2 k k2 => by
    have e1 : l.blocks.dropLast = init := by rw [hb]; simp
    have hin : init ≠ [] := fun e => by rw [e] at hn; simp at hn; omega
    rw [e1, htop]
    refine (endIf_other ((((h.alloc o).drewN k).alloc o2).drewN k2) init bb hb hin hlb r sr hr hr0 (by rw [← htop]; exact ho)).mono ?_
    rintro e w' ⟨h1, vb', h2, h3⟩
    exact ⟨h1, vb', h2, (Moves.grow L w _ _ _ (World.grownBy_alloc w o none)).trans ((Moves.grow L _ _ _ _ (grown_drewN _ k)).trans ((Moves.grow L _ _ _ _ (World.grownBy_alloc _ o2 none)).trans (Moves.trans (Moves.grow L _ _ _ _ (grown_drewN _ k2)) h3)))⟩
  have c3 := h.c3
  have hL := h.lt
  have n1 : ¬ L = w.heap.size := by omega
  have n2 : ¬ g = w.heap.size := by omega
  have n3 : ¬ L = w.heap.size + 1 := by omega
  have n4 : ¬ g = w.heap.size + 1 := by omega
  rw [htop] at hop
  rw [hop] at b0 HC
  obtain ⟨gs, cs, hvs, hgs, hgsL, hgb, hgl, hps, hat, hfr⟩ := h.stepAt hst
  subst hvs
  have c2 := h.c2
  have a0 := hat.1
  have n5 : ¬ gs = w.heap.size := by omega
  have n6 : ¬ gs = w.heap.size + 1 := by omega
  have hone : (((init.length : Int) + 1) == 1) = false := by simp; omega
  have i0 : (0 : Int) ≤ (p : Int) := by omega
  have i1 : (p : Int) < (l.steps.length : Int) := by omega
  have hsp' : (sp.op == 4) = false := by simpa using hsp
  clear h hf hne hb htop hn hbl hat hfr
  generalize endIfAt l r sr l.blocks.dropLast l.top = l2 at *
  generalize init.length = n at *
  go_enter Tryz.func116, Tryz.ntmps116
  go_wp2_with fail
  refine (HI.out _).mono ?_
  rintro e w1 ⟨rfl, k, rfl⟩
  go_wp2_with fail
  refine wp_quiet_tail 10 (by kernel_rfl) (by kernel_rfl) ?_
  simp only [List.take_succ_cons, List.take_zero, List.drop_succ_cons, List.drop_zero]
  repeat (go_big_quiet_step (fail))
  refine wpQuiet_nil ?_
  intro _ hw'
  obtain ⟨k2, hw''⟩ := hw'
  subst hw''
  go_wp2_with fail
  refine (HC.out _ _ _ _).mono ?_
  rintro e w2 ⟨rfl, vb', h1, h2⟩
  go_wp2
  go_end0
  exact ⟨rfl, _, _, _, h1, h2⟩

set_option maxRecDepth 100000 in
set_option maxHeartbeats 1000000 in
theorem end_if_only (h : LoadIn B w L s l vs vb vl) (hbl : 2 ≤ l.blocks.length) (hlb : l.blocks.length ≤ 900000) (p : Nat) (sp : St) (hst : l.steps[p]? = some sp) (hop : l.top.opener = p) (hsp : ¬ sp.op = 4) (ho : ¬ 0 < l.top.other) (q a b c d dp t : Int) :
    Calls Tryz.prog 116 #[.pointer (some ⟨L, 0, none⟩), .agg #[.int .u8 q, .int .i64 a, .int .i64 b, .int .i64 c, .int .i64 d, .int .i64 dp, .int .i64 t]] w fun e w' => e = .returned (.tuple #[]) ∧
      ∃ vs' vb' vl', LoadIn B w' L s (endIfAt l p sp l.blocks.dropLast l.top) vs' vb' vl' ∧ Moves L w vs vb vl w' vs' vb' vl' := by
  have hne : l.blocks ≠ [] := fun e => by rw [e] at hbl; simp at hbl
  obtain ⟨g, cap, init, bb, hvb, hb, htop, hgL, hBg, hgw, hgs2, hgl2, b0, b1, b2, b3, hf⟩ := h.inner hne
  subst hvb
  have hn : l.blocks.length = init.length + 1 := by rw [hb]; simp
  rw [hn] at h ⊢
  have HI : Hid (∀ o, Calls Tryz.prog 168 #[.pointer (some ⟨L, 0, none⟩)] (w.alloc o) fun e w' => e = .returned (.pointer (some ⟨g, init.length * 4, none⟩)) ∧ ∃ k, w' = (w.alloc o).drewN k) := fun o =>
    inner_walk L g init.length cap (w.alloc o) (h.alloc o).c3 (by omega)
  have HC : Hid (∀ o o2 k k2, Calls Tryz.prog 171 #[.pointer (some ⟨L, 0, none⟩), .agg #[.int .i64 bb.opener, .int .i64 bb.other, .int .i64 bb.need, .int .i64 bb.before]] ((((w.alloc o).drewN k).alloc o2).drewN k2) fun e w' => e = .returned (.tuple #[]) ∧
      ∃ vb', LoadIn B w' L s (endIfAt l p sp l.blocks.dropLast l.top) vs vb' vl ∧ Moves L w vs (.slice (some ⟨g, 0, none⟩) (init.length + 1) cap) vl w' vs vb' vl) := fun o o2 k k2 => by
    have e1 : l.blocks.dropLast = init := by rw [hb]; simp
    have hin : init ≠ [] := fun e => by rw [e] at hn; simp at hn; omega
    rw [e1, htop]
    refine (endIf_only ((((h.alloc o).drewN k).alloc o2).drewN k2) init bb hb hin hlb p sp hst (by rw [← htop]; exact ho) (by rw [← htop]; exact hop)).mono ?_
    rintro e w' ⟨h1, vb', h2, h3⟩
    exact ⟨h1, vb', h2, (Moves.grow L w _ _ _ (World.grownBy_alloc w o none)).trans ((Moves.grow L _ _ _ _ (grown_drewN _ k)).trans ((Moves.grow L _ _ _ _ (World.grownBy_alloc _ o2 none)).trans (Moves.trans (Moves.grow L _ _ _ _ (grown_drewN _ k2)) h3)))⟩
  have c3 := h.c3
  have hL := h.lt
  have n1 : ¬ L = w.heap.size := by omega
  have n2 : ¬ g = w.heap.size := by omega
  have n3 : ¬ L = w.heap.size + 1 := by omega
  have n4 : ¬ g = w.heap.size + 1 := by omega
  rw [htop] at hop
  rw [hop] at b0 HC
  obtain ⟨gs, cs, hvs, hgs, hgsL, hgb, hgl, hps, hat, hfr⟩ := h.stepAt hst
  subst hvs
  have c2 := h.c2
  have a0 := hat.1
  have n5 : ¬ gs = w.heap.size := by omega
  have n6 : ¬ gs = w.heap.size + 1 := by omega
  have hone : (((init.length : Int) + 1) == 1) = false := by simp; omega
  have i0 : (0 : Int) ≤ (p : Int) := by omega
  have i1 : (p : Int) < (l.steps.length : Int) := by omega
  have hsp' : (sp.op == 4) = false := by simpa using hsp
  clear h hf hne hb htop hn hbl hat hfr
  generalize endIfAt l p sp l.blocks.dropLast l.top = l2 at *
  generalize init.length = n at *
  go_enter Tryz.func116, Tryz.ntmps116
  go_wp2_with fail
  refine (HI.out _).mono ?_
  rintro e w1 ⟨rfl, k, rfl⟩
  go_wp2_with fail
  refine wp_quiet_tail 10 (by kernel_rfl) (by kernel_rfl) ?_
  simp only [List.take_succ_cons, List.take_zero, List.drop_succ_cons, List.drop_zero]
  repeat (go_big_quiet_step (fail))
  refine wpQuiet_nil ?_
  intro _ hw'
  obtain ⟨k2, hw''⟩ := hw'
  subst hw''
  go_wp2_with fail
  refine (HC.out _ _ _ _).mono ?_
  rintro e w2 ⟨rfl, vb', h1, h2⟩
  go_wp2
  go_end0
  exact ⟨rfl, _, _, _, h1, h2⟩
end Go.Proofs.YthllhabjfchgiaaGreatDoor

/- (*loader).divide. -/
namespace Go.Proofs.YthllhabjfchgiaaGreatDoor
open Go.RowKit
open Hx (St Bk Ls In64)
attribute [local go_sem ↓] Go.wp_at_zero Go.wp_at_succ
attribute [local go_sem] setCell_drewN'
variable {B : Nat} {w : World} {L : Nat} {s : ByteArray} {l : Ls} {vs vb vl : Value}

theorem bk_set_last (init : List Bk) (b : Bk) (j : Nat) (u : Value) (b' : Bk) (hj : j < 4) (h : (bkCells b).set j u = bkCells b') : ((init ++ [b]).flatMap bkCells).set (init.length * 4 + j) u = (init ++ [b']).flatMap bkCells := by
  simp only [List.flatMap_append, List.flatMap_cons, List.flatMap_nil, List.append_nil]
  rw [List.set_append_right _ _ (by rw [bk_len]; omega), bk_len, show init.length * 4 + j - 4 * init.length = j by omega, h]

/-- a store into the innermost block -/
theorem LoadIn.putLast {g n cap : Nat} (h : LoadIn B w L s l vs (.slice (some ⟨g, 0, none⟩) n cap) vl) {init : List Bk} {b : Bk} (hb : l.blocks = init ++ [b]) (hn : n = l.blocks.length) (j : Nat) (u : Value) (b' : Bk) (hj : j < 4) (hu : (bkCells b).set j u = bkCells b') :
    LoadIn B (w.setCell ⟨g, init.length * 4 + j, none⟩ u) L s { l with blocks := init ++ [b'] } vs (.slice (some ⟨g, 0, none⟩) n cap) vl ∧
    Moves L w vs (.slice (some ⟨g, 0, none⟩) n cap) vl (w.setCell ⟨g, init.length * 4 + j, none⟩ u) vs (.slice (some ⟨g, 0, none⟩) n cap) vl := by
  have hgL : ¬ g = L := fun e => h.nb (by rw [← e]; rfl)
  have hc : ∀ k, (w.setCell ⟨g, init.length * 4 + j, none⟩ u).cell? ⟨L, k, none⟩ = w.cell? ⟨L, k, none⟩ := fun k => World.cell?_setCell_other _ _ _ _ (by intro e; cases e; exact hgL rfl)
  have hrow := h.blocks
  subst hn
  have hst := hrow.stored (init.length * 4 + j) u
  rw [show (l.blocks.flatMap bkCells).set (init.length * 4 + j) u = (init ++ [b']).flatMap bkCells by rw [hb]; exact bk_set_last init b j u b' hj hu] at hst
  have hlen : l.blocks.length = (init ++ [b']).length := by rw [hb]; simp
  refine ⟨⟨h.bL, by rw [hc]; exact h.c0, by rw [hc]; exact h.c1, by rw [hc]; exact h.c2, by rw [hc]; exact h.c3, by rw [hc]; exact h.c4, by rw [hc]; exact h.c5, by rw [hc]; exact h.c6, by rw [hc]; exact h.c7, fun j => by rw [World.frozen?_setCell]; exact h.fr j,
    h.steps.kept hst.2 (by rcases h.sb with e | e
                           · exact Or.inl e
                           · exact Or.inr e), ?_, h.loops.kept hst.2 ?_, h.ns, h.nb, h.nl, h.sb, h.sl, h.bl⟩, ?_⟩
  · have := hst.1
    rw [hlen] at this ⊢
    exact this
  · rcases h.bl with e | e
    · cases e
    · exact Or.inr (fun e' => e e'.symm)
  · exact ⟨rfl, rfl, rfl, by simp, fun k _ _ _ h2 _ => Below.heap_setCell _ _ _ _ (fun e => h2 (by rw [e]; rfl)), fun _ h => Or.inl h, fun _ h => Or.inl h, fun _ h => Or.inl h⟩

set_option maxRecDepth 100000 in
set_option maxHeartbeats 1000000 in
theorem divide_one (h : LoadIn B w L s l vs vb vl) (hbl : l.blocks.length = 1) (q a b c d dp t : Int) :
    Calls Tryz.prog 115 #[.pointer (some ⟨L, 0, none⟩), .agg #[.int .u8 q, .int .i64 a, .int .i64 b, .int .i64 c, .int .i64 d, .int .i64 dp, .int .i64 t]] w fun e w' => e = .returned (.tuple #[]) ∧
      LoadIn B w' L s { l with bad := true } vs vb vl ∧ Moves L w vs vb vl w' vs vb vl := by
  have hne : l.blocks ≠ [] := fun e => by rw [e] at hbl; simp at hbl
  obtain ⟨g, cap, init, bb, hvb, hb, htop, hgL, hBg, hgw, hgs2, hgl2, b0, b1, b2, b3, hf⟩ := h.inner hne
  subst hvb
  have hn : l.blocks.length = init.length + 1 := by rw [hb]; simp
  rw [hn] at h ⊢
  have HI : Hid (∀ o, Calls Tryz.prog 168 #[.pointer (some ⟨L, 0, none⟩)] (w.alloc o) fun e w' => e = .returned (.pointer (some ⟨g, init.length * 4, none⟩)) ∧ ∃ k, w' = (w.alloc o).drewN k) := fun o =>
    inner_walk L g init.length cap (w.alloc o) (h.alloc o).c3 (by omega)
  have HP : Hid (∀ o k, LoadIn B (((w.setCell ⟨L, 7, none⟩ (.bool true)).alloc o).drewN k) L s { l with bad := true } vs (.slice (some ⟨g, 0, none⟩) (init.length + 1) cap) vl ∧
      Moves L w vs (.slice (some ⟨g, 0, none⟩) (init.length + 1) cap) vl (((w.setCell ⟨L, 7, none⟩ (.bool true)).alloc o).drewN k) vs (.slice (some ⟨g, 0, none⟩) (init.length + 1) cap) vl) := fun o k =>
    ⟨(h.putBad.alloc o).drewN k, (Moves.own L w _ _ _ 7 (.bool true)).trans ((Moves.grow L _ _ _ _ (World.grownBy_alloc _ o none)).trans (Moves.grow L _ _ _ _ (grown_drewN _ k)))⟩
  have c3 := h.c3
  have c7 := h.c7
  have f7 := h.fr 7
  have hL := h.lt
  have n1 : ¬ L = w.heap.size := by omega
  have n2 : ¬ g = w.heap.size := by omega
  have hone : (((init.length : Int) + 1) == 1) = true := by simp; omega
  clear h hf hne hb htop hn hbl
  generalize ({ l with bad := true } : Ls) = l2 at *
  generalize init.length = n at *
  go_enter Tryz.func115, Tryz.ntmps115
  go_wp2_with fail
  refine (HI.out _).mono ?_
  rintro e w1 ⟨rfl, k, rfl⟩
  go_wp2_with fail
  refine wp_quiet_tailN 26 (by kernel_rfl) (by kernel_rfl) ?_
  simp only [List.take_succ_cons, List.take_zero, List.drop_succ_cons, List.drop_zero]
  repeat (go_big_quiet_step (fail))
  refine wpQuiet_nil ?_
  intro _ hw'
  obtain ⟨k2, hw''⟩ := hw'
  subst hw''
  go_wp2
  exact bodyPost_ret (v := .tuple #[]) (by simp [results, Tryz.results115, go_sem]) rfl ⟨rfl, HP.out _ _⟩
end Go.Proofs.YthllhabjfchgiaaGreatDoor

/- (*loader).divide, where it may not stand. -/
namespace Go.Proofs.YthllhabjfchgiaaGreatDoor
open Go.RowKit
open Hx (St Bk Ls In64)
attribute [local go_sem ↓] Go.wp_at_zero Go.wp_at_succ
attribute [local go_sem] setCell_drewN'
variable {B : Nat} {w : World} {L : Nat} {s : ByteArray} {l : Ls} {vs vb vl : Value}

set_option maxRecDepth 100000 in
set_option maxHeartbeats 1000000 in
theorem divide_other (h : LoadIn B w L s l vs vb vl) (hbl : 2 ≤ l.blocks.length) (hlb : l.blocks.length ≤ 900000) (ho : 0 < l.top.other) (q a b c d dp t : Int) :
    Calls Tryz.prog 115 #[.pointer (some ⟨L, 0, none⟩), .agg #[.int .u8 q, .int .i64 a, .int .i64 b, .int .i64 c, .int .i64 d, .int .i64 dp, .int .i64 t]] w fun e w' => e = .returned (.tuple #[]) ∧
      LoadIn B w' L s { l with bad := true } vs vb vl ∧ Moves L w vs vb vl w' vs vb vl := by
  have hne : l.blocks ≠ [] := fun e => by rw [e] at hbl; simp at hbl
  obtain ⟨g, cap, init, bb, hvb, hb, htop, hgL, hBg, hgw, hgs2, hgl2, b0, b1, b2, b3, hf⟩ := h.inner hne
  subst hvb
  have hn : l.blocks.length = init.length + 1 := by rw [hb]; simp
  rw [hn] at h ⊢
  have HI : Hid (∀ o, Calls Tryz.prog 168 #[.pointer (some ⟨L, 0, none⟩)] (w.alloc o) fun e w' => e = .returned (.pointer (some ⟨g, init.length * 4, none⟩)) ∧ ∃ k, w' = (w.alloc o).drewN k) := fun o =>
    inner_walk L g init.length cap (w.alloc o) (h.alloc o).c3 (by omega)
  have HP : Hid (∀ o k, LoadIn B (((w.setCell ⟨L, 7, none⟩ (.bool true)).alloc o).drewN k) L s { l with bad := true } vs (.slice (some ⟨g, 0, none⟩) (init.length + 1) cap) vl ∧
      Moves L w vs (.slice (some ⟨g, 0, none⟩) (init.length + 1) cap) vl (((w.setCell ⟨L, 7, none⟩ (.bool true)).alloc o).drewN k) vs (.slice (some ⟨g, 0, none⟩) (init.length + 1) cap) vl) := fun o k =>
    ⟨(h.putBad.alloc o).drewN k, (Moves.own L w _ _ _ 7 (.bool true)).trans ((Moves.grow L _ _ _ _ (World.grownBy_alloc _ o none)).trans (Moves.grow L _ _ _ _ (grown_drewN _ k)))⟩
  have c3 := h.c3
  have c7 := h.c7
  have f7 := h.fr 7
  have hL := h.lt
  have n1 : ¬ L = w.heap.size := by omega
  have n2 : ¬ g = w.heap.size := by omega
  have hone : (((init.length : Int) + 1) == 1) = false := by simp; omega
  rw [htop] at ho
  have ho' : decide (0 < bb.other) = true := by simpa using ho
  clear h hf hne hb htop hn hbl
  generalize ({ l with bad := true } : Ls) = l2 at *
  generalize init.length = n at *
  go_enter Tryz.func115, Tryz.ntmps115
  go_wp2_with fail
  refine (HI.out _).mono ?_
  rintro e w1 ⟨rfl, k, rfl⟩
  go_wp2_with fail
  refine wp_quiet_tailN 26 (by kernel_rfl) (by kernel_rfl) ?_
  simp only [List.take_succ_cons, List.take_zero, List.drop_succ_cons, List.drop_zero]
  repeat (go_big_quiet_step (fail))
  refine wpQuiet_nil ?_
  intro _ hw'
  obtain ⟨k2, hw''⟩ := hw'
  subst hw''
  go_wp2
  exact bodyPost_ret (v := .tuple #[]) (by simp [results, Tryz.results115, go_sem]) rfl ⟨rfl, HP.out _ _⟩

set_option maxRecDepth 100000 in
set_option maxHeartbeats 1000000 in
theorem divide_wrong (h : LoadIn B w L s l vs vb vl) (hbl : 2 ≤ l.blocks.length) (hlb : l.blocks.length ≤ 900000) (ho : ¬ 0 < l.top.other) (p : Nat) (sp : St) (hst : l.steps[p]? = some sp) (hop : l.top.opener = p) (hsp : ¬ sp.op = 2) (q a b c d dp t : Int) :
    Calls Tryz.prog 115 #[.pointer (some ⟨L, 0, none⟩), .agg #[.int .u8 q, .int .i64 a, .int .i64 b, .int .i64 c, .int .i64 d, .int .i64 dp, .int .i64 t]] w fun e w' => e = .returned (.tuple #[]) ∧
      LoadIn B w' L s { l with bad := true } vs vb vl ∧ Moves L w vs vb vl w' vs vb vl := by
  have hne : l.blocks ≠ [] := fun e => by rw [e] at hbl; simp at hbl
  obtain ⟨g, cap, init, bb, hvb, hb, htop, hgL, hBg, hgw, hgs2, hgl2, b0, b1, b2, b3, hf⟩ := h.inner hne
  subst hvb
  have hn : l.blocks.length = init.length + 1 := by rw [hb]; simp
  rw [hn] at h ⊢
  have HI : Hid (∀ o, Calls Tryz.prog 168 #[.pointer (some ⟨L, 0, none⟩)] (w.alloc o) fun e w' => e = .returned (.pointer (some ⟨g, init.length * 4, none⟩)) ∧ ∃ k, w' = (w.alloc o).drewN k) := fun o =>
    inner_walk L g init.length cap (w.alloc o) (h.alloc o).c3 (by omega)
  have HP : Hid (∀ o k, LoadIn B (((w.setCell ⟨L, 7, none⟩ (.bool true)).alloc o).drewN k) L s { l with bad := true } vs (.slice (some ⟨g, 0, none⟩) (init.length + 1) cap) vl ∧
      Moves L w vs (.slice (some ⟨g, 0, none⟩) (init.length + 1) cap) vl (((w.setCell ⟨L, 7, none⟩ (.bool true)).alloc o).drewN k) vs (.slice (some ⟨g, 0, none⟩) (init.length + 1) cap) vl) := fun o k =>
    ⟨(h.putBad.alloc o).drewN k, (Moves.own L w _ _ _ 7 (.bool true)).trans ((Moves.grow L _ _ _ _ (World.grownBy_alloc _ o none)).trans (Moves.grow L _ _ _ _ (grown_drewN _ k)))⟩
  have c3 := h.c3
  have c7 := h.c7
  have f7 := h.fr 7
  have hL := h.lt
  have n1 : ¬ L = w.heap.size := by omega
  have n2 : ¬ g = w.heap.size := by omega
  obtain ⟨gs, cs, hvs, hgs, hgsL, hgb, hgl, hps, hat, hfr⟩ := h.stepAt hst
  subst hvs
  have c2 := h.c2
  have a0 := hat.1
  have n5 : ¬ gs = w.heap.size := by omega
  rw [htop] at hop ho
  rw [hop] at b0
  have i0 : (0 : Int) ≤ (p : Int) := by omega
  have i1 : (p : Int) < (l.steps.length : Int) := by omega
  have hone : (((init.length : Int) + 1) == 1) = false := by simp; omega
  have ho' : decide (0 < bb.other) = false := by simpa using ho
  have hsp' : (sp.op == 2) = false := by simpa using hsp
  clear h hf hne hb htop hn hbl hat hfr
  generalize ({ l with bad := true } : Ls) = l2 at *
  generalize init.length = n at *
  go_enter Tryz.func115, Tryz.ntmps115
  go_wp2_with fail
  refine (HI.out _).mono ?_
  rintro e w1 ⟨rfl, k, rfl⟩
  go_wp2_with fail
  refine wp_quiet_tailN 26 (by kernel_rfl) (by kernel_rfl) ?_
  simp only [List.take_succ_cons, List.take_zero, List.drop_succ_cons, List.drop_zero]
  repeat (go_big_quiet_step (fail))
  refine wpQuiet_nil ?_
  intro _ hw'
  obtain ⟨k2, hw''⟩ := hw'
  subst hw''
  go_wp2
  exact bodyPost_ret (v := .tuple #[]) (by simp [results, Tryz.results115, go_sem]) rfl ⟨rfl, HP.out _ _⟩
end Go.Proofs.YthllhabjfchgiaaGreatDoor

/- (*loader).divide, where it may stand. -/
namespace Go.Proofs.YthllhabjfchgiaaGreatDoor
open Go.RowKit
open Hx (St Bk Ls In64)
attribute [local go_sem ↓] Go.wp_at_zero Go.wp_at_succ
attribute [local go_sem] setCell_drewN'
variable {B : Nat} {w : World} {L : Nat} {s : ByteArray} {l : Ls} {vs vb vl : Value}

set_option maxRecDepth 100000 in
set_option maxHeartbeats 2000000 in
theorem divide_good (h : LoadIn B w L s l vs vb vl) (hbl : 2 ≤ l.blocks.length) (hlb : l.blocks.length ≤ 900000) (hls : l.steps.length ≤ 900000) (ho : ¬ 0 < l.top.other) (p : Nat) (sp : St) (hst : l.steps[p]? = some sp) (hop : l.top.opener = p) (hsp : sp.op = 2) (q a b c d dp t : Int) :
    Calls Tryz.prog 115 #[.pointer (some ⟨L, 0, none⟩), .agg #[.int .u8 q, .int .i64 a, .int .i64 b, .int .i64 c, .int .i64 d, .int .i64 dp, .int .i64 t]] w fun e w' => e = .returned (.tuple #[]) ∧
      ∃ vs' vb' vl', LoadIn B w' L s (divideAt l ⟨q, a, b, c, d, dp, t⟩ p sp) vs' vb' vl' ∧ Moves L w vs vb vl w' vs' vb' vl' := by
  have hne : l.blocks ≠ [] := fun e => by rw [e] at hbl; simp at hbl
  obtain ⟨g, cap, init, bb, hvb, hb, htop, hgL, hBg, hgw, hgs2, hgl2, b0, b1, b2, b3, hf⟩ := h.inner hne
  subst hvb
  have hn : l.blocks.length = init.length + 1 := by rw [hb]; simp
  rw [hn] at h ⊢
  have HI : Hid (∀ o, Calls Tryz.prog 168 #[.pointer (some ⟨L, 0, none⟩)] (w.alloc o) fun e w' => e = .returned (.pointer (some ⟨g, init.length * 4, none⟩)) ∧ ∃ k, w' = (w.alloc o).drewN k) := fun o =>
    inner_walk L g init.length cap (w.alloc o) (h.alloc o).c3 (by omega)
  have HA : Hid (∀ o k, Calls Tryz.prog 118 #[.pointer (some ⟨L, 0, none⟩), .agg #[.int .u8 q, .int .i64 a, .int .i64 b, .int .i64 c, .int .i64 d, .int .i64 dp, .int .i64 t]] ((w.alloc o).drewN k) fun e w' => e = .returned (.tuple #[]) ∧
      ∃ vs', LoadIn B w' L s (addStep l ⟨q, a, b, c, d, dp, t⟩) vs' (.slice (some ⟨g, 0, none⟩) (init.length + 1) cap) vl ∧ Moves L w vs (.slice (some ⟨g, 0, none⟩) (init.length + 1) cap) vl w' vs' (.slice (some ⟨g, 0, none⟩) (init.length + 1) cap) vl) := fun o k => by
    refine (add_any ((h.alloc o).drewN k) hne (by omega) (by omega) q a b c d dp t).mono ?_
    rintro e w' ⟨h1, vs', h2, h3⟩
    exact ⟨h1, vs', h2, (Moves.grow L w _ _ _ (World.grownBy_alloc w o none)).trans (Moves.trans (Moves.grow L _ _ _ _ (grown_drewN _ k)) h3)⟩
  obtain ⟨gs, cs, hvs, hgs, hgsL, hgb, hgl, hps, hat, hfr⟩ := h.stepAt hst
  subst hvs
  have HB : Hid ((addStep l ⟨q, a, b, c, d, dp, t⟩).blocks.length = init.length + 1) := (addStep_blocks l _ hne).trans hn
  have HT : Hid ((addStep l ⟨q, a, b, c, d, dp, t⟩).top.opener = p) := by
    show _ = _
    rw [addStep_top]; exact hop
  have HS : Hid ((addStep l ⟨q, a, b, c, d, dp, t⟩).steps[p]? = some sp) := by
    show _ = _
    rw [addStep_steps, List.getElem?_append_left hps]; exact hst
  have HN : Hid ((addStep l ⟨q, a, b, c, d, dp, t⟩).steps.length = l.steps.length + 1) := by
    show _ = _
    rw [addStep_steps]; simp
  have HE : Hid (divideAt l ⟨q, a, b, c, d, dp, t⟩ p sp = divideOf (addStep l ⟨q, a, b, c, d, dp, t⟩) l.steps.length p sp) := rfl
  rw [HE.out]
  clear HE
  generalize addStep l ⟨q, a, b, c, d, dp, t⟩ = l1 at *
  have c2 := h.c2
  have c3 := h.c3
  have hL := h.lt
  have a0 := hat.1
  rw [htop] at hop ho
  rw [hop] at b0
  rw [hsp] at a0
  have n1 : ¬ L = w.heap.size := by omega
  have n2 : ¬ g = w.heap.size := by omega
  have n5 : ¬ gs = w.heap.size := by omega
  have i0 : (0 : Int) ≤ (p : Int) := by omega
  have i1 : (p : Int) < (l.steps.length : Int) := by omega
  have hone : (((init.length : Int) + 1) == 1) = false := by simp; omega
  have ho' : decide (0 < bb.other) = false := by simpa using ho
  have HLN : Hid (init.length ≤ 900000) := by show _ ≤ _; omega
  clear h hf hne hb htop hn hbl hat hfr hst
  generalize l.steps.length = ns at *
  go_enter Tryz.func115, Tryz.ntmps115
  go_wp2_with fail
  refine (HI.out _).mono ?_
  rintro e w1 ⟨rfl, k, rfl⟩
  go_wp2_with fail
  refine wp_quiet_tailN 26 (by kernel_rfl) (by kernel_rfl) ?_
  simp only [List.take_succ_cons, List.take_zero, List.drop_succ_cons, List.drop_zero]
  repeat (go_big_quiet_step (fail))
  refine wpQuiet_nil ?_
  intro _ hw'
  obtain ⟨k2, hw''⟩ := hw'
  subst hw''
  go_wp2_with fail
  refine (HA.out _ _).mono ?_
  rintro e w1 ⟨rfl, vs1, h1, m1⟩
  clear b0 b1 b2 b3 a0 c2 c3 hgs hgsL hgb hgl n5 hgs2
  obtain ⟨gs1, cs1, hvs, hgs, hgsL, hgb, hgl, hps1, hat, hfr⟩ := h1.stepAt HS.out
  subst hvs
  obtain ⟨g', cap', init', b', hvb, hb, htop, _, _, hgw1, hgs2, hgl2, b0, b1, b2, b3, hf⟩ := h1.inner (fun e => by have := HB.out; rw [e] at this; simp at this)
  have hn : l1.blocks.length = init'.length + 1 := by rw [hb]; simp
  have hii : init'.length = init.length := by have := HB.out; omega
  obtain ⟨hg', hcap'⟩ : g' = g ∧ cap' = cap := by
    have := hvb
    simp only [Value.slice.injEq, Option.some.injEq, Addr.mk.injEq] at this
    exact ⟨this.1.1.symm, this.2.2.symm⟩
  subst hg'
  subst hcap'
  clear hvb
  have hop1 : b'.opener = p := by rw [← htop]; exact HT.out
  have HP : Hid (∀ k, LoadIn B (((((w1.setCell ⟨g', init'.length * 4 + 1, none⟩ (.int .i64 ns)).setCell ⟨g', init'.length * 4 + 3, none⟩ (.int .i64 b'.need)).setCell ⟨g', init'.length * 4 + 2, none⟩ (.int .i64 0)).setCell ⟨gs1, p * 7 + 6, none⟩ (.int .i64 l1.steps.length)).drewN k) L s (divideOf l1 ns p sp) (.slice (some ⟨gs1, 0, none⟩) l1.steps.length cs1) (.slice (some ⟨g', 0, none⟩) (init.length + 1) cap') vl ∧
      Moves L w (.slice (some ⟨gs, 0, none⟩) ns cs) (.slice (some ⟨g', 0, none⟩) (init.length + 1) cap') vl (((((w1.setCell ⟨g', init'.length * 4 + 1, none⟩ (.int .i64 ns)).setCell ⟨g', init'.length * 4 + 3, none⟩ (.int .i64 b'.need)).setCell ⟨g', init'.length * 4 + 2, none⟩ (.int .i64 0)).setCell ⟨gs1, p * 7 + 6, none⟩ (.int .i64 l1.steps.length)).drewN k) (.slice (some ⟨gs1, 0, none⟩) l1.steps.length cs1) (.slice (some ⟨g', 0, none⟩) (init.length + 1) cap') vl) := fun k => by
    obtain ⟨h2, m2⟩ := h1.putLast hb (by omega) 1 (.int .i64 ns) ⟨b'.opener, ns, b'.need, b'.before⟩ (by omega) rfl
    obtain ⟨h3, m3⟩ := h2.putLast (init := init') (b := ⟨b'.opener, ns, b'.need, b'.before⟩) rfl (by simp; omega) 3 (.int .i64 b'.need) ⟨b'.opener, ns, b'.need, b'.need⟩ (by omega) rfl
    obtain ⟨h4, m4⟩ := h3.putLast (init := init') (b := ⟨b'.opener, ns, b'.need, b'.need⟩) rfl (by simp; omega) 2 (.int .i64 0) ⟨b'.opener, ns, 0, b'.need⟩ (by omega) rfl
    obtain ⟨h5, m5⟩ := h4.putTo HS.out (l1.steps.length : Int)
    have e1 : l1.blocks.dropLast = init' := by rw [hb]; simp
    unfold divideOf
    rw [e1, htop]
    exact ⟨h5.drewN k, m1.trans (m2.trans (m3.trans (m4.trans (m5.trans (Moves.grow L _ _ _ _ (grown_drewN _ k))))))⟩
  have c2 := h1.c2
  have f1 := hf (init'.length * 4 + 1)
  have f2 := hf (init'.length * 4 + 2)
  have f3 := hf (init'.length * 4 + 3)
  have f6 := hfr (p * 7 + 6)
  have a6 := hat.2.2.2.2.2.2
  have hgg : ¬ gs1 = g' := fun e => hgs2 (by rw [← e]; rfl)
  have hgg' : ¬ g' = gs1 := fun e => hgg e.symm
  have hgL2 : ¬ L = g' := fun e => hgL e.symm
  have hgL3 : ¬ L = gs1 := fun e => hgsL e.symm
  rw [hop1] at b0
  rw [hii] at b0 b1 b2 b3 f1 f2 f3 HP
  rw [HN.out] at HP c2
  clear h1 m1 hb htop hf hfr hat hn HA HB HS HT HI hgs2
  generalize hgn : init.length = n at *
  have HJ : Hid (init.length = n) := hgn
  clear hgn
  have j1 : (p : Int) < ((ns : Int) + 1) := by omega
  have hwr : IntKind.i64.wrap (ns : Int) = (ns : Int) := by rw [IntKind.wrap_i64]; omega
  go_wp2_with fail
  refine wp_quiet_tail 15 (by kernel_rfl) (by kernel_rfl) ?_
  simp only [List.take_succ_cons, List.take_zero, List.drop_succ_cons, List.drop_zero]
  repeat (go_big_quiet_step (fail))
  refine wpQuiet_nil ?_
  intro _ hw'
  obtain ⟨k4, hw''⟩ := hw'
  subst hw''
  go_wp2
  go_end0
  have hm := (HP.out k4).1
  have hv := (HP.out k4).2
  rw [HJ.out]
  exact ⟨rfl, _, _, _, hm, hv⟩
end Go.Proofs.YthllhabjfchgiaaGreatDoor

/- newLoader. -/
namespace Go.Proofs.YthllhabjfchgiaaGreatDoor
open Go.RowKit
open Hx (St Bk Ls In64)
attribute [local go_sem ↓] Go.wp_at_zero Go.wp_at_succ
attribute [local go_sem] setCell_drewN'

theorem heap_two_new (w : World) (o1 o2 : Obj) : ((w.alloc o1).alloc o2).heap[w.heap.size + 1]? = some o2 ∧ ((w.alloc o1).alloc o2).heap[w.heap.size]? = some o1 := by
  have e : (w.alloc o1).heap.size = w.heap.size + 1 := by simp
  constructor
  · rw [← e]; exact heap_alloc_new _ _
  · have h := (World.grownBy_alloc (w.alloc o1) o2 none).block w.heap.size (by rw [e]; omega) (by simp)
    rw [h]; exact heap_alloc_new _ _

set_option maxRecDepth 100000 in
set_option maxHeartbeats 1000000 in
theorem newLoader_any (w : World) (s : ByteArray) :
    Calls Tryz.prog 71 #[.string s] w fun e w' => ∃ L, e = .returned (.pointer (some ⟨L, 0, none⟩)) ∧ w.heap.size ≤ L ∧ w.grownBy w' none ∧
      ∃ g cap, LoadIn w.heap.size w' L s firstLs (.slice none 0 0) (.slice (some ⟨g, 0, none⟩) 1 cap) (.slice none 0 0) := by
  have HP : Hid (∀ o1 o2, o1 = Obj.cells #[.int .i64 0, .int .i64 0, .int .i64 0, .int .i64 0] 226 →
      o2 = Obj.cells #[.string s, .int .i64 0, .slice none 0 0, .slice (some ⟨w.heap.size, 0, none⟩) 1 1, .slice none 0 0, .int .i64 8, .int .i64 0, .bool false] 151 →
      LoadIn w.heap.size ((w.alloc o1).alloc o2) (w.heap.size + 1) s firstLs (.slice none 0 0) (.slice (some ⟨w.heap.size, 0, none⟩) 1 1) (.slice none 0 0)) := by
    intro o1 o2 h1 h2
    obtain ⟨g1, g2⟩ := heap_two_new w o1 o2
    generalize (w.alloc o1).alloc o2 = w2 at *
    subst h1
    subst h2
    have hc : ∀ j, j < 8 → w2.cell? ⟨w.heap.size + 1, j, none⟩ = (#[Value.string s, .int .i64 0, .slice none 0 0, .slice (some ⟨w.heap.size, 0, none⟩) 1 1, .slice none 0 0, .int .i64 8, .int .i64 0, .bool false] : Array Value)[j]? := fun j _ => by
      simp [World.cell?, g1]
    refine ⟨by omega, hc 0 (by omega), hc 1 (by omega), hc 2 (by omega), hc 3 (by omega), hc 4 (by omega), hc 5 (by omega), hc 6 (by omega), hc 7 (by omega), fun j => ?_, ⟨rfl, Or.inl ⟨rfl, rfl⟩⟩, ⟨rfl, Or.inr ⟨_, 1, _, rfl, Nat.le_refl _, g2, Nat.le_refl _, by unfold maxLen; omega, rfl, rfl⟩⟩, ⟨rfl, Or.inl ⟨rfl, rfl⟩⟩, by simp [Value.ownBlock], by simp [Value.ownBlock], by simp [Value.ownBlock], Or.inl rfl, Or.inl rfl, Or.inr (by simp [Value.ownBlock])⟩
    simp [World.frozen?, g1]
  go_enter Tryz.func71, Tryz.ntmps71
  go_wp2
  go_ret
  exact ⟨_, rfl, by omega, (World.grownBy_alloc w _ none).trans (World.grownBy_alloc _ _ none), _, _, HP.out _ _ rfl rfl⟩
end Go.Proofs.YthllhabjfchgiaaGreatDoor

/- (*loader).read, at the end of the code. -/
namespace Go.Proofs.YthllhabjfchgiaaGreatDoor
open Go.RowKit
open Hx (St Bk Ls In64)
attribute [local go_sem ↓] Go.wp_at_zero Go.wp_at_succ
attribute [local go_sem] setCell_drewN'
variable {B : Nat} {w : World} {L : Nat} {s : ByteArray} {l : Ls} {vs vb vl : Value}

set_option maxRecDepth 100000 in
set_option maxHeartbeats 1000000 in
theorem read_end (h : LoadIn B w L s l vs vb vl) (hp : l.pos = s.size) :
    Calls Tryz.prog 112 #[.pointer (some ⟨L, 0, none⟩)] w fun e w' => e = .returned (.tuple #[.agg #[.int .u8 0, .int .i64 0, .int .i64 0, .int .i64 0, .int .i64 0, .int .i64 0, .int .i64 0], .bool false]) ∧ w.grownBy w' none := by
  have c0 := h.c0
  have c1 := h.c1
  have hL := h.lt
  rw [hp] at c1
  have n1 : ¬ L = w.heap.size := by omega
  clear h
  go_enter Tryz.func112, Tryz.ntmps112
  go_wp2_with fail
  refine wp_quiet_tail 9 (by kernel_rfl) (by kernel_rfl) ?_
  simp only [List.take_succ_cons, List.take_zero, List.drop_succ_cons, List.drop_zero]
  repeat (go_big_quiet_step (fail))
  refine wpQuiet_nil ?_
  intro _ hw'
  obtain ⟨k1, hw''⟩ := hw'
  subst hw''
  go_wp2
  refine bodyPost_ret (v := .tuple #[.agg #[.int .u8 0, .int .i64 0, .int .i64 0, .int .i64 0, .int .i64 0, .int .i64 0, .int .i64 0], .bool false]) (by simp [results, Tryz.results112, go_sem]) rfl ?_
  exact ⟨rfl, (World.grownBy_alloc w _ none).trans (grown_drewN _ k1)⟩
end Go.Proofs.YthllhabjfchgiaaGreatDoor

/- PLAIN LAWS: how many are in a set. -/
namespace Go.Proofs.YthllhabjfchgiaaGreatDoor.Hx
open Go.RowKit

/-- how many of the lowest n bits are set -/
def pops : Nat → Nat → Nat
  | 0, _ => 0
  | n + 1, x => x % 2 + pops n (x / 2)

theorem pops_and_le : ∀ (n a b : Nat), pops n (a &&& b) ≤ pops n b
  | 0, _, _ => Nat.le_refl _
  | n + 1, a, b => by
    have h1 : (a &&& b) / 2 = a / 2 &&& b / 2 := Nat.and_div_two
    have h2 : (a &&& b) % 2 = (a % 2) &&& (b % 2) := by
      have := Nat.and_mod_two_pow (a := a) (b := b) (n := 1)
      simpa using this
    have h3 : (a % 2) &&& (b % 2) ≤ b % 2 := Nat.and_le_right
    have := pops_and_le n (a / 2) (b / 2)
    simp only [pops, h1, h2]
    omega

theorem pops_pred : ∀ (n x : Nat), 0 < x → x < 2 ^ n → pops n (x &&& (x - 1)) + 1 = pops n x
  | 0, x, h0, h1 => by simp at h1; omega
  | n + 1, x, h0, h1 => by
    have e1 : (x &&& (x - 1)) / 2 = x / 2 &&& (x - 1) / 2 := Nat.and_div_two
    have e2 : (x &&& (x - 1)) % 2 = (x % 2) &&& ((x - 1) % 2) := by
      have := Nat.and_mod_two_pow (a := x) (b := x - 1) (n := 1)
      simpa using this
    simp only [pops, e1, e2]
    rcases Nat.mod_two_eq_zero_or_one x with h | h
    · have h2 : (x - 1) / 2 = x / 2 - 1 := by omega
      have h3 := pops_pred n (x / 2) (by omega) (by rw [Nat.pow_succ] at h1; omega)
      rw [h2, h]
      simp
      omega
    · have h2 : (x - 1) / 2 = x / 2 := by omega
      have h3 : (x - 1) % 2 = 0 := by omega
      rw [h2, h3, h, Nat.and_self]
      simp
      omega

/-- how many are left -/
def pop (x : Int) : Nat := pops 64 x.toNat

theorem pop_zero : pop 0 = 0 := by decide

theorem pop_less (x : Int) (h0 : 0 ≤ x) (h1 : x < 18446744073709551616) (hx : x ≠ 0) : pop (bits .and .u64 x (IntKind.u64.wrap (x - 1))) + 1 = pop x := by
  have e : IntKind.u64.wrap (x - 1) = x - 1 := by rw [IntKind.wrap_u64]; omega
  rw [e, u64_and x (x - 1) h0 h1 (by omega) (by omega)]
  have h2 : (x - 1).toNat = x.toNat - 1 := by omega
  rw [h2]
  unfold pop
  rw [Int.toNat_natCast]
  exact pops_pred 64 x.toNat (by omega) (by omega)

theorem less_bd (x y : Int) : 0 ≤ bits .and .u64 x y ∧ bits .and .u64 x y < 18446744073709551616 := ⟨bits_lo_u64 _ _ _, by have := bits_hi_u64 .and x y; omega⟩

theorem unsigned_and (a b : Int) : unsigned (bits .and .i64 a b) = (((BitVec.ofInt 64 a).toNat &&& (BitVec.ofInt 64 b).toNat : Nat) : Int) := by
  show IntKind.u64.wrap (IntKind.i64.wrap ((BitVec.ofInt 64 a &&& BitVec.ofInt 64 b).toNat : Int)) = _
  rw [BitVec.toNat_and]
  have h : (BitVec.ofInt 64 a).toNat &&& (BitVec.ofInt 64 b).toNat < 2 ^ 64 := Nat.and_lt_two_pow _ (BitVec.isLt _)
  generalize (BitVec.ofInt 64 a).toNat &&& (BitVec.ofInt 64 b).toNat = X at *
  rw [IntKind.wrap_u64]
  simp only [IntKind.wrap, IntKind.bits, IntKind.signed]
  omega

theorem pops_all (k : Nat) (h : k ≤ 16) : pops 64 (BitVec.ofInt 64 (allOf k)).toNat = k ∧ pops 64 (BitVec.ofInt 64 (wrap64 (allOf k * 65536))).toNat = k := by
  have : ∀ k : Fin 17, pops 64 (BitVec.ofInt 64 (allOf k.1)).toNat = k.1 ∧ pops 64 (BitVec.ofInt 64 (wrap64 (allOf k.1 * 65536))).toNat = k.1 := by decide +kernel
  exact this ⟨k, by omega⟩

/-- a view whose lists are no longer than they may be -/
def Vw.small (v : Vw) : Prop := v.roads.length ≤ 8 ∧ v.fresh.length ≤ 16 ∧ v.again.length ≤ 16

theorem pop_begins (v : Vw) (hv : v.small) (x l : Int) : (pop (unsigned (bits .and .i64 x (v.all l))) : Int) ≤ listSize l := by
  rw [unsigned_and]
  unfold pop
  rw [Int.toNat_natCast]
  have h1 := pops_and_le 64 (BitVec.ofInt 64 x).toNat (BitVec.ofInt 64 (v.all l)).toNat
  have h2 : (pops 64 (BitVec.ofInt 64 (v.all l)).toNat : Int) ≤ listSize l := by
    obtain ⟨a, b, c⟩ := hv
    unfold Vw.all listSize
    by_cases h : l = 0
    · rw [if_pos h, if_pos h, (pops_all _ (by omega)).1]; omega
    · rw [if_neg h, if_neg h]
      by_cases h' : l = 1
      · rw [if_pos h', (pops_all _ b).1]; omega
      · rw [if_neg h', (pops_all _ c).2]; omega
  omega

theorem begins_bd (x y : Int) : 0 ≤ unsigned (bits .and .i64 x y) ∧ unsigned (bits .and .i64 x y) < 18446744073709551616 := unsigned_bd _
end Go.Proofs.YthllhabjfchgiaaGreatDoor.Hx
