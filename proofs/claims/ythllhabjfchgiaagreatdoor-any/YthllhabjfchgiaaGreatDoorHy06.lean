import Derived.Test.YthllhabjfchgiaaGreatDoorHy05
import Derived.Test.YthllhabjfchgiaaGreatDoorHy03
import Derived.Laws.BitsAllLaws
/- (*loader).divide. -/
namespace Go.Proofs.YthllhabjfchgiaaGreatDoor
open Go.RowKit
open Hx (St Bk Ls In64)
attribute [local go_sem ↓] Go.wp_at_zero Go.wp_at_succ
attribute [local go_sem] setCell_drewN'
variable {B : Nat} {w : World} {L : Nat} {s : ByteArray} {l : Ls} {vs vb vl : Value}

theorem bk_set_last (init : List Bk) (b : Bk) (j : Nat) (u : Value) (b' : Bk) (hj : j < 4) (h : (bkCells b).set j u = bkCells b') : ((init ++ [b]).flatMap bkCells).set (init.length * 4 + j) u = (init ++ [b']).flatMap bkCells := by
  simp only [List.flatMap_append, List.flatMap_cons, List.flatMap_nil, List.append_nil]
  rw [List.set_append_right _ _ (by rw [bk_len]; omega), bk_len, show init.length * 4 + j - 4 * init.length = j by omega, h]

/-- a store into the innermost block -/
theorem LoadIn.putLast {g n cap : Nat} (h : LoadIn B w L s l vs (.slice (some ⟨g, 0, none⟩) n cap) vl) {init : List Bk} {b : Bk} (hb : l.blocks = init ++ [b]) (hn : n = l.blocks.length) (j : Nat) (u : Value) (b' : Bk) (hj : j < 4) (hu : (bkCells b).set j u = bkCells b') :
    LoadIn B (w.setCell ⟨g, init.length * 4 + j, none⟩ u) L s { l with blocks := init ++ [b'] } vs (.slice (some ⟨g, 0, none⟩) n cap) vl ∧
    Moves L w vs (.slice (some ⟨g, 0, none⟩) n cap) vl (w.setCell ⟨g, init.length * 4 + j, none⟩ u) vs (.slice (some ⟨g, 0, none⟩) n cap) vl := by
  have hgL : ¬ g = L := fun e => h.nb (by rw [← e]; rfl)
  have hc : ∀ k, (w.setCell ⟨g, init.length * 4 + j, none⟩ u).cell? ⟨L, k, none⟩ = w.cell? ⟨L, k, none⟩ := fun k => World.cell?_setCell_other _ _ _ _ (by intro e; cases e; exact hgL rfl)
  have hrow := h.blocks
  subst hn
  have hst := hrow.stored (init.length * 4 + j) u
  rw [show (l.blocks.flatMap bkCells).set (init.length * 4 + j) u = (init ++ [b']).flatMap bkCells by rw [hb]; exact bk_set_last init b j u b' hj hu] at hst
  have hlen : l.blocks.length = (init ++ [b']).length := by rw [hb]; simp
  refine ⟨⟨h.bL, by rw [hc]; exact h.c0, by rw [hc]; exact h.c1, by rw [hc]; exact h.c2, by rw [hc]; exact h.c3, by rw [hc]; exact h.c4, by rw [hc]; exact h.c5, by rw [hc]; exact h.c6, by rw [hc]; exact h.c7, fun j => by rw [World.frozen?_setCell]; exact h.fr j,
    h.steps.kept hst.2 (by rcases h.sb with e | e
                           · exact Or.inl e
                           · exact Or.inr e), ?_, h.loops.kept hst.2 ?_, h.ns, h.nb, h.nl, h.sb, h.sl, h.bl⟩, ?_⟩
  · have := hst.1
    rw [hlen] at this ⊢
    exact this
  · rcases h.bl with e | e
    · cases e
    · exact Or.inr (fun e' => e e'.symm)
  · exact ⟨rfl, rfl, rfl, by simp, fun k _ _ _ h2 _ => Below.heap_setCell _ _ _ _ (fun e => h2 (by rw [e]; rfl)), fun _ h => Or.inl h, fun _ h => Or.inl h, fun _ h => Or.inl h⟩

set_option maxRecDepth 100000 in
set_option maxHeartbeats 1000000 in
theorem divide_one (h : LoadIn B w L s l vs vb vl) (hbl : l.blocks.length = 1) (q a b c d dp t : Int) :
    Calls Tryz.prog 115 #[.pointer (some ⟨L, 0, none⟩), .agg #[.int .u8 q, .int .i64 a, .int .i64 b, .int .i64 c, .int .i64 d, .int .i64 dp, .int .i64 t]] w fun e w' => e = .returned (.tuple #[]) ∧
      LoadIn B w' L s { l with bad := true } vs vb vl ∧ Moves L w vs vb vl w' vs vb vl := by
  have hne : l.blocks ≠ [] := fun e => by rw [e] at hbl; simp at hbl
  obtain ⟨g, cap, init, bb, hvb, hb, htop, hgL, hBg, hgw, hgs2, hgl2, b0, b1, b2, b3, hf⟩ := h.inner hne
  subst hvb
  have hn : l.blocks.length = init.length + 1 := by rw [hb]; simp
  rw [hn] at h ⊢
  have HI : Hid (∀ o, Calls Tryz.prog 168 #[.pointer (some ⟨L, 0, none⟩)] (w.alloc o) fun e w' => e = .returned (.pointer (some ⟨g, init.length * 4, none⟩)) ∧ ∃ k, w' = (w.alloc o).drewN k) := fun o =>
    inner_walk L g init.length cap (w.alloc o) (h.alloc o).c3 (by omega)
  have HP : Hid (∀ o k, LoadIn B (((w.setCell ⟨L, 7, none⟩ (.bool true)).alloc o).drewN k) L s { l with bad := true } vs (.slice (some ⟨g, 0, none⟩) (init.length + 1) cap) vl ∧
      Moves L w vs (.slice (some ⟨g, 0, none⟩) (init.length + 1) cap) vl (((w.setCell ⟨L, 7, none⟩ (.bool true)).alloc o).drewN k) vs (.slice (some ⟨g, 0, none⟩) (init.length + 1) cap) vl) := fun o k =>
    ⟨(h.putBad.alloc o).drewN k, (Moves.own L w _ _ _ 7 (.bool true)).trans ((Moves.grow L _ _ _ _ (World.grownBy_alloc _ o none)).trans (Moves.grow L _ _ _ _ (grown_drewN _ k)))⟩
  have c3 := h.c3
  have c7 := h.c7
  have f7 := h.fr 7
  have hL := h.lt
  have n1 : ¬ L = w.heap.size := by omega
  have n2 : ¬ g = w.heap.size := by omega
  have hone : (((init.length : Int) + 1) == 1) = true := by simp; omega
  clear h hf hne hb htop hn hbl
  generalize ({ l with bad := true } : Ls) = l2 at *
  generalize init.length = n at *
  go_enter Tryz.func115, Tryz.ntmps115
  go_wp2_with fail
  refine (HI.out _).mono ?_
  rintro e w1 ⟨rfl, k, rfl⟩
  go_wp2_with fail
  refine wp_quiet_tailN 26 (by kernel_rfl) (by kernel_rfl) ?_
  simp only [List.take_succ_cons, List.take_zero, List.drop_succ_cons, List.drop_zero]
  repeat (go_big_quiet_step (fail))
  refine wpQuiet_nil ?_
  intro _ hw'
  obtain ⟨k2, hw''⟩ := hw'
  subst hw''
  go_wp2
  exact bodyPost_ret (v := .tuple #[]) (by simp [results, Tryz.results115, go_sem]) rfl ⟨rfl, HP.out _ _⟩
end Go.Proofs.YthllhabjfchgiaaGreatDoor

/- (*loader).divide, where it may not stand. -/
namespace Go.Proofs.YthllhabjfchgiaaGreatDoor
open Go.RowKit
open Hx (St Bk Ls In64)
attribute [local go_sem ↓] Go.wp_at_zero Go.wp_at_succ
attribute [local go_sem] setCell_drewN'
variable {B : Nat} {w : World} {L : Nat} {s : ByteArray} {l : Ls} {vs vb vl : Value}

set_option maxRecDepth 100000 in
set_option maxHeartbeats 1000000 in
theorem divide_other (h : LoadIn B w L s l vs vb vl) (hbl : 2 ≤ l.blocks.length) (hlb : l.blocks.length ≤ 900000) (ho : 0 < l.top.other) (q a b c d dp t : Int) :
    Calls Tryz.prog 115 #[.pointer (some ⟨L, 0, none⟩), .agg #[.int .u8 q, .int .i64 a, .int .i64 b, .int .i64 c, .int .i64 d, .int .i64 dp, .int .i64 t]] w fun e w' => e = .returned (.tuple #[]) ∧
      LoadIn B w' L s { l with bad := true } vs vb vl ∧ Moves L w vs vb vl w' vs vb vl := by
  have hne : l.blocks ≠ [] := fun e => by rw [e] at hbl; simp at hbl
  obtain ⟨g, cap, init, bb, hvb, hb, htop, hgL, hBg, hgw, hgs2, hgl2, b0, b1, b2, b3, hf⟩ := h.inner hne
  subst hvb
  have hn : l.blocks.length = init.length + 1 := by rw [hb]; simp
  rw [hn] at h ⊢
  have HI : Hid (∀ o, Calls Tryz.prog 168 #[.pointer (some ⟨L, 0, none⟩)] (w.alloc o) fun e w' => e = .returned (.pointer (some ⟨g, init.length * 4, none⟩)) ∧ ∃ k, w' = (w.alloc o).drewN k) := fun o =>
    inner_walk L g init.length cap (w.alloc o) (h.alloc o).c3 (by omega)
  have HP : Hid (∀ o k, LoadIn B (((w.setCell ⟨L, 7, none⟩ (.bool true)).alloc o).drewN k) L s { l with bad := true } vs (.slice (some ⟨g, 0, none⟩) (init.length + 1) cap) vl ∧
      Moves L w vs (.slice (some ⟨g, 0, none⟩) (init.length + 1) cap) vl (((w.setCell ⟨L, 7, none⟩ (.bool true)).alloc o).drewN k) vs (.slice (some ⟨g, 0, none⟩) (init.length + 1) cap) vl) := fun o k =>
    ⟨(h.putBad.alloc o).drewN k, (Moves.own L w _ _ _ 7 (.bool true)).trans ((Moves.grow L _ _ _ _ (World.grownBy_alloc _ o none)).trans (Moves.grow L _ _ _ _ (grown_drewN _ k)))⟩
  have c3 := h.c3
  have c7 := h.c7
  have f7 := h.fr 7
  have hL := h.lt
  have n1 : ¬ L = w.heap.size := by omega
  have n2 : ¬ g = w.heap.size := by omega
  have hone : (((init.length : Int) + 1) == 1) = false := by simp; omega
  rw [htop] at ho
  have ho' : decide (0 < bb.other) = true := by simpa using ho
  clear h hf hne hb htop hn hbl
  generalize ({ l with bad := true } : Ls) = l2 at *
  generalize init.length = n at *
  go_enter Tryz.func115, Tryz.ntmps115
  go_wp2_with fail
  refine (HI.out _).mono ?_
  rintro e w1 ⟨rfl, k, rfl⟩
  go_wp2_with fail
  refine wp_quiet_tailN 26 (by kernel_rfl) (by kernel_rfl) ?_
  simp only [List.take_succ_cons, List.take_zero, List.drop_succ_cons, List.drop_zero]
  repeat (go_big_quiet_step (fail))
  refine wpQuiet_nil ?_
  intro _ hw'
  obtain ⟨k2, hw''⟩ := hw'
  subst hw''
  go_wp2
  exact bodyPost_ret (v := .tuple #[]) (by simp [results, Tryz.results115, go_sem]) rfl ⟨rfl, HP.out _ _⟩

set_option maxRecDepth 100000 in
set_option maxHeartbeats 1000000 in
theorem divide_wrong (h : LoadIn B w L s l vs vb vl) (hbl : 2 ≤ l.blocks.length) (hlb : l.blocks.length ≤ 900000) (ho : ¬ 0 < l.top.other) (p : Nat) (sp : St) (hst : l.steps[p]? = some sp) (hop : l.top.opener = p) (hsp : ¬ sp.op = 2) (q a b c d dp t : Int) :
    Calls Tryz.prog 115 #[.pointer (some ⟨L, 0, none⟩), .agg #[.int .u8 q, .int .i64 a, .int .i64 b, .int .i64 c, .int .i64 d, .int .i64 dp, .int .i64 t]] w fun e w' => e = .returned (.tuple #[]) ∧
      LoadIn B w' L s { l with bad := true } vs vb vl ∧ Moves L w vs vb vl w' vs vb vl := by
  have hne : l.blocks ≠ [] := fun e => by rw [e] at hbl; simp at hbl
  obtain ⟨g, cap, init, bb, hvb, hb, htop, hgL, hBg, hgw, hgs2, hgl2, b0, b1, b2, b3, hf⟩ := h.inner hne
  subst hvb
  have hn : l.blocks.length = init.length + 1 := by rw [hb]; simp
  rw [hn] at h ⊢
  have HI : Hid (∀ o, Calls Tryz.prog 168 #[.pointer (some ⟨L, 0, none⟩)] (w.alloc o) fun e w' => e = .returned (.pointer (some ⟨g, init.length * 4, none⟩)) ∧ ∃ k, w' = (w.alloc o).drewN k) := fun o =>
    inner_walk L g init.length cap (w.alloc o) (h.alloc o).c3 (by omega)
  have HP : Hid (∀ o k, LoadIn B (((w.setCell ⟨L, 7, none⟩ (.bool true)).alloc o).drewN k) L s { l with bad := true } vs (.slice (some ⟨g, 0, none⟩) (init.length + 1) cap) vl ∧
      Moves L w vs (.slice (some ⟨g, 0, none⟩) (init.length + 1) cap) vl (((w.setCell ⟨L, 7, none⟩ (.bool true)).alloc o).drewN k) vs (.slice (some ⟨g, 0, none⟩) (init.length + 1) cap) vl) := fun o k =>
    ⟨(h.putBad.alloc o).drewN k, (Moves.own L w _ _ _ 7 (.bool true)).trans ((Moves.grow L _ _ _ _ (World.grownBy_alloc _ o none)).trans (Moves.grow L _ _ _ _ (grown_drewN _ k)))⟩
  have c3 := h.c3
  have c7 := h.c7
  have f7 := h.fr 7
  have hL := h.lt
  have n1 : ¬ L = w.heap.size := by omega
  have n2 : ¬ g = w.heap.size := by omega
  obtain ⟨gs, cs, hvs, hgs, hgsL, hgb, hgl, hps, hat, hfr⟩ := h.stepAt hst
  subst hvs
  have c2 := h.c2
  have a0 := hat.1
  have n5 : ¬ gs = w.heap.size := by omega
  rw [htop] at hop ho
  rw [hop] at b0
  have i0 : (0 : Int) ≤ (p : Int) := by omega
  have i1 : (p : Int) < (l.steps.length : Int) := by omega
  have hone : (((init.length : Int) + 1) == 1) = false := by simp; omega
  have ho' : decide (0 < bb.other) = false := by simpa using ho
  have hsp' : (sp.op == 2) = false := by simpa using hsp
  clear h hf hne hb htop hn hbl hat hfr
  generalize ({ l with bad := true } : Ls) = l2 at *
  generalize init.length = n at *
  go_enter Tryz.func115, Tryz.ntmps115
  go_wp2_with fail
  refine (HI.out _).mono ?_
  rintro e w1 ⟨rfl, k, rfl⟩
  go_wp2_with fail
  refine wp_quiet_tailN 26 (by kernel_rfl) (by kernel_rfl) ?_
  simp only [List.take_succ_cons, List.take_zero, List.drop_succ_cons, List.drop_zero]
  repeat (go_big_quiet_step (fail))
  refine wpQuiet_nil ?_
  intro _ hw'
  obtain ⟨k2, hw''⟩ := hw'
  subst hw''
  go_wp2
  exact bodyPost_ret (v := .tuple #[]) (by simp [results, Tryz.results115, go_sem]) rfl ⟨rfl, HP.out _ _⟩
end Go.Proofs.YthllhabjfchgiaaGreatDoor

/- (*loader).divide, where it may stand. -/
namespace Go.Proofs.YthllhabjfchgiaaGreatDoor
open Go.RowKit
open Hx (St Bk Ls In64)
attribute [local go_sem ↓] Go.wp_at_zero Go.wp_at_succ
attribute [local go_sem] setCell_drewN'
variable {B : Nat} {w : World} {L : Nat} {s : ByteArray} {l : Ls} {vs vb vl : Value}

set_option maxRecDepth 100000 in
set_option maxHeartbeats 2000000 in
theorem divide_good (h : LoadIn B w L s l vs vb vl) (hbl : 2 ≤ l.blocks.length) (hlb : l.blocks.length ≤ 900000) (hls : l.steps.length ≤ 900000) (ho : ¬ 0 < l.top.other) (p : Nat) (sp : St) (hst : l.steps[p]? = some sp) (hop : l.top.opener = p) (hsp : sp.op = 2) (q a b c d dp t : Int) :
    Calls Tryz.prog 115 #[.pointer (some ⟨L, 0, none⟩), .agg #[.int .u8 q, .int .i64 a, .int .i64 b, .int .i64 c, .int .i64 d, .int .i64 dp, .int .i64 t]] w fun e w' => e = .returned (.tuple #[]) ∧
      ∃ vs' vb' vl', LoadIn B w' L s (divideAt l ⟨q, a, b, c, d, dp, t⟩ p sp) vs' vb' vl' ∧ Moves L w vs vb vl w' vs' vb' vl' := by
  have hne : l.blocks ≠ [] := fun e => by rw [e] at hbl; simp at hbl
  obtain ⟨g, cap, init, bb, hvb, hb, htop, hgL, hBg, hgw, hgs2, hgl2, b0, b1, b2, b3, hf⟩ := h.inner hne
  subst hvb
  have hn : l.blocks.length = init.length + 1 := by rw [hb]; simp
  rw [hn] at h ⊢
  have HI : Hid (∀ o, Calls Tryz.prog 168 #[.pointer (some ⟨L, 0, none⟩)] (w.alloc o) fun e w' => e = .returned (.pointer (some ⟨g, init.length * 4, none⟩)) ∧ ∃ k, w' = (w.alloc o).drewN k) := fun o =>
    inner_walk L g init.length cap (w.alloc o) (h.alloc o).c3 (by omega)
  have HA : Hid (∀ o k, Calls Tryz.prog 118 #[.pointer (some ⟨L, 0, none⟩), .agg #[.int .u8 q, .int .i64 a, .int .i64 b, .int .i64 c, .int .i64 d, .int .i64 dp, .int .i64 t]] ((w.alloc o).drewN k) fun e w' => e = .returned (.tuple #[]) ∧
      ∃ vs', LoadIn B w' L s (addStep l ⟨q, a, b, c, d, dp, t⟩) vs' (.slice (some ⟨g, 0, none⟩) (init.length + 1) cap) vl ∧ Moves L w vs (.slice (some ⟨g, 0, none⟩) (init.length + 1) cap) vl w' vs' (.slice (some ⟨g, 0, none⟩) (init.length + 1) cap) vl) := fun o k => by
    refine (add_any ((h.alloc o).drewN k) hne (by omega) (by omega) q a b c d dp t).mono ?_
    rintro e w' ⟨h1, vs', h2, h3⟩
    exact ⟨h1, vs', h2, (Moves.grow L w _ _ _ (World.grownBy_alloc w o none)).trans (Moves.trans (Moves.grow L _ _ _ _ (grown_drewN _ k)) h3)⟩
  obtain ⟨gs, cs, hvs, hgs, hgsL, hgb, hgl, hps, hat, hfr⟩ := h.stepAt hst
  subst hvs
  have HB : Hid ((addStep l ⟨q, a, b, c, d, dp, t⟩).blocks.length = init.length + 1) := (addStep_blocks l _ hne).trans hn
  have HT : Hid ((addStep l ⟨q, a, b, c, d, dp, t⟩).top.opener = p) := by
    show _ = _
    rw [addStep_top]; exact hop
  have HS : Hid ((addStep l ⟨q, a, b, c, d, dp, t⟩).steps[p]? = some sp) := by
    show _ = _
    rw [addStep_steps, List.getElem?_append_left hps]; exact hst
  have HN : Hid ((addStep l ⟨q, a, b, c, d, dp, t⟩).steps.length = l.steps.length + 1) := by
    show _ = _
    rw [addStep_steps]; simp
  have HE : Hid (divideAt l ⟨q, a, b, c, d, dp, t⟩ p sp = divideOf (addStep l ⟨q, a, b, c, d, dp, t⟩) l.steps.length p sp) := rfl
  rw [HE.out]
  clear HE
  generalize addStep l ⟨q, a, b, c, d, dp, t⟩ = l1 at *
  have c2 := h.c2
  have c3 := h.c3
  have hL := h.lt
  have a0 := hat.1
  rw [htop] at hop ho
  rw [hop] at b0
  rw [hsp] at a0
  have n1 : ¬ L = w.heap.size := by omega
  have n2 : ¬ g = w.heap.size := by omega
  have n5 : ¬ gs = w.heap.size := by omega
  have i0 : (0 : Int) ≤ (p : Int) := by omega
  have i1 : (p : Int) < (l.steps.length : Int) := by omega
  have hone : (((init.length : Int) + 1) == 1) = false := by simp; omega
  have ho' : decide (0 < bb.other) = false := by simpa using ho
  have HLN : Hid (init.length ≤ 900000) := by show _ ≤ _; omega
  clear h hf hne hb htop hn hbl hat hfr hst
  generalize l.steps.length = ns at *
  go_enter Tryz.func115, Tryz.ntmps115
  go_wp2_with fail
  refine (HI.out _).mono ?_
  rintro e w1 ⟨rfl, k, rfl⟩
  go_wp2_with fail
  refine wp_quiet_tailN 26 (by kernel_rfl) (by kernel_rfl) ?_
  simp only [List.take_succ_cons, List.take_zero, List.drop_succ_cons, List.drop_zero]
  repeat (go_big_quiet_step (fail))
  refine wpQuiet_nil ?_
  intro _ hw'
  obtain ⟨k2, hw''⟩ := hw'
  subst hw''
  go_wp2_with fail
  refine (HA.out _ _).mono ?_
  rintro e w1 ⟨rfl, vs1, h1, m1⟩
  clear b0 b1 b2 b3 a0 c2 c3 hgs hgsL hgb hgl n5 hgs2
  obtain ⟨gs1, cs1, hvs, hgs, hgsL, hgb, hgl, hps1, hat, hfr⟩ := h1.stepAt HS.out
  subst hvs
  obtain ⟨g', cap', init', b', hvb, hb, htop, _, _, hgw1, hgs2, hgl2, b0, b1, b2, b3, hf⟩ := h1.inner (fun e => by have := HB.out; rw [e] at this; simp at this)
  have hn : l1.blocks.length = init'.length + 1 := by rw [hb]; simp
  have hii : init'.length = init.length := by have := HB.out; omega
  obtain ⟨hg', hcap'⟩ : g' = g ∧ cap' = cap := by
    have := hvb
    simp only [Value.slice.injEq, Option.some.injEq, Addr.mk.injEq] at this
    exact ⟨this.1.1.symm, this.2.2.symm⟩
  subst hg'
  subst hcap'
  clear hvb
  have hop1 : b'.opener = p := by rw [← htop]; exact HT.out
  have HP : Hid (∀ k, LoadIn B (((((w1.setCell ⟨g', init'.length * 4 + 1, none⟩ (.int .i64 ns)).setCell ⟨g', init'.length * 4 + 3, none⟩ (.int .i64 b'.need)).setCell ⟨g', init'.length * 4 + 2, none⟩ (.int .i64 0)).setCell ⟨gs1, p * 7 + 6, none⟩ (.int .i64 l1.steps.length)).drewN k) L s (divideOf l1 ns p sp) (.slice (some ⟨gs1, 0, none⟩) l1.steps.length cs1) (.slice (some ⟨g', 0, none⟩) (init.length + 1) cap') vl ∧
      Moves L w (.slice (some ⟨gs, 0, none⟩) ns cs) (.slice (some ⟨g', 0, none⟩) (init.length + 1) cap') vl (((((w1.setCell ⟨g', init'.length * 4 + 1, none⟩ (.int .i64 ns)).setCell ⟨g', init'.length * 4 + 3, none⟩ (.int .i64 b'.need)).setCell ⟨g', init'.length * 4 + 2, none⟩ (.int .i64 0)).setCell ⟨gs1, p * 7 + 6, none⟩ (.int .i64 l1.steps.length)).drewN k) (.slice (some ⟨gs1, 0, none⟩) l1.steps.length cs1) (.slice (some ⟨g', 0, none⟩) (init.length + 1) cap') vl) := fun k => by
    obtain ⟨h2, m2⟩ := h1.putLast hb (by omega) 1 (.int .i64 ns) ⟨b'.opener, ns, b'.need, b'.before⟩ (by omega) rfl
    obtain ⟨h3, m3⟩ := h2.putLast (init := init') (b := ⟨b'.opener, ns, b'.need, b'.before⟩) rfl (by simp; omega) 3 (.int .i64 b'.need) ⟨b'.opener, ns, b'.need, b'.need⟩ (by omega) rfl
    obtain ⟨h4, m4⟩ := h3.putLast (init := init') (b := ⟨b'.opener, ns, b'.need, b'.need⟩) rfl (by simp; omega) 2 (.int .i64 0) ⟨b'.opener, ns, 0, b'.need⟩ (by omega) rfl
    obtain ⟨h5, m5⟩ := h4.putTo HS.out (l1.steps.length : Int)
    have e1 : l1.blocks.dropLast = init' := by rw [hb]; simp
    unfold divideOf
    rw [e1, htop]
    exact ⟨h5.drewN k, m1.trans (m2.trans (m3.trans (m4.trans (m5.trans (Moves.grow L _ _ _ _ (grown_drewN _ k))))))⟩
  have c2 := h1.c2
  have f1 := hf (init'.length * 4 + 1)
  have f2 := hf (init'.length * 4 + 2)
  have f3 := hf (init'.length * 4 + 3)
  have f6 := hfr (p * 7 + 6)
  have a6 := hat.2.2.2.2.2.2
  have hgg : ¬ gs1 = g' := fun e => hgs2 (by rw [← e]; rfl)
  have hgg' : ¬ g' = gs1 := fun e => hgg e.symm
  have hgL2 : ¬ L = g' := fun e => hgL e.symm
  have hgL3 : ¬ L = gs1 := fun e => hgsL e.symm
  rw [hop1] at b0
  rw [hii] at b0 b1 b2 b3 f1 f2 f3 HP
  rw [HN.out] at HP c2
  clear h1 m1 hb htop hf hfr hat hn HA HB HS HT HI hgs2
  generalize hgn : init.length = n at *
  have HJ : Hid (init.length = n) := hgn
  clear hgn
  have j1 : (p : Int) < ((ns : Int) + 1) := by omega
  have hwr : IntKind.i64.wrap (ns : Int) = (ns : Int) := by rw [IntKind.wrap_i64]; omega
  go_wp2_with fail
  refine wp_quiet_tail 15 (by kernel_rfl) (by kernel_rfl) ?_
  simp only [List.take_succ_cons, List.take_zero, List.drop_succ_cons, List.drop_zero]
  repeat (go_big_quiet_step (fail))
  refine wpQuiet_nil ?_
  intro _ hw'
  obtain ⟨k4, hw''⟩ := hw'
  subst hw''
  go_wp2
  go_end0
  have hm := (HP.out k4).1
  have hv := (HP.out k4).2
  rw [HJ.out]
  exact ⟨rfl, _, _, _, hm, hv⟩
end Go.Proofs.YthllhabjfchgiaaGreatDoor

/- newLoader. -/
namespace Go.Proofs.YthllhabjfchgiaaGreatDoor
open Go.RowKit
open Hx (St Bk Ls In64)
attribute [local go_sem ↓] Go.wp_at_zero Go.wp_at_succ
attribute [local go_sem] setCell_drewN'

theorem heap_two_new (w : World) (o1 o2 : Obj) : ((w.alloc o1).alloc o2).heap[w.heap.size + 1]? = some o2 ∧ ((w.alloc o1).alloc o2).heap[w.heap.size]? = some o1 := by
  have e : (w.alloc o1).heap.size = w.heap.size + 1 := by simp
  constructor
  · rw [← e]; exact heap_alloc_new _ _
  · have h := (World.grownBy_alloc (w.alloc o1) o2 none).block w.heap.size (by rw [e]; omega) (by simp)
    rw [h]; exact heap_alloc_new _ _

set_option maxRecDepth 100000 in
set_option maxHeartbeats 1000000 in
theorem newLoader_any (w : World) (s : ByteArray) :
    Calls Tryz.prog 71 #[.string s] w fun e w' => ∃ L, e = .returned (.pointer (some ⟨L, 0, none⟩)) ∧ w.heap.size ≤ L ∧ w.grownBy w' none ∧
      ∃ g cap, LoadIn w.heap.size w' L s firstLs (.slice none 0 0) (.slice (some ⟨g, 0, none⟩) 1 cap) (.slice none 0 0) := by
  have HP : Hid (∀ o1 o2, o1 = Obj.cells #[.int .i64 0, .int .i64 0, .int .i64 0, .int .i64 0] 226 →
      o2 = Obj.cells #[.string s, .int .i64 0, .slice none 0 0, .slice (some ⟨w.heap.size, 0, none⟩) 1 1, .slice none 0 0, .int .i64 8, .int .i64 0, .bool false] 151 →
      LoadIn w.heap.size ((w.alloc o1).alloc o2) (w.heap.size + 1) s firstLs (.slice none 0 0) (.slice (some ⟨w.heap.size, 0, none⟩) 1 1) (.slice none 0 0)) := by
    intro o1 o2 h1 h2
    obtain ⟨g1, g2⟩ := heap_two_new w o1 o2
    generalize (w.alloc o1).alloc o2 = w2 at *
    subst h1
    subst h2
    have hc : ∀ j, j < 8 → w2.cell? ⟨w.heap.size + 1, j, none⟩ = (#[Value.string s, .int .i64 0, .slice none 0 0, .slice (some ⟨w.heap.size, 0, none⟩) 1 1, .slice none 0 0, .int .i64 8, .int .i64 0, .bool false] : Array Value)[j]? := fun j _ => by
      simp [World.cell?, g1]
    refine ⟨by omega, hc 0 (by omega), hc 1 (by omega), hc 2 (by omega), hc 3 (by omega), hc 4 (by omega), hc 5 (by omega), hc 6 (by omega), hc 7 (by omega), fun j => ?_, ⟨rfl, Or.inl ⟨rfl, rfl⟩⟩, ⟨rfl, Or.inr ⟨_, 1, _, rfl, Nat.le_refl _, g2, Nat.le_refl _, by unfold maxLen; omega, rfl, rfl⟩⟩, ⟨rfl, Or.inl ⟨rfl, rfl⟩⟩, by simp [Value.ownBlock], by simp [Value.ownBlock], by simp [Value.ownBlock], Or.inl rfl, Or.inl rfl, Or.inr (by simp [Value.ownBlock])⟩
    simp [World.frozen?, g1]
  go_enter Tryz.func71, Tryz.ntmps71
  go_wp2
  go_ret
  exact ⟨_, rfl, by omega, (World.grownBy_alloc w _ none).trans (World.grownBy_alloc _ _ none), _, _, HP.out _ _ rfl rfl⟩
end Go.Proofs.YthllhabjfchgiaaGreatDoor

/- (*loader).read, at the end of the code. -/
namespace Go.Proofs.YthllhabjfchgiaaGreatDoor
open Go.RowKit
open Hx (St Bk Ls In64)
attribute [local go_sem ↓] Go.wp_at_zero Go.wp_at_succ
attribute [local go_sem] setCell_drewN'
variable {B : Nat} {w : World} {L : Nat} {s : ByteArray} {l : Ls} {vs vb vl : Value}

set_option maxRecDepth 100000 in
set_option maxHeartbeats 1000000 in
theorem read_end (h : LoadIn B w L s l vs vb vl) (hp : l.pos = s.size) :
    Calls Tryz.prog 112 #[.pointer (some ⟨L, 0, none⟩)] w fun e w' => e = .returned (.tuple #[.agg #[.int .u8 0, .int .i64 0, .int .i64 0, .int .i64 0, .int .i64 0, .int .i64 0, .int .i64 0], .bool false]) ∧ w.grownBy w' none := by
  have c0 := h.c0
  have c1 := h.c1
  have hL := h.lt
  rw [hp] at c1
  have n1 : ¬ L = w.heap.size := by omega
  clear h
  go_enter Tryz.func112, Tryz.ntmps112
  go_wp2_with fail
  refine wp_quiet_tail 9 (by kernel_rfl) (by kernel_rfl) ?_
  simp only [List.take_succ_cons, List.take_zero, List.drop_succ_cons, List.drop_zero]
  repeat (go_big_quiet_step (fail))
  refine wpQuiet_nil ?_
  intro _ hw'
  obtain ⟨k1, hw''⟩ := hw'
  subst hw''
  go_wp2
  refine bodyPost_ret (v := .tuple #[.agg #[.int .u8 0, .int .i64 0, .int .i64 0, .int .i64 0, .int .i64 0, .int .i64 0, .int .i64 0], .bool false]) (by simp [results, Tryz.results112, go_sem]) rfl ?_
  exact ⟨rfl, (World.grownBy_alloc w _ none).trans (grown_drewN _ k1)⟩
end Go.Proofs.YthllhabjfchgiaaGreatDoor

/- PLAIN LAWS: how many are in a set. -/
namespace Go.Proofs.YthllhabjfchgiaaGreatDoor.Hx
open Go.RowKit

/-- how many of the lowest n bits are set -/
def pops : Nat → Nat → Nat
  | 0, _ => 0
  | n + 1, x => x % 2 + pops n (x / 2)

theorem pops_and_le : ∀ (n a b : Nat), pops n (a &&& b) ≤ pops n b
  | 0, _, _ => Nat.le_refl _
  | n + 1, a, b => by
    have h1 : (a &&& b) / 2 = a / 2 &&& b / 2 := Nat.and_div_two
    have h2 : (a &&& b) % 2 = (a % 2) &&& (b % 2) := by
      have := Nat.and_mod_two_pow (a := a) (b := b) (n := 1)
      simpa using this
    have h3 : (a % 2) &&& (b % 2) ≤ b % 2 := Nat.and_le_right
    have := pops_and_le n (a / 2) (b / 2)
    simp only [pops, h1, h2]
    omega

theorem pops_pred : ∀ (n x : Nat), 0 < x → x < 2 ^ n → pops n (x &&& (x - 1)) + 1 = pops n x
  | 0, x, h0, h1 => by simp at h1; omega
  | n + 1, x, h0, h1 => by
    have e1 : (x &&& (x - 1)) / 2 = x / 2 &&& (x - 1) / 2 := Nat.and_div_two
    have e2 : (x &&& (x - 1)) % 2 = (x % 2) &&& ((x - 1) % 2) := by
      have := Nat.and_mod_two_pow (a := x) (b := x - 1) (n := 1)
      simpa using this
    simp only [pops, e1, e2]
    rcases Nat.mod_two_eq_zero_or_one x with h | h
    · have h2 : (x - 1) / 2 = x / 2 - 1 := by omega
      have h3 := pops_pred n (x / 2) (by omega) (by rw [Nat.pow_succ] at h1; omega)
      rw [h2, h]
      simp
      omega
    · have h2 : (x - 1) / 2 = x / 2 := by omega
      have h3 : (x - 1) % 2 = 0 := by omega
      rw [h2, h3, h, Nat.and_self]
      simp
      omega

/-- how many are left -/
def pop (x : Int) : Nat := pops 64 x.toNat

theorem pop_zero : pop 0 = 0 := by decide

theorem pop_less (x : Int) (h0 : 0 ≤ x) (h1 : x < 18446744073709551616) (hx : x ≠ 0) : pop (bits .and .u64 x (IntKind.u64.wrap (x - 1))) + 1 = pop x := by
  have e : IntKind.u64.wrap (x - 1) = x - 1 := by rw [IntKind.wrap_u64]; omega
  rw [e, u64_and x (x - 1) h0 h1 (by omega) (by omega)]
  have h2 : (x - 1).toNat = x.toNat - 1 := by omega
  rw [h2]
  unfold pop
  rw [Int.toNat_natCast]
  exact pops_pred 64 x.toNat (by omega) (by omega)

theorem less_bd (x y : Int) : 0 ≤ bits .and .u64 x y ∧ bits .and .u64 x y < 18446744073709551616 := ⟨bits_lo_u64 _ _ _, by have := bits_hi_u64 .and x y; omega⟩

theorem unsigned_and (a b : Int) : unsigned (bits .and .i64 a b) = (((BitVec.ofInt 64 a).toNat &&& (BitVec.ofInt 64 b).toNat : Nat) : Int) := by
  show IntKind.u64.wrap (IntKind.i64.wrap ((BitVec.ofInt 64 a &&& BitVec.ofInt 64 b).toNat : Int)) = _
  rw [BitVec.toNat_and]
  have h : (BitVec.ofInt 64 a).toNat &&& (BitVec.ofInt 64 b).toNat < 2 ^ 64 := Nat.and_lt_two_pow _ (BitVec.isLt _)
  generalize (BitVec.ofInt 64 a).toNat &&& (BitVec.ofInt 64 b).toNat = X at *
  rw [IntKind.wrap_u64]
  simp only [IntKind.wrap, IntKind.bits, IntKind.signed]
  omega

theorem pops_all (k : Nat) (h : k ≤ 16) : pops 64 (BitVec.ofInt 64 (allOf k)).toNat = k ∧ pops 64 (BitVec.ofInt 64 (wrap64 (allOf k * 65536))).toNat = k := by
  have : ∀ k : Fin 17, pops 64 (BitVec.ofInt 64 (allOf k.1)).toNat = k.1 ∧ pops 64 (BitVec.ofInt 64 (wrap64 (allOf k.1 * 65536))).toNat = k.1 := by decide +kernel
  exact this ⟨k, by omega⟩

/-- a view whose lists are no longer than they may be -/
def Vw.small (v : Vw) : Prop := v.roads.length ≤ 8 ∧ v.fresh.length ≤ 16 ∧ v.again.length ≤ 16

theorem pop_begins (v : Vw) (hv : v.small) (x l : Int) : (pop (unsigned (bits .and .i64 x (v.all l))) : Int) ≤ listSize l := by
  rw [unsigned_and]
  unfold pop
  rw [Int.toNat_natCast]
  have h1 := pops_and_le 64 (BitVec.ofInt 64 x).toNat (BitVec.ofInt 64 (v.all l)).toNat
  have h2 : (pops 64 (BitVec.ofInt 64 (v.all l)).toNat : Int) ≤ listSize l := by
    obtain ⟨a, b, c⟩ := hv
    unfold Vw.all listSize
    by_cases h : l = 0
    · rw [if_pos h, if_pos h, (pops_all _ (by omega)).1]; omega
    · rw [if_neg h, if_neg h]
      by_cases h' : l = 1
      · rw [if_pos h', (pops_all _ b).1]; omega
      · rw [if_neg h', (pops_all _ c).2]; omega
  omega

theorem begins_bd (x y : Int) : 0 ≤ unsigned (bits .and .i64 x y) ∧ unsigned (bits .and .i64 x y) < 18446744073709551616 := unsigned_bd _
end Go.Proofs.YthllhabjfchgiaaGreatDoor.Hx

/- PLAIN LAWS: how many steps a run takes at most. -/
namespace Go.Proofs.YthllhabjfchgiaaGreatDoor.Hx
open Go.RowKit

/-- how many steps it takes at most from step k on, up to the next turn of the loop around it -/
def costOf (S : List St) : Nat → Nat → Nat
  | 0, _ => 0
  | f + 1, k => match S[k]? with
    | none => 0
    | some s =>
      if s.op = 0 ∨ s.op = 1 then 1
      else if s.op = 2 then 1 + max (costOf S f (k + 1)) (costOf S f s.to.toNat)
      else if s.op = 3 then 1 + costOf S f s.to.toNat
      else if s.op = 4 then 1 + (listSize s.a).toNat * costOf S f (k + 1) + costOf S f s.to.toNat
      else 1 + costOf S f (k + 1)

def cost (S : List St) (k : Nat) : Nat := costOf S (S.length - k) k

/-- what leads on leads ahead -/
def Ahead (S : List St) : Prop := ∀ (k : Nat) (s : St), S[k]? = some s → (s.op = 2 ∨ s.op = 3 ∨ s.op = 4) → k < s.to.toNat

theorem costOf_end (S : List St) (f k : Nat) (h : S.length ≤ k) : costOf S f k = 0 := by
  cases f with
  | zero => rfl
  | succ f => simp only [costOf, List.getElem?_eq_none h]

theorem costOf_eq {S : List St} (hS : Ahead S) : ∀ (f g k : Nat), S.length - k ≤ f → S.length - k ≤ g → costOf S f k = costOf S g k
  | 0, g, k, h1, _ => by rw [costOf_end S g k (by omega), costOf_end S 0 k (by omega)]
  | f + 1, 0, k, _, h2 => by rw [costOf_end S _ k (by omega), costOf_end S 0 k (by omega)]
  | f + 1, g + 1, k, h1, h2 => by
    cases hk : S[k]? with
    | none => simp only [costOf, hk]
    | some s =>
      have e1 := costOf_eq hS f g (k + 1) (by omega) (by omega)
      simp only [costOf, hk]
      by_cases hj : s.op = 2 ∨ s.op = 3 ∨ s.op = 4
      · have := hS k s hk hj
        rw [e1, costOf_eq hS f g s.to.toNat (by omega) (by omega)]
      · have h2 : ¬ s.op = 2 := fun e => hj (Or.inl e)
        have h3 : ¬ s.op = 3 := fun e => hj (Or.inr (Or.inl e))
        have h4 : ¬ s.op = 4 := fun e => hj (Or.inr (Or.inr e))
        simp only [if_neg h2, if_neg h3, if_neg h4, e1]

theorem cost_at {S : List St} (hS : Ahead S) {k : Nat} {s : St} (hk : S[k]? = some s) : cost S k =
    if s.op = 0 ∨ s.op = 1 then 1
    else if s.op = 2 then 1 + max (cost S (k + 1)) (cost S s.to.toNat)
    else if s.op = 3 then 1 + cost S s.to.toNat
    else if s.op = 4 then 1 + (listSize s.a).toNat * cost S (k + 1) + cost S s.to.toNat
    else 1 + cost S (k + 1) := by
  have hlt : k < S.length := by
    rcases Nat.lt_or_ge k S.length with h | h
    · exact h
    · rw [List.getElem?_eq_none h] at hk; cases hk
  obtain ⟨f, hf⟩ : ∃ f, S.length - k = f + 1 := ⟨S.length - k - 1, by omega⟩
  have e1 : costOf S f (k + 1) = cost S (k + 1) := costOf_eq hS _ _ _ (by omega) (Nat.le_refl _)
  unfold cost at *
  rw [hf]
  simp only [costOf, hk, e1]
  by_cases hj : s.op = 2 ∨ s.op = 3 ∨ s.op = 4
  · have := hS k s hk hj
    rw [costOf_eq hS f (S.length - s.to.toNat) s.to.toNat (by omega) (Nat.le_refl _)]
  · have h2 : ¬ s.op = 2 := fun e => hj (Or.inl e)
    have h3 : ¬ s.op = 3 := fun e => hj (Or.inr (Or.inl e))
    have h4 : ¬ s.op = 4 := fun e => hj (Or.inr (Or.inr e))
    simp only [if_neg h2, if_neg h3, if_neg h4]

theorem cost_pos {S : List St} (hS : Ahead S) {k : Nat} {s : St} (hk : S[k]? = some s) : 1 ≤ cost S k := by
  rw [cost_at hS hk]
  repeat' split
  all_goals omega

/-- the loops that are open ahead of step k, the innermost first -/
def stk (S : List St) : Nat → List Nat
  | 0 => []
  | k + 1 => match S[k]? with
    | none => stk S k
    | some s => if s.op = 4 then k :: stk S k else if s.op = 0 then (stk S k).tail else stk S k

theorem stk_cons (S : List St) (k : Nat) : ∀ (p : Nat) (r : List Nat), stk S k = p :: r → ∃ s, S[p]? = some s ∧ s.op = 4 ∧ r = stk S p ∧ p < k := by
  induction k using Nat.strongRecOn with
  | _ k ih =>
    intro p r h
    cases k with
    | zero => cases h
    | succ k =>
      simp only [stk] at h
      cases hk : S[k]? with
      | none =>
        rw [hk] at h
        obtain ⟨s, h1, h2, h3, h4⟩ := ih k (by omega) p r h
        exact ⟨s, h1, h2, h3, by omega⟩
      | some s =>
        rw [hk] at h
        simp only at h
        by_cases h4 : s.op = 4
        · rw [if_pos h4] at h
          cases h
          exact ⟨s, hk, h4, rfl, by omega⟩
        · rw [if_neg h4] at h
          by_cases h0 : s.op = 0
          · rw [if_pos h0] at h
            cases hq : stk S k with
            | nil => rw [hq] at h; cases h
            | cons q t =>
              rw [hq] at h
              obtain ⟨s', h1, h2, h3, h5⟩ := ih k (by omega) q t hq
              rw [List.tail_cons, h3] at h
              obtain ⟨s2, g1, g2, g3, g4⟩ := ih q (by omega) p r h
              exact ⟨s2, g1, g2, g3, by omega⟩
          · rw [if_neg h0] at h
            obtain ⟨s', h1, h2, h3, h5⟩ := ih k (by omega) p r h
            exact ⟨s', h1, h2, h3, by omega⟩

/-- what the loops around have still to do -/
def around (S : List St) (left : List Int) : List Nat → Nat
  | [] => 0
  | p :: r => (match S[p]? with | none => 0 | some s => pop (left.getD r.length 0) * cost S (p + 1) + cost S s.to.toNat) + around S left r

theorem around_set (S : List St) (left : List Int) (d : Nat) (x : Int) : ∀ (r : List Nat), r.length ≤ d → around S (left.set d x) r = around S left r
  | [], _ => rfl
  | p :: r, h => by
    have h' : r.length + 1 ≤ d := by simpa using h
    have e : (left.set d x).getD r.length 0 = left.getD r.length 0 := by
      rw [List.getD_eq_getElem?_getD, List.getD_eq_getElem?_getD, List.getElem?_set_ne (by omega)]
    simp only [around, e, around_set S left d x r (by omega)]

def most (S : List St) (m : Mc) (k : Nat) : Nat := cost S k + around S m.left (stk S k)

/-- code whose steps lead where they may -/
structure Sound (S : List St) (n : Nat) : Prop where
  fits : Fits S n
  flow : ∀ (k : Nat) (s : St), S[k]? = some s → (s.op = 2 ∨ s.op = 3 ∨ s.op = 4) → k < s.to.toNat ∧ stk S s.to.toNat = stk S k
  depth : ∀ (k : Nat) (s : St), S[k]? = some s → s.op = 4 → s.depth = (stk S k).length
  back : ∀ (k : Nat) (s : St), S[k]? = some s → (s.op = 0 ∨ s.op = 5) → (stk S k).head? = some s.to.toNat

theorem Sound.ahead {S : List St} {n : Nat} (h : Sound S n) : Ahead S := fun k s hk ho => (h.flow k s hk ho).1

structure LeftOk (m : Mc) : Prop where
  len : m.left.length = 8
  bd : ∀ x ∈ m.left, 0 ≤ x ∧ x < 18446744073709551616

theorem LeftOk.at {m : Mc} (h : LeftOk m) (i : Int) : 0 ≤ m.leftAt i ∧ m.leftAt i < 18446744073709551616 := by
  unfold Mc.leftAt
  rw [List.getD_eq_getElem?_getD]
  cases he : m.left[i.toNat]? with
  | none => simp
  | some x => exact h.bd x (List.mem_of_getElem? he)

theorem LeftOk.put {m : Mc} (h : LeftOk m) (i x : Int) (h0 : 0 ≤ x) (h1 : x < 18446744073709551616) : LeftOk (m.putLeft i x) := by
  refine ⟨by simp [Mc.putLeft, h.len], fun y hy => ?_⟩
  rcases List.mem_or_eq_of_mem_set hy with h2 | h2
  · exact h.bd y h2
  · subst h2; exact ⟨h0, h1⟩

theorem LeftOk.slots {m m' : Mc} (h : LeftOk m) (e : m'.left = m.left) : LeftOk m' := ⟨by rw [e]; exact h.len, by rw [e]; exact h.bd⟩

theorem put_left (m : Mc) (i x : Int) : (m.put i x).left = m.left := rfl

theorem choose_left (s : St) (b : Bool) (m : Mc) : (choose s b m).left = m.left := by
  unfold choose; split <;> rfl

theorem work_left (v : Vw) (s : St) (m : Mc) : (work v s m).left = m.left := by
  unfold work
  repeat' split
  all_goals first | rfl | exact choose_left _ _ _

theorem push_left {v : Vw} {i j : Int} {m m' : Mc} (h : push v i j m = some m') : m'.left = m.left := by
  unfold push at h
  split at h
  · split at h
    · cases h
    · cases h; rfl
  · cases h; rfl

/-- a turn of the loop at p -/
theorem turn_most {S : List St} {n : Nat} (h : Sound S n) {p : Nat} {s : St} (hp : S[p]? = some s) (h4 : s.op = 4) {m : Mc} (hm : LeftOk m) :
    0 ≤ (turn s p m).2 ∧ (turn s p m).2 < S.length ∧ LeftOk (turn s p m).1 ∧
      most S (turn s p m).1 (turn s p m).2.toNat ≤ pop (m.left.getD (stk S p).length 0) * cost S (p + 1) + cost S s.to.toNat + around S m.left (stk S p) := by
  have hd := h.depth p s hp h4
  obtain ⟨f0, f1, f2, f3, f4, f5⟩ := (h.fits.each p s hp).loops h4
  obtain ⟨g1, g2⟩ := h.flow p s hp (Or.inr (Or.inr h4))
  have hnx := (h.fits.each p s hp).next (by omega) (by omega) (by omega)
  have hdn : s.depth.toNat = (stk S p).length := by omega
  have hbd := hm.at s.depth
  unfold turn
  by_cases hz : m.leftAt s.depth = 0
  · rw [if_pos hz]
    refine ⟨f0, f1, hm, ?_⟩
    simp only [most, g2]
    omega
  · rw [if_neg hz]
    have hpop := pop_less (m.leftAt s.depth) hbd.1 hbd.2 hz
    have hlt := less_bd (m.leftAt s.depth) (IntKind.u64.wrap (m.leftAt s.depth - 1))
    have hstk : stk S (p + 1) = p :: stk S p := by
      simp only [stk, hp, if_pos h4]
    have e0 : m.left.getD (stk S p).length 0 = m.leftAt s.depth := by
      unfold Mc.leftAt; rw [hdn]
    generalize bits .and .u64 (m.leftAt s.depth) (IntKind.u64.wrap (m.leftAt s.depth - 1)) = y at *
    refine ⟨by show (0 : Int) ≤ (p : Int) + 1; omega, by show ((p : Int) + 1) < _; omega, (hm.slots (put_left m s.b _)).put _ _ hlt.1 hlt.2, ?_⟩
    show most S _ ((p : Int) + 1).toNat ≤ _
    have e1 : ((p : Int) + 1).toNat = p + 1 := by omega
    rw [e1, e0]
    have ha : ∀ L : List Int, around S L (p :: stk S p) = pop (L.getD (stk S p).length 0) * cost S (p + 1) + cost S s.to.toNat + around S L (stk S p) := fun L => by
      simp only [around, hp]
    unfold most
    rw [hstk, ha]
    have e2 : ((m.put s.b (tz (m.leftAt s.depth))).putLeft s.depth y).left = m.left.set (stk S p).length y := by
      simp [Mc.putLeft, put_left, hdn]
    rw [e2, around_set _ _ _ _ _ (Nat.le_refl _)]
    have e3 : (m.left.set (stk S p).length y).getD (stk S p).length 0 = y := by
      rw [List.getD_eq_getElem?_getD, List.getElem?_set_self (by rw [hm.len]; omega)]
      rfl
    rw [e3, ← hpop, Nat.add_mul]
    omega

/-- a step leaves fewer steps to do -/
theorem step_most {v : Vw} {S : List St} {n : Nat} (h : Sound S n) (hv : v.small) {regs : List Int} {k : Nat} {s : St} (hk : S[k]? = some s) {m : Mc} (hm : LeftOk m) :
    (∀ o, step v S regs k s m = .inl o → o.status ≠ 2) ∧
    (∀ k' m', step v S regs k s m = .inr (k', m') → 0 ≤ k' ∧ k' < S.length ∧ LeftOk m' ∧ most S m' k'.toNat + 1 ≤ most S m k) := by
  have hf := h.fits.each k s hk
  have hc := cost_at h.ahead hk
  have nx : ¬ s.op = 4 → ¬ s.op = 0 → stk S (k + 1) = stk S k := fun a b => by
    simp only [stk, hk, if_neg a, if_neg b]
  have ek : ((k : Int) + 1).toNat = k + 1 := by omega
  -- a turn of the loop around
  have hback : (s.op = 0 ∨ s.op = 5) → ∃ l, S[s.to.toNat]? = some l ∧ l.op = 4 ∧ 0 ≤ s.to ∧ 0 ≤ (turn l s.to m).2 ∧ (turn l s.to m).2 < S.length ∧ LeftOk (turn l s.to m).1 ∧ most S (turn l s.to m).1 (turn l s.to m).2.toNat + 1 ≤ most S m k := by
    intro ho
    have hb := h.back k s hk ho
    have h0 : 0 ≤ s.to := by
      rcases ho with ho | ho
      · obtain ⟨l, h0, _⟩ := hf.ends ho; exact h0
      · obtain ⟨_, l, h0, _⟩ := hf.skips ho; exact h0
    cases hs : stk S k with
    | nil => rw [hs] at hb; cases hb
    | cons p r =>
      rw [hs] at hb
      simp only [List.head?_cons, Option.some.injEq] at hb
      obtain ⟨l, l1, l2, l3, l4⟩ := stk_cons S k p r hs
      obtain ⟨t1, t2, t3, t4⟩ := turn_most h l1 l2 hm
      have hto : s.to = (p : Int) := by omega
      rw [hto]
      refine ⟨l, by simpa using l1, l2, by omega, t1, t2, t3, ?_⟩
      have : most S m k = cost S k + ((pop (m.left.getD r.length 0) * cost S (p + 1) + cost S l.to.toNat) + around S m.left r) := by
        unfold most; rw [hs]; simp only [around, l1]
      have hpos := cost_pos h.ahead hk
      rw [this, l3]
      omega
  unfold step
  by_cases h1 : s.op = 1
  · rw [if_pos h1]
    exact ⟨fun o ho => by cases ho; simp, fun k' m' ho => by cases ho⟩
  rw [if_neg h1]
  by_cases h2 : s.op = 2
  · rw [if_pos h2]
    clear hback
    obtain ⟨_, f1, f2⟩ := hf.ifs h2
    obtain ⟨g1, g2⟩ := h.flow k s hk (Or.inl h2)
    have hn := hf.next h1 (by omega) (by omega)
    rw [if_neg (by omega), if_pos h2] at hc
    refine ⟨fun o ho => (by cases ho), fun k' m' ho => ?_⟩
    cases ho
    refine ⟨by split <;> omega, by split <;> omega, hm, ?_⟩
    unfold most
    rw [hc]
    split
    · rw [g2]; omega
    · rw [ek, nx (by omega) (by omega)]; omega
  rw [if_neg h2]
  by_cases h3 : s.op = 3
  · rw [if_pos h3]
    clear hback
    obtain ⟨f1, f2⟩ := hf.elses h3
    obtain ⟨g1, g2⟩ := h.flow k s hk (Or.inr (Or.inl h3))
    rw [if_neg (by omega), if_neg h2, if_pos h3] at hc
    refine ⟨fun o ho => (by cases ho), fun k' m' ho => ?_⟩
    cases ho
    refine ⟨f1, f2, hm, ?_⟩
    unfold most
    rw [hc, g2]
    omega
  rw [if_neg h3]
  by_cases h4 : s.op = 4
  · rw [if_pos h4]
    clear hback
    rw [if_neg (by omega), if_neg h2, if_neg h3, if_pos h4] at hc
    refine ⟨fun o ho => (by cases ho), fun k' m' ho => ?_⟩
    cases ho
    have hb := begins_bd (m.get s.c) (v.all s.a)
    have hm' : LeftOk (begins v s m) := hm.put _ _ hb.1 hb.2
    obtain ⟨t1, t2, t3, t4⟩ := turn_most h hk h4 hm'
    refine ⟨t1, t2, t3, ?_⟩
    have hd := h.depth k s hk h4
    obtain ⟨_, _, _, _, _, f5⟩ := hf.loops h4
    have hdn : s.depth.toNat = (stk S k).length := by omega
    have e1 : (begins v s m).left = m.left.set (stk S k).length (unsigned (bits .and .i64 (m.get s.c) (v.all s.a))) := by
      simp [begins, Mc.putLeft, hdn]
    rw [e1, around_set _ _ _ _ _ (Nat.le_refl _)] at t4
    have e3 : ∀ y, (m.left.set (stk S k).length y).getD (stk S k).length 0 = y := fun y => by
      rw [List.getD_eq_getElem?_getD, List.getElem?_set_self (by rw [hm.len]; omega)]
      rfl
    rw [e3] at t4
    have hp := pop_begins v hv (m.get s.c) s.a
    have hp2 : pop (unsigned (bits .and .i64 (m.get s.c) (v.all s.a))) ≤ (listSize s.a).toNat := by omega
    have hp3 := Nat.mul_le_mul_right (cost S (k + 1)) hp2
    have : most S m k = cost S k + around S m.left (stk S k) := rfl
    rw [this, hc]
    omega
  rw [if_neg h4]
  by_cases h5 : s.op = 5
  · rw [if_pos h5]
    have hn := hf.next h1 h3 (by omega)
    obtain ⟨l, l1, l2, l3, t1, t2, t3, t4⟩ := hback (Or.inr h5)
    rw [if_neg (by omega), if_neg h2, if_neg h3, if_neg h4] at hc
    rw [l1]
    refine ⟨fun o ho => ?_, fun k' m' ho => ?_⟩
    · split at ho <;> cases ho
    · split at ho
      · cases ho; exact ⟨t1, t2, t3, t4⟩
      · cases ho
        refine ⟨by omega, by omega, hm, ?_⟩
        unfold most
        rw [hc, ek, nx h4 (by omega)]
        omega
  rw [if_neg h5]
  by_cases h0 : s.op = 0
  · rw [if_pos h0]
    obtain ⟨l, l1, l2, l3, t1, t2, t3, t4⟩ := hback (Or.inl h0)
    rw [l1]
    refine ⟨fun o ho => (by cases ho), fun k' m' ho => ?_⟩
    cases ho
    exact ⟨t1, t2, t3, t4⟩
  rw [if_neg h0]
  have hn := hf.next h1 h3 h0
  rw [if_neg (by omega), if_neg h2, if_neg h3, if_neg h4] at hc
  by_cases h36 : s.op = 36
  · rw [if_pos h36]
    cases hpu : push v (m.get s.a) (m.get s.b) m with
    | none => exact ⟨fun o ho => by cases ho; simp, fun k' m' ho => by cases ho⟩
    | some m1 =>
      refine ⟨fun o ho => (by cases ho), fun k' m' ho => ?_⟩
      cases ho
      refine ⟨by omega, by omega, hm.slots (push_left hpu), ?_⟩
      unfold most
      rw [hc, ek, nx h4 h0, push_left hpu]
      omega
  · rw [if_neg h36]
    refine ⟨fun o ho => (by cases ho), fun k' m' ho => ?_⟩
    cases ho
    refine ⟨by omega, by omega, hm.slots (work_left _ _ _), ?_⟩
    unfold most
    rw [hc, ek, nx h4 h0, work_left]
    omega

/-- with as much fuel as that a run ends -/
theorem runs_ends {v : Vw} {S : List St} {n : Nat} (h : Sound S n) (hv : v.small) {regs : List Int} :
    ∀ (f : Nat) (k : Int) (m : Mc), 0 ≤ k → k < S.length → LeftOk m → most S m k.toNat ≤ f → (runs v S regs f k m).status ≠ 2
  | 0, k, m, h0, h1, hm, hf => by
    have hk : S[k.toNat]? = some S[k.toNat] := List.getElem?_eq_getElem (by omega)
    have := cost_pos h.ahead hk
    unfold most at hf
    omega
  | f + 1, k, m, h0, h1, hm, hf => by
    have hk : S[k.toNat]? = some S[k.toNat] := List.getElem?_eq_getElem (by omega)
    obtain ⟨g1, g2⟩ := step_most (regs := regs) h hv hk hm
    simp only [runs, hk]
    cases hs : step v S regs k.toNat S[k.toNat] m with
    | inl o => exact g1 o hs
    | inr p =>
      obtain ⟨k', m'⟩ := p
      obtain ⟨a, b, c, d⟩ := g2 k' m' hs
      exact runs_ends h hv f k' m' a b c (by omega)

/-- more fuel changes nothing -/
theorem runs_more {v : Vw} {S : List St} {regs : List Int} : ∀ (f g : Nat) (k : Int) (m : Mc), f ≤ g → (runs v S regs f k m).status ≠ 2 → runs v S regs g k m = runs v S regs f k m
  | 0, _, _, _, _, h => absurd rfl h
  | f + 1, 0, _, _, hg, _ => by omega
  | f + 1, g + 1, k, m, hg, h => by
    simp only [runs] at h ⊢
    cases hk : S[k.toNat]? with
    | none => rfl
    | some s =>
      rw [hk] at h
      simp only at h ⊢
      cases hs : step v S regs k.toNat s m with
      | inl o => rfl
      | inr p =>
        obtain ⟨k', m'⟩ := p
        rw [hs] at h
        exact runs_more f g k' m' (by omega) h
end Go.Proofs.YthllhabjfchgiaaGreatDoor.Hx
