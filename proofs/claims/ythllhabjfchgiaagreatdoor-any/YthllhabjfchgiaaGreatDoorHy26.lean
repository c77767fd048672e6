import Derived.Test.YthllhabjfchgiaaGreatDoorHy25
/- Package lang: the checker, at the text of lives. -/
namespace Go.Proofs.YthllhabjfchgiaaGreatDoor
open Go.RowKit
open Hx (Tk)
attribute [local go_sem ↓] Go.wp_at_zero Go.wp_at_succ
attribute [local go_sem] setCell_drewN'
variable {w : World} {A S C : Nat} {at' cost kind of n reg : Int} {what base : ByteArray} {u u1 u2 : Value}

def NumAt (w : World) (A : Nat) (at' n : Int) : Prop := w.heap[A]? = some (.cells #[.int .i64 at', .int .i64 1, .int .i64 1, .int .i64 n] 407)
def PushAt (w : World) (A : Nat) (at' : Int) (u1 u2 : Value) : Prop := w.heap[A]? = some (.cells #[.int .i64 at', .int .i64 5, u1, u2] 335)
def StoreAt (w : World) (A : Nat) (at' reg : Int) (u : Value) : Prop := w.heap[A]? = some (.cells #[.int .i64 at', .int .i64 2, .int .i64 reg, u] 329)

theorem asking_sort (A : Nat) (w : World) : (method 576 410 (.pointer (some ⟨A, 0, none⟩)) "helm/lang.sort").run Tryz.prog w = .ok (356, .pointer (some ⟨A, 0, none⟩)) w := by kernel_rfl
theorem number_sort (A : Nat) (w : World) : (method 576 405 (.pointer (some ⟨A, 0, none⟩)) "helm/lang.sort").run Tryz.prog w = .ok (356, .pointer (some ⟨A, 0, none⟩)) w := by kernel_rfl
theorem asking_look (A : Nat) (w : World) : (method 576 410 (.pointer (some ⟨A, 0, none⟩)) "helm/lang.look").run Tryz.prog w = .ok (393, .pointer (some ⟨A, 0, none⟩)) w := by kernel_rfl
theorem number_look (A : Nat) (w : World) : (method 576 405 (.pointer (some ⟨A, 0, none⟩)) "helm/lang.look").run Tryz.prog w = .ok (390, .pointer (some ⟨A, 0, none⟩)) w := by kernel_rfl
theorem pushing_look (A : Nat) (w : World) : (method 576 333 (.pointer (some ⟨A, 0, none⟩)) "helm/lang.look").run Tryz.prog w = .ok (329, .pointer (some ⟨A, 0, none⟩)) w := by kernel_rfl
theorem storing_look (A : Nat) (w : World) : (method 576 327 (.pointer (some ⟨A, 0, none⟩)) "helm/lang.look").run Tryz.prog w = .ok (320, .pointer (some ⟨A, 0, none⟩)) w := by kernel_rfl
theorem pushing_price (A : Nat) (w : World) : (method 576 333 (.pointer (some ⟨A, 0, none⟩)) "helm/lang.price").run Tryz.prog w = .ok (244, .pointer (some ⟨A, 0, none⟩)) w := by kernel_rfl
theorem storing_price (A : Nat) (w : World) : (method 576 327 (.pointer (some ⟨A, 0, none⟩)) "helm/lang.price").run Tryz.prog w = .ok (244, .pointer (some ⟨A, 0, none⟩)) w := by kernel_rfl

theorem sort_at (b : Nat) (c : Int) (h : w.cell? ⟨b, 2, none⟩ = some (.int .i64 c)) : Calls Tryz.prog 356 #[.pointer (some ⟨b, 0, none⟩)] w fun e w' => e = .returned (.int .i64 c) ∧ w' = w := by
  go_enter Tryz.func356, Tryz.ntmps356
  go_wp2
  go_ret
  exact ⟨rfl, rfl⟩

theorem set_plain (h : SetAt w S at' base of) : Calls Tryz.prog 349 #[.pointer (some ⟨C, 0, none⟩), .pointer (some ⟨S, 0, none⟩)] w fun e w' => e = .returned (.tuple #[]) ∧ w' = w := by
  have c4 : w.cell? ⟨S, 4, none⟩ = some (.slice none 0 0) := cell_at h
  clear h
  go_enter Tryz.func349, Tryz.ntmps349
  go_wp2_with fail
  refine wp_loop_rounds 1 ?_
  rw [rounds_succ]
  go_wp2_with fail
  go_end0
  exact ⟨rfl, rfl⟩

theorem ask_look (h : AskAt w A S at' cost kind what) (hS : SetAt w S at' base of) : Calls Tryz.prog 393 #[.pointer (some ⟨A, 0, none⟩), .pointer (some ⟨C, 0, none⟩)] w fun e w' => e = .returned (.tuple #[]) ∧ w' = w := by
  have c4 : w.cell? ⟨A, 4, none⟩ = some (.pointer (some ⟨S, 0, none⟩)) := cell_at h
  have HS : Hid (Calls Tryz.prog 349 #[.pointer (some ⟨C, 0, none⟩), .pointer (some ⟨S, 0, none⟩)] w fun e w' => e = .returned (.tuple #[]) ∧ w' = w) := set_plain hS
  clear h hS
  go_enter Tryz.func393, Tryz.ntmps393
  go_wp2_with fail
  refine HS.out.mono ?_
  rintro e w1 ⟨rfl, rfl⟩
  go_wp2_with fail
  go_end0
  exact ⟨rfl, rfl⟩

theorem num_look (A C : Nat) (w : World) : Calls Tryz.prog 390 #[.pointer (some ⟨A, 0, none⟩), .pointer (some ⟨C, 0, none⟩)] w fun e w' => e = .returned (.tuple #[]) ∧ w' = w := by
  go_enter Tryz.func390, Tryz.ntmps390
  go_wp2_with fail
  go_end0
  exact ⟨rfl, rfl⟩

theorem want_ask (h : AskAt w A S at' cost kind what) : Calls Tryz.prog 317 #[.pointer (some ⟨C, 0, none⟩), .iface 410 (.pointer (some ⟨A, 0, none⟩)), .int .i64 kind] w fun e w' => e = .returned (.tuple #[]) ∧ w' = w := by
  have c2 : w.cell? ⟨A, 2, none⟩ = some (.int .i64 kind) := cell_at h
  have HS : Hid (Calls Tryz.prog 356 #[.pointer (some ⟨A, 0, none⟩)] w fun e w' => e = .returned (.int .i64 kind) ∧ w' = w) := sort_at A kind c2
  have m1 := asking_sort A
  clear h
  go_enter Tryz.func317, Tryz.ntmps317
  go_wp2_with fail
  refine HS.out.mono ?_
  rintro e w1 ⟨rfl, rfl⟩
  go_wp2_with fail
  go_end0
  exact ⟨rfl, rfl⟩

theorem want_num (h : NumAt w A at' n) : Calls Tryz.prog 317 #[.pointer (some ⟨C, 0, none⟩), .iface 405 (.pointer (some ⟨A, 0, none⟩)), .int .i64 1] w fun e w' => e = .returned (.tuple #[]) ∧ w' = w := by
  have c2 : w.cell? ⟨A, 2, none⟩ = some (.int .i64 1) := cell_at h
  have HS : Hid (Calls Tryz.prog 356 #[.pointer (some ⟨A, 0, none⟩)] w fun e w' => e = .returned (.int .i64 1) ∧ w' = w) := sort_at A 1 c2
  have m1 := number_sort A
  clear h
  go_enter Tryz.func317, Tryz.ntmps317
  go_wp2_with fail
  refine HS.out.mono ?_
  rintro e w1 ⟨rfl, rfl⟩
  go_wp2_with fail
  go_end0
  exact ⟨rfl, rfl⟩

set_option maxHeartbeats 1000000 in
theorem push_look {A1 S1 A2 S2 : Nat} {at1 at2 c1 c2 : Int} {what1 what2 base1 base2 : ByteArray} (h : PushAt w A at' (.iface 410 (.pointer (some ⟨A1, 0, none⟩))) (.iface 410 (.pointer (some ⟨A2, 0, none⟩))))
    (a1 : AskAt w A1 S1 at1 c1 3 what1) (s1 : SetAt w S1 at1 base1 3) (a2 : AskAt w A2 S2 at2 c2 4 what2) (s2 : SetAt w S2 at2 base2 4) :
    Calls Tryz.prog 329 #[.pointer (some ⟨A, 0, none⟩), .pointer (some ⟨C, 0, none⟩)] w fun e w' => e = .returned (.tuple #[]) ∧ w' = w := by
  have d1 : w.cell? ⟨A, 2, none⟩ = some (.iface 410 (.pointer (some ⟨A1, 0, none⟩))) := cell_at h
  have d2 : w.cell? ⟨A, 3, none⟩ = some (.iface 410 (.pointer (some ⟨A2, 0, none⟩))) := cell_at h
  have H1 : Hid (Calls Tryz.prog 393 #[.pointer (some ⟨A1, 0, none⟩), .pointer (some ⟨C, 0, none⟩)] w fun e w' => e = .returned (.tuple #[]) ∧ w' = w) := ask_look a1 s1
  have H2 : Hid (Calls Tryz.prog 393 #[.pointer (some ⟨A2, 0, none⟩), .pointer (some ⟨C, 0, none⟩)] w fun e w' => e = .returned (.tuple #[]) ∧ w' = w) := ask_look a2 s2
  have W1 : Hid (Calls Tryz.prog 317 #[.pointer (some ⟨C, 0, none⟩), .iface 410 (.pointer (some ⟨A1, 0, none⟩)), .int .i64 3] w fun e w' => e = .returned (.tuple #[]) ∧ w' = w) := want_ask a1
  have W2 : Hid (Calls Tryz.prog 317 #[.pointer (some ⟨C, 0, none⟩), .iface 410 (.pointer (some ⟨A2, 0, none⟩)), .int .i64 4] w fun e w' => e = .returned (.tuple #[]) ∧ w' = w) := want_ask a2
  have m1 := asking_look A1
  have m2 := asking_look A2
  clear h a1 a2 s1 s2
  go_enter Tryz.func329, Tryz.ntmps329
  go_wp2_with fail
  refine H1.out.mono ?_
  rintro e w1 ⟨rfl, rfl⟩
  go_wp2_with fail
  refine W1.out.mono ?_
  rintro e w1 ⟨rfl, rfl⟩
  go_wp2_with fail
  refine H2.out.mono ?_
  rintro e w1 ⟨rfl, rfl⟩
  go_wp2_with fail
  refine W2.out.mono ?_
  rintro e w1 ⟨rfl, rfl⟩
  go_wp2_with fail
  go_end0
  exact ⟨rfl, rfl⟩

theorem store_look {A1 : Nat} {at1 : Int} (h : StoreAt w A at' reg (.iface 405 (.pointer (some ⟨A1, 0, none⟩)))) (a1 : NumAt w A1 at1 n) :
    Calls Tryz.prog 320 #[.pointer (some ⟨A, 0, none⟩), .pointer (some ⟨C, 0, none⟩)] w fun e w' => e = .returned (.tuple #[]) ∧ w' = w := by
  have d1 : w.cell? ⟨A, 3, none⟩ = some (.iface 405 (.pointer (some ⟨A1, 0, none⟩))) := cell_at h
  have H1 : Hid (Calls Tryz.prog 390 #[.pointer (some ⟨A1, 0, none⟩), .pointer (some ⟨C, 0, none⟩)] w fun e w' => e = .returned (.tuple #[]) ∧ w' = w) := num_look A1 C w
  have W1 : Hid (Calls Tryz.prog 317 #[.pointer (some ⟨C, 0, none⟩), .iface 405 (.pointer (some ⟨A1, 0, none⟩)), .int .i64 1] w fun e w' => e = .returned (.tuple #[]) ∧ w' = w) := want_num a1
  have m1 := number_look A1
  clear h a1
  go_enter Tryz.func320, Tryz.ntmps320
  go_wp2_with fail
  refine H1.out.mono ?_
  rintro e w1 ⟨rfl, rfl⟩
  go_wp2_with fail
  refine W1.out.mono ?_
  rintro e w1 ⟨rfl, rfl⟩
  go_wp2_with fail
  go_end0
  exact ⟨rfl, rfl⟩
end Go.Proofs.YthllhabjfchgiaaGreatDoor

/- Package lang: checked, at the text of lives. -/
namespace Go.Proofs.YthllhabjfchgiaaGreatDoor
open Go.RowKit
open Hx (Tk)
attribute [local go_sem ↓] Go.wp_at_zero Go.wp_at_succ
attribute [local go_sem] setCell_drewN'
variable {w : World}

/-- the program of lives in memory, in blocks below W -/
structure LiveP (w : World) (W g A A1 S1 A2 S2 D N : Nat) : Prop where
  rows : ∃ cur, w.heap[g]? = some (.cells cur 192) ∧ cur[0]? = some (.iface 333 (.pointer (some ⟨A, 0, none⟩))) ∧ cur[1]? = some (.iface 327 (.pointer (some ⟨D, 0, none⟩)))
  push : PushAt w A 0 (.iface 410 (.pointer (some ⟨A1, 0, none⟩))) (.iface 410 (.pointer (some ⟨A2, 0, none⟩)))
  a1 : AskAt w A1 S1 5 2 3 tk4.text
  s1 : SetAt w S1 5 tk2.text 3
  a2 : AskAt w A2 S2 18 2 4 tk8.text
  s2 : SetAt w S2 18 tk6.text 4
  store : StoreAt w D 32 1 (.iface 405 (.pointer (some ⟨N, 0, none⟩)))
  num : NumAt w N 37 2
  bd : g < W ∧ A < W ∧ A1 < W ∧ S1 < W ∧ A2 < W ∧ S2 < W ∧ D < W ∧ N < W

theorem LiveP.keep {w' : World} {W g A A1 S1 A2 S2 D N : Nat} (h : LiveP w W g A A1 S1 A2 S2 D N) (hk : ∀ k, k < W → w'.heap[k]? = w.heap[k]?) : LiveP w' W g A A1 S1 A2 S2 D N := by
  obtain ⟨b1, b2, b3, b4, b5, b6, b7, b8⟩ := h.bd
  obtain ⟨cur, r1, r2⟩ := h.rows
  exact ⟨⟨cur, (hk g b1).trans r1, r2⟩, (hk A b2).trans h.push, (hk A1 b3).trans h.a1, (hk S1 b4).trans h.s1, (hk A2 b5).trans h.a2, (hk S2 b6).trans h.s2, (hk D b7).trans h.store, (hk N b8).trans h.num, h.bd⟩

theorem liveP_of {B : Nat} {v : Value} (h : LiveE w B v) : ∃ g cap A A1 S1 A2 S2 D N, v = .slice (some ⟨g, 0, none⟩) 2 cap ∧ LiveP w w.heap.size g A A1 S1 A2 S2 D N := by
  obtain ⟨B2, u1, u2, h0, h1, ⟨A, x1, x2, rfl, p2, p3, ⟨A1, S1, rfl, a1, a2, a3, a4⟩, ⟨A2, S2, rfl, b1, b2, b3, b4⟩⟩, ⟨D, u, rfl, d2, d3, ⟨N, rfl, n1, n2⟩⟩⟩ := h
  rcases h1.2 with ⟨_, e⟩ | ⟨g, cap, cur, e1, e2, e3, e4, e5, e6, e7⟩
  · cases e
  · have hg := e3
    refine ⟨g, cap, A, A1, S1, A2, S2, D, N, e1, ⟨⟨cur, e3, ?_, ?_⟩, p3, a3, a4, b3, b4, d3, n2, ⟨lt_of_some e3, lt_of_some p3, lt_of_some a3, lt_of_some a4, lt_of_some b3, lt_of_some b4, lt_of_some d3, lt_of_some n2⟩⟩⟩
    · have := congrArg (fun l : List Value => l[0]?) e7
      simpa using this
    · have := congrArg (fun l : List Value => l[1]?) e7
      simpa using this

set_option maxRecDepth 100000 in
set_option maxHeartbeats 1000000 in
theorem block_live {W g cap A A1 S1 A2 S2 D N C : Nat} (h : LiveP w W g A A1 S1 A2 S2 D N) (hC : w.heap[C]? = some (.cells #[.slice none 0 0, .int .i64 0, .int .i64 0] 188)) :
    Calls Tryz.prog 89 #[.pointer (some ⟨C, 0, none⟩), .slice (some ⟨g, 0, none⟩) 2 cap] w fun e w' => e = .returned (.tuple #[]) ∧ w' = w.setCell ⟨C, 0, none⟩ (.slice none 0 0) := by
  obtain ⟨cur, r1, r2, r3⟩ := h.rows
  have g0 : w.cell? ⟨g, 0, none⟩ = some (.iface 333 (.pointer (some ⟨A, 0, none⟩))) := (cell_at r1).trans r2
  have g1 : w.cell? ⟨g, 1, none⟩ = some (.iface 327 (.pointer (some ⟨D, 0, none⟩))) := (cell_at r1).trans r3
  have c0 : w.cell? ⟨C, 0, none⟩ = some (.slice none 0 0) := cell_at hC
  have cf : ∀ j, w.frozen? ⟨C, j, none⟩ = false := fun j => frozen_at hC
  have H1 : Hid (Calls Tryz.prog 329 #[.pointer (some ⟨A, 0, none⟩), .pointer (some ⟨C, 0, none⟩)] w fun e w' => e = .returned (.tuple #[]) ∧ w' = w) := push_look h.push h.a1 h.s1 h.a2 h.s2
  have H2 : Hid (Calls Tryz.prog 320 #[.pointer (some ⟨D, 0, none⟩), .pointer (some ⟨C, 0, none⟩)] w fun e w' => e = .returned (.tuple #[]) ∧ w' = w) := store_look h.store h.num
  have m1 := pushing_look A
  have m2 := storing_look D
  clear h r1 r2 r3 hC
  go_enter Tryz.func89, Tryz.ntmps89
  go_wp2_with fail
  refine wp_loop_rounds 3 ?_
  rw [rounds_succ]
  go_wp2_with fail
  refine H1.out.mono ?_
  rintro e w1 ⟨rfl, rfl⟩
  go_wp2_with fail
  rw [rounds_succ]
  go_wp2_with fail
  refine H2.out.mono ?_
  rintro e w1 ⟨rfl, rfl⟩
  go_wp2_with fail
  rw [rounds_succ]
  go_wp2_with fail
  go_end0
  exact ⟨rfl, rfl⟩

set_option maxRecDepth 100000 in
set_option maxHeartbeats 1000000 in
theorem total_live {W g cap A A1 S1 A2 S2 D N : Nat} (h : LiveP w W g A A1 S1 A2 S2 D N) (hW : W ≤ w.heap.size) :
    Calls Tryz.prog 90 #[.slice (some ⟨g, 0, none⟩) 2 cap] w fun e w' => e = .returned (.int .i64 7) ∧ w.grownBy w' none := by
  obtain ⟨cur, r1, r2, r3⟩ := h.rows
  obtain ⟨b1, b2, b3, b4, b5, b6, b7, b8⟩ := h.bd
  have g0 : w.cell? ⟨g, 0, none⟩ = some (.iface 333 (.pointer (some ⟨A, 0, none⟩))) := (cell_at r1).trans r2
  have g1 : w.cell? ⟨g, 1, none⟩ = some (.iface 327 (.pointer (some ⟨D, 0, none⟩))) := (cell_at r1).trans r3
  have n1 : ¬ g = w.heap.size := by omega
  have n0 : g < w.heap.size := by omega
  have n2 : ¬ g = w.heap.size + 1 := by omega
  have H1 : Hid (Calls Tryz.prog 244 #[.pointer (some ⟨A, 0, none⟩)] w fun e w' => e = .returned (.int .i64 5) ∧ w' = w) := price_at A 0 5 (cell_at h.push)
  have H2 : Hid (∀ o, Calls Tryz.prog 244 #[.pointer (some ⟨D, 0, none⟩)] (w.alloc o) fun e w' => e = .returned (.int .i64 2) ∧ w' = w.alloc o) := fun o => price_at D 0 2 ((World.grownBy_alloc w o none).cell (cell_at h.store) (by simp))
  have m1 := pushing_price A
  have m2 := storing_price D
  have HT1 : Hid (∀ T, Calls Tryz.prog 143 #[.slice (some ⟨w.heap.size, 0, none⟩) 2 2] (w.alloc (.cells #[.int .i64 0, .int .i64 5] T)) fun e w' => e = .returned (.int .i64 5) ∧ w' = w.alloc (.cells #[.int .i64 0, .int .i64 5] T)) := fun T => total_is (xs := [0, 5]) (two_costs w T 0 5 (by omega) (by omega) (by omega) (by omega))
  have HT2 : Hid (∀ o T, Calls Tryz.prog 143 #[.slice (some ⟨w.heap.size + 1, 0, none⟩) 2 2] ((w.alloc o).alloc (.cells #[.int .i64 5, .int .i64 2] T)) fun e w' => e = .returned (.int .i64 7) ∧ w' = (w.alloc o).alloc (.cells #[.int .i64 5, .int .i64 2] T)) := fun o T => by
    have := two_costs (w.alloc o) T 5 2 (by omega) (by omega) (by omega) (by omega)
    rw [show (w.alloc o).heap.size = w.heap.size + 1 by simp] at this
    exact total_is (xs := [5, 2]) this
  have HG : Hid (∀ o1 o2, w.grownBy ((w.alloc o1).alloc o2) none) := fun o1 o2 => (World.grownBy_alloc w _ none).trans (World.grownBy_alloc _ _ none)
  clear h r1 r2 r3
  go_enter Tryz.func90, Tryz.ntmps90
  go_wp2_with fail
  refine wp_loop_rounds 3 ?_
  rw [rounds_succ]
  go_wp2_with fail
  refine H1.out.mono ?_
  rintro e w1 ⟨rfl, rfl⟩
  go_wp2_with fail
  refine (HT1.out _).mono ?_
  rintro e w2 ⟨rfl, rfl⟩
  go_wp2_with fail
  rw [rounds_succ]
  go_wp2_with fail
  refine (H2.out _).mono ?_
  rintro e w2 ⟨rfl, rfl⟩
  go_wp2_with fail
  refine (HT2.out _ _).mono ?_
  rintro e w2 ⟨rfl, rfl⟩
  go_wp2_with fail
  rw [rounds_succ]
  go_wp2_with fail
  go_ret
  exact ⟨rfl, HG.out _ _⟩
end Go.Proofs.YthllhabjfchgiaaGreatDoor

/- Package lang: checked, at the text of lives. -/
namespace Go.Proofs.YthllhabjfchgiaaGreatDoor
open Go.RowKit
open Hx (Tk)
attribute [local go_sem ↓] Go.wp_at_zero Go.wp_at_succ
attribute [local go_sem] setCell_drewN'
variable {w : World}

theorem checked_results (tmps : Array Value) (w : World) (g : Nat) (v : Value) (h2 : tmps[2]? = some v) (h3 : tmps[3]? = some (.pointer (some ⟨g, 0, none⟩))) (q0 : w.cell? ⟨g, 0, none⟩ = some (.int .i64 0)) (q1 : w.cell? ⟨g, 1, none⟩ = some (.int .i64 0)) :
    (results Tryz.f44 tmps).run Tryz.prog w = .ok (.tuple #[v, .agg #[.int .i64 0, .int .i64 0]]) w := by
  simp [results, Tryz.results44, go_sem, h2, h3, q0, q1]

set_option maxRecDepth 100000 in
set_option maxHeartbeats 1000000 in
theorem checked_live (w : World) : Calls Tryz.prog 44 #[.string liveT] w fun e w' => ∃ W g cap A A1 S1 A2 S2 D N, e = .returned (.tuple #[.slice (some ⟨g, 0, none⟩) 2 cap, .agg #[.int .i64 0, .int .i64 0]]) ∧ LiveP w' W g A A1 S1 A2 S2 D N ∧ W ≤ w'.heap.size ∧ w.grownBy w' none := by
  go_enter Tryz.func44, Tryz.ntmps44
  go_wp2_with fail
  refine (live_parse _).mono ?_
  rintro e w1 ⟨v, rfl, e1, g1⟩
  have hf1 : w1.heap[w.heap.size]? = some (.cells #[.int .i64 0, .int .i64 0] 107) := (g1.block _ (by simp) (by simp)).trans (heap_alloc_new w _)
  have gw1 := (World.grownBy_alloc w (.cells #[.int .i64 0, .int .i64 0] 107) none).trans g1
  obtain ⟨g, cap, A, A1, S1, A2, S2, D, N, rfl, hP⟩ := liveP_of e1
  have HG1 : Hid (w.grownBy w1 none ∧ w1.heap[w.heap.size]? = some (.cells #[.int .i64 0, .int .i64 0] 107)) := ⟨gw1, hf1⟩
  have HL1 : Hid (LiveP w1 w1.heap.size g A A1 S1 A2 S2 D N) := hP
  clear e1 g1 hf1 gw1 hP
  -- behind two more blocks
  have H2 : Hid (∀ o2 o, o2 = Obj.cells #[.int .i64 0, .int .i64 0] 107 → o = Obj.cells #[.slice none 0 0, .int .i64 0, .int .i64 0] 188 →
      Calls Tryz.prog 89 #[.pointer (some ⟨w1.heap.size + 1, 0, none⟩), .slice (some ⟨g, 0, none⟩) 2 cap] ((w1.alloc o2).alloc o) fun e w' => e = .returned (.tuple #[]) ∧ LiveP w' w1.heap.size g A A1 S1 A2 S2 D N ∧ w1.grownBy w' none ∧ w'.heap[w1.heap.size + 1]? = some (.cells #[.slice none 0 0, .int .i64 0, .int .i64 0] 188)) := by
    intro o2 o h2 h3
    have hh := heap_two_new w1 o2 o
    have hgr : w1.grownBy ((w1.alloc o2).alloc o) none := (World.grownBy_alloc w1 _ none).trans (World.grownBy_alloc _ _ none)
    have hC : ((w1.alloc o2).alloc o).heap[w1.heap.size + 1]? = some (.cells #[.slice none 0 0, .int .i64 0, .int .i64 0] 188) := by rw [hh.1, h3]
    have hl := HL1.out.keep fun k hk => hgr.block k hk (by simp)
    refine (block_live (cap := cap) hl hC).mono ?_
    rintro e w' ⟨h4, rfl⟩
    refine ⟨h4, hl.keep fun k hk => Below.heap_setCell _ _ _ _ (by show k ≠ w1.heap.size + 1; omega), grown_new hgr (by omega) _ _, ?_⟩
    exact heap_setCell_same _ _ _ _ _ _ hC
  go_wp2_with fail
  refine (H2.out _ _ rfl rfl).mono ?_
  rintro e w2 ⟨rfl, l2, g2, k2⟩
  have d1 : w2.cell? ⟨w1.heap.size + 1, 1, none⟩ = some (.int .i64 0) := cell_at k2
  have HL2 : Hid (LiveP w2 w1.heap.size g A A1 S1 A2 S2 D N ∧ w1.grownBy w2 none) := ⟨l2, g2⟩
  clear l2 g2 k2 H2 HL1
  go_wp2_with fail
  refine (total_live (cap := cap) HL2.out.1 HL2.out.2.size).mono ?_
  rintro e w3 ⟨rfl, g3⟩
  have hf3 : w3.heap[w.heap.size]? = some (.cells #[.int .i64 0, .int .i64 0] 107) := (g3.block _ (by have := HL2.out.2.size; have := lt_of_some HG1.out.2; omega) (by simp)).trans ((HL2.out.2.block _ (lt_of_some HG1.out.2) (by simp)).trans HG1.out.2)
  have r0 : w3.cell? ⟨w.heap.size, 0, none⟩ = some (.int .i64 0) := cell_at hf3
  have r1 : w3.cell? ⟨w.heap.size, 1, none⟩ = some (.int .i64 0) := cell_at hf3
  have rf : ∀ j, w3.frozen? ⟨w.heap.size, j, none⟩ = false := fun j => frozen_at hf3
  have s1 := HG1.out.1.size
  have s2 := HL2.out.2.size
  have s3 := g3.size
  have hlt := lt_of_some HG1.out.2
  have HF : Hid (∀ X, X = (w3.setCell ⟨w.heap.size, 0, none⟩ (.int .i64 0)).setCell ⟨w.heap.size, 1, none⟩ (.int .i64 0) → X.cell? ⟨w.heap.size, 0, none⟩ = some (.int .i64 0) ∧ X.cell? ⟨w.heap.size, 1, none⟩ = some (.int .i64 0) ∧ LiveP X w1.heap.size g A A1 S1 A2 S2 D N ∧ w1.heap.size ≤ X.heap.size ∧ w.grownBy X none) := by
    intro X hX
    subst hX
    have h0 : (w3.setCell ⟨w.heap.size, 0, none⟩ (.int .i64 0)).heap[w.heap.size]? = some (.cells #[.int .i64 0, .int .i64 0] 107) := heap_setCell_same _ _ _ _ _ _ hf3
    have h1 : ((w3.setCell ⟨w.heap.size, 0, none⟩ (.int .i64 0)).setCell ⟨w.heap.size, 1, none⟩ (.int .i64 0)).heap[w.heap.size]? = some (.cells #[.int .i64 0, .int .i64 0] 107) := heap_setCell_same _ _ _ _ _ _ h0
    have hsame : ∀ k, k < w1.heap.size → ((w3.setCell ⟨w.heap.size, 0, none⟩ (.int .i64 0)).setCell ⟨w.heap.size, 1, none⟩ (.int .i64 0)).heap[k]? = w2.heap[k]? := fun k hk => by
      by_cases e : k = w.heap.size
      · subst e
        rw [h1, HL2.out.2.block _ hlt (by simp)]
        exact HG1.out.2.symm
      · rw [Below.heap_setCell _ _ _ _ e, Below.heap_setCell _ _ _ _ e]
        exact g3.block k (by omega) (by simp)
    exact ⟨cell_at h1, cell_at h1, HL2.out.1.keep hsame, by simp; omega, grown_new (grown_new ((HG1.out.1.trans HL2.out.2).trans g3) (Nat.le_refl _) _ _) (Nat.le_refl _) _ _⟩
  clear hf3 g3 HL2 HG1
  go_wp2_with fail
  obtain ⟨x0, x1, x2, x3, x4⟩ := HF.out _ rfl
  exact bodyPost_ret (checked_results _ _ w.heap.size _ rfl rfl x0 x1) rfl ⟨_, _, _, _, _, _, _, _, _, _, rfl, x2, x3, x4⟩
end Go.Proofs.YthllhabjfchgiaaGreatDoor

/- Package lang: the coder in memory; op.Append of small numbers; lay. -/
namespace Go.Proofs.YthllhabjfchgiaaGreatDoor
open Go.RowKit
open Hx (Tk)
attribute [local go_sem ↓] Go.wp_at_zero Go.wp_at_succ
attribute [local go_sem] setCell_drewN'
variable {B : Nat} {w : World} {K : Nat} {v : Value} {bs : List Int} {fr : Int}

/-- the coder in block K; its code, from block B on, in a row of its own -/
structure CoAt (B : Nat) (w : World) (K : Nat) (v : Value) (bs : List Int) (fr : Int) : Prop where
  bK : B ≤ K
  c0 : w.cell? ⟨K, 0, none⟩ = some v
  c1 : w.cell? ⟨K, 1, none⟩ = some (.slice none 0 0)
  c2 : w.cell? ⟨K, 2, none⟩ = some (.int .i64 fr)
  fz : ∀ j, w.frozen? ⟨K, j, none⟩ = false
  row : w.ownsRow B 5 1 v bs.length (bs.map (Value.int .u8))
  ne : v.ownBlock ≠ some K

def CoIn (B : Nat) (w : World) (K : Nat) (bs : List Int) (fr : Int) : Prop := ∃ v, CoAt B w K v bs fr

theorem CoAt.lt (h : CoAt B w K v bs fr) : K < w.heap.size := World.block_lt_of_cell? w _ h.c0

theorem CoAt.grow (h : CoAt B w K v bs fr) {w' : World} (hg : w.grownBy w' none) : CoAt B w' K v bs fr := by
  have hb : w'.heap[K]? = w.heap[K]? := hg.block K h.lt (by simp)
  have hc : ∀ j, w'.cell? ⟨K, j, none⟩ = w.cell? ⟨K, j, none⟩ := fun j => World.cell?_of_block hb
  exact ⟨h.bK, by rw [hc]; exact h.c0, by rw [hc]; exact h.c1, by rw [hc]; exact h.c2, fun j => (World.frozen?_of_block hb).trans (h.fz j), h.row.kept hg (by cases v.ownBlock <;> simp), h.ne⟩

theorem CoIn.grow (h : CoIn B w K bs fr) {w' : World} (hg : w.grownBy w' none) : CoIn B w' K bs fr := by
  obtain ⟨v, h⟩ := h
  exact ⟨v, h.grow hg⟩

theorem CoAt.setFree (h : CoAt B w K v bs fr) (x : Int) : CoAt B (w.setCell ⟨K, 2, none⟩ (.int .i64 x)) K v bs x ∧ Below B w (w.setCell ⟨K, 2, none⟩ (.int .i64 x)) := by
  have hg := grown_set w K 2 (.int .i64 x)
  have o : ∀ j, j ≠ 2 → (w.setCell ⟨K, 2, none⟩ (.int .i64 x)).cell? ⟨K, j, none⟩ = w.cell? ⟨K, j, none⟩ := fun j hj => World.cell?_setCell_other _ _ _ _ (by intro e; cases e; exact hj rfl)
  refine ⟨⟨h.bK, by rw [o 0 (by omega)]; exact h.c0, by rw [o 1 (by omega)]; exact h.c1, World.cell?_setCell_same _ _ _ h.c2, fun j => by rw [World.frozen?_setCell]; exact h.fz j, h.row.kept hg (Or.inr h.ne), h.ne⟩, ⟨rfl, rfl, rfl, by simp, fun k hk => Below.heap_setCell _ _ _ _ (by show k ≠ K; have := h.bK; omega)⟩⟩

/-- behind an append to the code, and the store of what it gave -/
theorem CoAt.append (h : CoAt B w K v bs fr) {w1 : World} (hg : w.grownBy w1 v.ownBlock) {g cap : Nat} {x : Int} (ho : w1.ownsRow B 5 1 (.slice (some ⟨g, 0, none⟩) (bs.length + 1) cap) (bs.length + 1) (bs.map (Value.int .u8) ++ [.int .u8 x])) (hat : v.ownBlock = some g ∨ w.heap.size ≤ g) :
    CoAt B (w1.setCell ⟨K, 0, none⟩ (.slice (some ⟨g, 0, none⟩) (bs.length + 1) cap)) K (.slice (some ⟨g, 0, none⟩) (bs.length + 1) cap) (bs ++ [x]) fr ∧ Below B w (w1.setCell ⟨K, 0, none⟩ (.slice (some ⟨g, 0, none⟩) (bs.length + 1) cap)) ∧ w1.cell? ⟨K, 0, none⟩ = some v ∧ ∀ j, w1.frozen? ⟨K, j, none⟩ = false := by
  have hlt := h.lt
  have hKg : K ≠ g := by
    rcases hat with e | e
    · intro e2; subst e2; exact h.ne e
    · omega
  have hb : w1.heap[K]? = w.heap[K]? := hg.block K hlt (fun e => h.ne e.symm)
  have hc : ∀ j, w1.cell? ⟨K, j, none⟩ = w.cell? ⟨K, j, none⟩ := fun j => World.cell?_of_block hb
  have hf : ∀ j, w1.frozen? ⟨K, j, none⟩ = false := fun j => (World.frozen?_of_block hb).trans (h.fz j)
  have hs := grown_set w1 K 0 (.slice (some ⟨g, 0, none⟩) (bs.length + 1) cap)
  have o : ∀ j, j ≠ 0 → (w1.setCell ⟨K, 0, none⟩ (.slice (some ⟨g, 0, none⟩) (bs.length + 1) cap)).cell? ⟨K, j, none⟩ = w.cell? ⟨K, j, none⟩ := fun j hj => by rw [World.cell?_setCell_other _ _ _ _ (by intro e; cases e; exact hj rfl), hc]
  have hne : (Value.slice (some ⟨g, 0, none⟩) (bs.length + 1) cap).ownBlock ≠ some K := by
    intro e
    simp only [Value.ownBlock, Option.some.injEq] at e
    exact hKg e.symm
  refine ⟨⟨h.bK, World.cell?_setCell_same _ _ _ (by rw [hc]; exact h.c0), by rw [o 1 (by omega)]; exact h.c1, by rw [o 2 (by omega)]; exact h.c2, fun j => by rw [World.frozen?_setCell]; exact hf j, ?_, hne⟩, ⟨hg.os, hg.tape, hg.output, by simpa using hg.size, fun k hk => ?_⟩, by rw [hc]; exact h.c0, hf⟩
  · have := ho.kept hs (Or.inr hne)
    simpa using this
  · rw [Below.heap_setCell _ _ _ _ (by show k ≠ K; have := h.bK; omega)]
    refine hg.block k (by have := h.bK; omega) (fun e => ?_)
    have := (h.row.lt k e.symm).1
    omega

theorem info_u8 : (Tryz.prog.info? 5).map (fun i => (i.zero, i.size, i.bytes)) = some (some (.int .u8 0), 1, 1) := by kernel_rfl

set_option maxRecDepth 100000 in
set_option maxHeartbeats 1000000 in
theorem append_small (xs : List Value) (m : Nat) (n : Int) (hrow : w.ownsRow B 5 1 v m xs) (hB : B ≤ w.heap.size) (hm : m ≤ 100000) (h0 : 0 ≤ n) (h1 : n < 64) :
    Calls Tryz.prog 144 #[v, .int .i64 n] w fun e w' => ∃ g cap, e = .returned (.slice (some ⟨g, 0, none⟩) (m + 1) cap) ∧ w'.ownsRow B 5 1 (.slice (some ⟨g, 0, none⟩) (m + 1) cap) (m + 1) (xs ++ [.int .u8 (n * 2)]) ∧ w.grownBy w' v.ownBlock ∧ (v.ownBlock = some g ∨ w.heap.size ≤ g) := by
  obtain ⟨i0, hi, hz0, hz1, hz2⟩ := info_parts info_u8
  have d0 : decide (n < 0) = false := by simp; omega
  have HO : Hid (∀ o, (w.alloc o).ownsRow B 5 1 v m xs) := fun o => hrow.alloc o
  have HB : Hid (∀ o w', (w.alloc o).grownBy w' v.ownBlock → w.grownBy w' v.ownBlock) := fun o w' hg => (World.grownBy_alloc w o _).trans hg
  clear hrow
  go_enter Tryz.func144, Tryz.ntmps144
  go_wp2_with fail
  refine wp_loop_rounds 1 ?_
  rw [rounds_succ]
  go_wp2_with (at_builtin; refine wpList_append_lies _ rfl _ _ 194 rfl B 5 i0 (.int .u8 0) 1 1 Tryz.underlying194 hi hz0 hz1 hz2 rfl (by decide) v m xs rfl (HO.out _) ⟨w.heap.size, 0, none⟩ 1 1 [.int .u8 (n * 2)] rfl rfl (cell_one_new _ _ _) (by simp [Value.oneCell']) (by decide) (by unfold maxLen; omega) (by omega) (by simp; omega) (w.heap.size + 1) (by simp) ?_; intro g cap w2 hown hgr hat hlt)
  have HF : Hid (w2.ownsRow B 5 1 (.slice (some ⟨g, 0, none⟩) (m + 1) cap) (m + 1) (xs ++ [.int .u8 (n * 2)]) ∧ w.grownBy w2 v.ownBlock ∧ (v.ownBlock = some g ∨ w.heap.size ≤ g)) := ⟨hown, HB.out _ _ hgr, hat.elim Or.inl fun e => Or.inr (by omega)⟩
  clear hown hgr hat
  go_wp2_with fail
  go_ret
  exact ⟨_, _, rfl, HF.out⟩

/-- numbers in memory -/
def Nums (w : World) (v : Value) (xs : List Int) : Prop := (v = .slice none 0 0 ∧ xs = []) ∨ ∃ b, v = .slice (some ⟨b, 0, none⟩) xs.length xs.length ∧ b < w.heap.size ∧ ∀ (i : Nat) (x : Int), xs[i]? = some x → w.cell? ⟨b, i, none⟩ = some (.int .i64 x)

set_option maxRecDepth 100000 in
set_option maxHeartbeats 1000000 in
theorem lay_nil (o : Int) (h : CoIn B w K bs fr) (hn : bs.length ≤ 90000) :
    Calls Tryz.prog 92 #[.pointer (some ⟨K, 0, none⟩), .int .u8 o, .slice none 0 0] w fun e w' => e = .returned (.tuple #[]) ∧ CoIn B w' K (bs ++ [o]) fr ∧ Below B w w' := by
  obtain ⟨v, h⟩ := h
  obtain ⟨i0, hi, hz0, hz1, hz2⟩ := info_parts info_u8
  have hK := h.lt
  have hBK := h.bK
  have c0 := h.c0
  have HO : Hid (∀ ob, (w.alloc ob).ownsRow B 5 1 v bs.length (bs.map (Value.int .u8))) := fun ob => h.row.alloc ob
  have HA : Hid (∀ ob w1 g cap, (w.alloc ob).grownBy w1 v.ownBlock → w1.ownsRow B 5 1 (.slice (some ⟨g, 0, none⟩) (bs.length + 1) cap) (bs.length + 1) (bs.map (Value.int .u8) ++ [.int .u8 o]) → (v.ownBlock = some g ∨ g = w.heap.size + 1) →
      CoAt B (w1.setCell ⟨K, 0, none⟩ (.slice (some ⟨g, 0, none⟩) (bs.length + 1) cap)) K (.slice (some ⟨g, 0, none⟩) (bs.length + 1) cap) (bs ++ [o]) fr ∧ Below B w (w1.setCell ⟨K, 0, none⟩ (.slice (some ⟨g, 0, none⟩) (bs.length + 1) cap)) ∧ w1.cell? ⟨K, 0, none⟩ = some v ∧ ∀ j, w1.frozen? ⟨K, j, none⟩ = false) := fun ob w1 g cap hg ho hat =>
    h.append ((World.grownBy_alloc w ob _).trans hg) ho (hat.elim Or.inl fun e => Or.inr (by omega))
  clear h
  generalize hxs : bs.map (Value.int .u8) = xs at *
  clear hxs
  generalize bs.length = m at *
  have n1 : ¬ K = w.heap.size := by omega
  go_enter Tryz.func92, Tryz.ntmps92
  go_wp2_with (at_builtin; refine wpList_append_lies _ rfl _ _ 194 rfl B 5 i0 (.int .u8 0) 1 1 Tryz.underlying194 hi hz0 hz1 hz2 rfl (by decide) v m xs rfl (HO.out _) ⟨w.heap.size, 0, none⟩ 1 1 [.int .u8 o] rfl rfl (cell_one_new _ _ _) (by simp [Value.oneCell']) (by decide) (by unfold maxLen; omega) (by omega) (by simp; omega) (w.heap.size + 1) (by simp) ?_; intro g cap w2 hown hgr hat hlt; have e1 := (HA.out _ _ _ _ hgr hown hat).2.2.1; have e2 := (HA.out _ _ _ _ hgr hown hat).2.2.2)
  have HF : Hid (CoIn B (w2.setCell ⟨K, 0, none⟩ (.slice (some ⟨g, 0, none⟩) (m + 1) cap)) K (bs ++ [o]) fr ∧ Below B w (w2.setCell ⟨K, 0, none⟩ (.slice (some ⟨g, 0, none⟩) (m + 1) cap))) := ⟨⟨_, (HA.out _ _ _ _ hgr hown hat).1⟩, (HA.out _ _ _ _ hgr hown hat).2.1⟩
  clear hown hgr hat e1 e2
  refine wp_loop_rounds 1 ?_
  rw [rounds_succ]
  go_wp2_with fail
  go_end0
  exact ⟨rfl, HF.out⟩
end Go.Proofs.YthllhabjfchgiaaGreatDoor

/- Package lang: lay with two numbers; hold, choose, list. -/
namespace Go.Proofs.YthllhabjfchgiaaGreatDoor
open Go.RowKit
open Hx (Tk)
attribute [local go_sem ↓] Go.wp_at_zero Go.wp_at_succ
attribute [local go_sem] setCell_drewN'
variable {B : Nat} {w : World} {K : Nat} {v : Value} {bs : List Int} {fr : Int}

/-- the coder, and two numbers that are being laid down -/
structure CoNum (B : Nat) (w : World) (K : Nat) (v : Value) (bs : List Int) (fr : Int) (b : Nat) (n1 n2 : Int) : Prop where
  co : CoAt B w K v bs fr
  nums : w.heap[b]? = some (.cells #[.int .i64 n1, .int .i64 n2] 3)
  nv : v.ownBlock ≠ some b
  nk : b ≠ K

theorem CoNum.append {b : Nat} {n1 n2 : Int} (h : CoNum B w K v bs fr b n1 n2) {w1 : World} (hg : w.grownBy w1 v.ownBlock) {g cap : Nat} {x : Int} (ho : w1.ownsRow B 5 1 (.slice (some ⟨g, 0, none⟩) (bs.length + 1) cap) (bs.length + 1) (bs.map (Value.int .u8) ++ [.int .u8 x])) (hat : v.ownBlock = some g ∨ w.heap.size ≤ g) :
    CoNum B (w1.setCell ⟨K, 0, none⟩ (.slice (some ⟨g, 0, none⟩) (bs.length + 1) cap)) K (.slice (some ⟨g, 0, none⟩) (bs.length + 1) cap) (bs ++ [x]) fr b n1 n2 ∧ Below B w (w1.setCell ⟨K, 0, none⟩ (.slice (some ⟨g, 0, none⟩) (bs.length + 1) cap)) ∧ w1.cell? ⟨K, 0, none⟩ = some v ∧ ∀ j, w1.frozen? ⟨K, j, none⟩ = false := by
  obtain ⟨a1, a2, a3, a4⟩ := h.co.append hg ho hat
  have hlt := lt_of_some h.nums
  refine ⟨⟨a1, ?_, ?_, h.nk⟩, a2, a3, a4⟩
  · rw [Below.heap_setCell _ _ _ _ h.nk, hg.block b hlt (fun e => h.nv e.symm)]
    exact h.nums
  · intro e
    simp only [Value.ownBlock, Option.some.injEq] at e
    rcases hat with e2 | e2
    · rw [e] at e2; exact h.nv e2
    · omega

set_option maxRecDepth 100000 in
set_option maxHeartbeats 1000000 in
theorem lay_two (o n1 n2 : Int) (h : CoIn B w K bs fr) (hn : bs.length ≤ 90000) (a0 : 0 ≤ n1) (a1 : n1 < 64) (b0 : 0 ≤ n2) (b1 : n2 < 64) :
    Calls Tryz.prog 92 #[.pointer (some ⟨K, 0, none⟩), .int .u8 o, .slice (some ⟨w.heap.size, 0, none⟩) 2 2] (w.alloc (.cells #[.int .i64 n1, .int .i64 n2] 3)) fun e w' => e = .returned (.tuple #[]) ∧ CoIn B w' K (bs ++ [o, n1 * 2, n2 * 2]) fr ∧ Below B w w' := by
  obtain ⟨v, h⟩ := h
  obtain ⟨i0, hi, hz0, hz1, hz2⟩ := info_parts info_u8
  have hK := h.lt
  have hBK := h.bK
  have hW : Below B w (w.alloc (.cells #[.int .i64 n1, .int .i64 n2] 3)) := (Below.refl B w).alloc (by omega) _
  have hcn : CoNum B (w.alloc (.cells #[.int .i64 n1, .int .i64 n2] 3)) K v bs fr w.heap.size n1 n2 := ⟨h.grow (World.grownBy_alloc w _ none), heap_alloc_new w _, fun e => by have := (h.row.lt _ e).2; omega, by omega⟩
  have hsz : (w.alloc (.cells #[.int .i64 n1, .int .i64 n2] 3)).heap.size = w.heap.size + 1 := by simp
  generalize w.heap.size = b at *
  generalize w.alloc (.cells #[.int .i64 n1, .int .i64 n2] 3) = W at *
  clear h
  have c0 := hcn.co.c0
  have HO : Hid (∀ ob, (W.alloc ob).ownsRow B 5 1 v bs.length (bs.map (Value.int .u8))) := fun ob => hcn.co.row.alloc ob
  have HA : Hid (∀ ob w1 g cap, (W.alloc ob).grownBy w1 v.ownBlock → w1.ownsRow B 5 1 (.slice (some ⟨g, 0, none⟩) (bs.length + 1) cap) (bs.length + 1) (bs.map (Value.int .u8) ++ [.int .u8 o]) → (v.ownBlock = some g ∨ g = W.heap.size + 1) →
      CoNum B (w1.setCell ⟨K, 0, none⟩ (.slice (some ⟨g, 0, none⟩) (bs.length + 1) cap)) K (.slice (some ⟨g, 0, none⟩) (bs.length + 1) cap) (bs ++ [o]) fr b n1 n2 ∧ Below B w (w1.setCell ⟨K, 0, none⟩ (.slice (some ⟨g, 0, none⟩) (bs.length + 1) cap)) ∧ w1.cell? ⟨K, 0, none⟩ = some v ∧ ∀ j, w1.frozen? ⟨K, j, none⟩ = false) := fun ob w1 g cap hg ho hat => by
    obtain ⟨q1, q2, q3⟩ := hcn.append ((World.grownBy_alloc W ob _).trans hg) ho (hat.elim Or.inl fun e => Or.inr (by omega))
    exact ⟨q1, hW.trans q2, q3⟩
  have n3 : ¬ K = W.heap.size := by omega
  have n4 : B ≤ W.heap.size := by omega
  clear hsz
  have HB : Hid (∀ x u cs (z : Int), CoNum B x K u cs fr b n1 n2 → cs.length ≤ 90010 → 0 ≤ z → z < 64 → Calls Tryz.prog 144 #[u, .int .i64 z] x fun e w' => ∃ g cap, e = .returned (.slice (some ⟨g, 0, none⟩) (cs.length + 1) cap) ∧ CoNum B (w'.setCell ⟨K, 0, none⟩ (.slice (some ⟨g, 0, none⟩) (cs.length + 1) cap)) K (.slice (some ⟨g, 0, none⟩) (cs.length + 1) cap) (cs ++ [z * 2]) fr b n1 n2 ∧ Below B x (w'.setCell ⟨K, 0, none⟩ (.slice (some ⟨g, 0, none⟩) (cs.length + 1) cap)) ∧ w'.cell? ⟨K, 0, none⟩ = some u ∧ ∀ j, w'.frozen? ⟨K, j, none⟩ = false) := fun x u cs z hx hl hz0 hz1 => by
    refine (append_small _ _ z hx.co.row (by have := hx.co.bK; have := hx.co.lt; omega) (by omega) hz0 hz1).mono ?_
    rintro e w' ⟨g, cap, e1, e2, e3, e4⟩
    exact ⟨g, cap, e1, hx.append e3 e2 e4⟩
  clear hcn hW
  generalize hxs : bs.map (Value.int .u8) = xs at *
  clear hxs
  generalize hm : bs.length = m at *
  go_enter Tryz.func92, Tryz.ntmps92
  go_wp2_with (at_builtin; refine wpList_append_lies _ rfl _ _ 194 rfl B 5 i0 (.int .u8 0) 1 1 Tryz.underlying194 hi hz0 hz1 hz2 rfl (by decide) v m xs rfl (HO.out _) ⟨W.heap.size, 0, none⟩ 1 1 [.int .u8 o] rfl rfl (cell_one_new _ _ _) (by simp [Value.oneCell']) (by decide) (by unfold maxLen; omega) (by omega) (by simp; omega) (W.heap.size + 1) (by simp) ?_; intro g cap w2 hown hgr hat hlt; have e1 := (HA.out _ _ _ _ hgr hown hat).2.2.1; have e2 := (HA.out _ _ _ _ hgr hown hat).2.2.2)
  obtain ⟨q1, q2, _, _⟩ := HA.out _ _ _ _ hgr hown hat
  clear hown hgr hat e1 e2 HA HO
  have HQ : Hid (CoNum B (w2.setCell ⟨K, 0, none⟩ (.slice (some ⟨g, 0, none⟩) (m + 1) cap)) K (.slice (some ⟨g, 0, none⟩) (m + 1) cap) (bs ++ [o]) fr b n1 n2 ∧ Below B w (w2.setCell ⟨K, 0, none⟩ (.slice (some ⟨g, 0, none⟩) (m + 1) cap))) := ⟨q1, q2⟩
  clear q1 q2
  generalize w2.setCell ⟨K, 0, none⟩ (.slice (some ⟨g, 0, none⟩) (m + 1) cap) = w3 at *
  have d0 : w3.cell? ⟨b, 0, none⟩ = some (.int .i64 n1) := cell_at HQ.out.1.nums
  have k0 := HQ.out.1.co.c0
  refine wp_loop_rounds 3 ?_
  rw [rounds_succ]
  go_wp2_with fail
  refine (HB.out _ _ _ n1 HQ.out.1 (by simp; omega) a0 a1).mono ?_
  rintro e w4 ⟨g4, cap4, rfl, x1, x2, x3, x4⟩
  have HQ4 : Hid (CoNum B (w4.setCell ⟨K, 0, none⟩ (.slice (some ⟨g4, 0, none⟩) ((bs ++ [o]).length + 1) cap4)) K (.slice (some ⟨g4, 0, none⟩) ((bs ++ [o]).length + 1) cap4) (bs ++ [o] ++ [n1 * 2]) fr b n1 n2 ∧ Below B w (w4.setCell ⟨K, 0, none⟩ (.slice (some ⟨g4, 0, none⟩) ((bs ++ [o]).length + 1) cap4))) := ⟨x1, HQ.out.2.trans x2⟩
  clear x1 x2 HQ d0 k0
  generalize (bs ++ [o]).length + 1 = m4 at *
  go_wp2_with fail
  clear x3 x4
  generalize w4.setCell ⟨K, 0, none⟩ (.slice (some ⟨g4, 0, none⟩) m4 cap4) = w5 at *
  have hN5 := HQ4.out.1.nums
  have d1 : w5.cell? ⟨b, 1, none⟩ = some (.int .i64 n2) := cell_at hN5
  have k1 := HQ4.out.1.co.c0
  clear hN5
  rw [rounds_succ]
  go_wp2_with fail
  refine (HB.out _ _ _ n2 HQ4.out.1 (by simp; omega) b0 b1).mono ?_
  rintro e w6 ⟨g6, cap6, rfl, x1, x2, x3, x4⟩
  have HQ6 : Hid (CoIn B (w6.setCell ⟨K, 0, none⟩ (.slice (some ⟨g6, 0, none⟩) ((bs ++ [o] ++ [n1 * 2]).length + 1) cap6)) K (bs ++ [o, n1 * 2, n2 * 2]) fr ∧ Below B w (w6.setCell ⟨K, 0, none⟩ (.slice (some ⟨g6, 0, none⟩) ((bs ++ [o] ++ [n1 * 2]).length + 1) cap6))) := by
    have h9 := x1.co
    rw [show bs ++ [o] ++ [n1 * 2] ++ [n2 * 2] = bs ++ [o, n1 * 2, n2 * 2] by simp] at h9
    exact ⟨⟨_, h9⟩, HQ4.out.2.trans x2⟩
  clear x1 x2 HQ4 d1 k1
  generalize (bs ++ [o] ++ [n1 * 2]).length + 1 = m6 at *
  go_wp2_with fail
  clear x3 x4
  rw [rounds_succ]
  go_wp2_with fail
  go_end0
  exact ⟨rfl, HQ6.out⟩

theorem hold_ok (h : CoIn B w K bs fr) (h0 : 0 ≤ fr) (h1 : fr ≤ 1000000) : Calls Tryz.prog 306 #[.pointer (some ⟨K, 0, none⟩)] w fun e w' => e = .returned (.int .i64 fr) ∧ CoIn B w' K bs (fr + 1) ∧ Below B w w' := by
  obtain ⟨v, h⟩ := h
  have c2 := h.c2
  have ff := h.fz
  have HF : Hid (CoIn B (w.setCell ⟨K, 2, none⟩ (.int .i64 (fr + 1))) K bs (fr + 1) ∧ Below B w (w.setCell ⟨K, 2, none⟩ (.int .i64 (fr + 1)))) := ⟨⟨v, (h.setFree _).1⟩, (h.setFree _).2⟩
  have d2 := (h.setFree (fr + 1)).1.c2
  clear h
  go_enter Tryz.func306, Tryz.ntmps306
  go_wp2_with fail
  go_ret
  exact ⟨ret_int (by omega), HF.out⟩

theorem choose_hold (h : CoIn B w K bs fr) (h0 : 0 ≤ fr) (h1 : fr ≤ 1000000) : Calls Tryz.prog 364 #[.pointer (some ⟨K, 0, none⟩), .int .i64 (-1)] w fun e w' => e = .returned (.int .i64 fr) ∧ CoIn B w' K bs (fr + 1) ∧ Below B w w' := by
  have HH : Hid (Calls Tryz.prog 306 #[.pointer (some ⟨K, 0, none⟩)] w fun e w' => e = .returned (.int .i64 fr) ∧ CoIn B w' K bs (fr + 1) ∧ Below B w w') := hold_ok h h0 h1
  clear h
  go_enter Tryz.func364, Tryz.ntmps364
  go_wp2_with fail
  refine HH.out.mono ?_
  rintro e w1 ⟨rfl, h1, h2⟩
  have HF : Hid (CoIn B w1 K bs (fr + 1) ∧ Below B w w1) := ⟨h1, h2⟩
  clear h1 h2
  go_wp2_with fail
  go_ret
  exact ⟨rfl, HF.out⟩

theorem choose_this (n : Int) (h0 : 0 ≤ n) (K : Nat) (w : World) : Calls Tryz.prog 364 #[.pointer (some ⟨K, 0, none⟩), .int .i64 n] w fun e w' => e = .returned (.int .i64 n) ∧ w' = w := by
  have d : (n == -1) = false := by simp; omega
  go_enter Tryz.func364, Tryz.ntmps364
  go_wp2_with fail
  go_ret
  exact ⟨rfl, rfl⟩

def listOf (u : List UInt8) : Int := if u == [70, 82, 69, 83, 72] then 1 else if u == [65, 71, 65, 73, 78] then 2 else 0

theorem list_any {S : Nat} {at' of : Int} {base : ByteArray} (h : SetAt w S at' base of) : Calls Tryz.prog 348 #[.pointer (some ⟨S, 0, none⟩)] w fun e w' => e = .returned (.int .i64 (listOf base.toList)) ∧ w' = w := by
  have c2 : w.cell? ⟨S, 2, none⟩ = some (.string base) := cell_at h
  clear h
  cases h1 : (base.toList == [70, 82, 69, 83, 72]) with
  | true =>
    go_enter Tryz.func348, Tryz.ntmps348
    go_wp2
    go_ret
    exact ⟨ret_int (by simp only [listOf, h1, if_true]), rfl⟩
  | false =>
    cases h2 : (base.toList == [65, 71, 65, 73, 78]) with
    | true =>
      go_enter Tryz.func348, Tryz.ntmps348
      go_wp2
      go_ret
      exact ⟨ret_int (by simp [listOf, h1, h2]), rfl⟩
    | false =>
      go_enter Tryz.func348, Tryz.ntmps348
      go_wp2
      go_ret
      exact ⟨ret_int (by simp [listOf, h1, h2]), rfl⟩
end Go.Proofs.YthllhabjfchgiaaGreatDoor
