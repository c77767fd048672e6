import Derived.Test.YthllhabjfchgiaaGreatDoorHy24
import Derived.Deep.AppendLies
import Derived.OwnWalk
import Derived.Maps.AppendAt
import Derived.Test.YthllhabjfchgiaaGreatDoorHy13
/- Package lang: given, storing. -/
namespace Go.Proofs.YthllhabjfchgiaaGreatDoor
open Go.RowKit
open Hx (Tk)
attribute [local go_sem ↓] Go.wp_at_zero Go.wp_at_succ
attribute [local go_sem] setCell_drewN'
variable {w : World} {P : Nat} {s : ByteArray} {k k' : Tk} {dp en ea : Int} {E : World → Nat → Value → Prop}

/-- what is said of an expr stays so while the parser goes on -/
structure Stays (P : Nat) (E : World → Nat → Value → Prop) : Prop where
  keep : ∀ w w' B v, P < B → E w B v → w.grownBy w' (some P) → E w' B v
  down : ∀ w B B' v, B' ≤ B → E w B v → E w B' v

theorem ask_stays (P : Nat) (at' of : Int) (base what : ByteArray) : Stays P (AskE at' of base what) := by
  constructor
  · rintro w w' B v hB ⟨A, S, h1, h2, h3, h4, h5⟩ hg
    exact ⟨A, S, h1, h2, h3, (hg.block A (lt_of_some h4) (by simp; omega)).trans h4, h5.grow hg (by omega)⟩
  · rintro w B B' v hB ⟨A, S, h1, h2, h3, h4, h5⟩
    exact ⟨A, S, h1, by omega, by omega, h4, h5⟩

theorem num_stays (P : Nat) (at' n : Int) : Stays P (NumE at' n) := by
  constructor
  · rintro w w' B v hB ⟨A, h1, h2, h3⟩ hg
    exact ⟨A, h1, h2, (hg.block A (lt_of_some h3) (by simp; omega)).trans h3⟩
  · rintro w B B' v hB ⟨A, h1, h2, h3⟩
    exact ⟨A, h1, by omega, h3⟩

theorem lit_list (l : List UInt8) : (⟨l.toArray⟩ : ByteArray).toList = l := ByteArray.toList_mk l

theorem expect_lit (h : PrIn w P s k dp en ea) (hk : TokOk s k) (hs : s.size ≤ 4000) (l : List UInt8) (hl : k.text.toList = l) (hn : nxt s k = k') :
    Calls Tryz.prog 239 #[.pointer (some ⟨P, 0, none⟩), .string ⟨l.toArray⟩] w fun e w' => e = .returned (.tuple #[]) ∧ PrIn w' P s k' dp en ea ∧ w.grownBy w' (some P) := by
  rw [← hn]
  exact expect_ok h hk hs ⟨l.toArray⟩ (by rw [hl, lit_list]; simp)

set_option maxRecDepth 100000 in
set_option maxHeartbeats 1000000 in
theorem given_ok (hs : s.size ≤ 4000) (k1 k2 : Tk) (hE : Stays P E) (hok : TokOk s k) (ht : k.text.toList = [61]) (hk1 : nxt s k = k1) (hq : Reads 238 [] P s k1 k2 dp en ea E) (hok2 : TokOk s k2) (ht2 : k2.text.toList = [59]) (hk2 : nxt s k2 = k') :
    Reads 233 [] P s k k' dp en ea E := by
  intro w h
  have hL := h.lt
  have H1 : Hid (Calls Tryz.prog 239 #[.pointer (some ⟨P, 0, none⟩), .string ⟨#[61]⟩] w fun e w' => e = .returned (.tuple #[]) ∧ PrIn w' P s k1 dp en ea ∧ w.grownBy w' (some P)) := expect_lit h hok hs [61] ht hk1
  have H2 : Hid (∀ x, PrIn x P s k1 dp en ea → Calls Tryz.prog 238 #[.pointer (some ⟨P, 0, none⟩)] x fun e w' => ∃ v, e = .returned v ∧ E w' x.heap.size v ∧ PrIn w' P s k2 dp en ea ∧ x.grownBy w' (some P)) := hq
  have H3 : Hid (∀ x, PrIn x P s k2 dp en ea → Calls Tryz.prog 239 #[.pointer (some ⟨P, 0, none⟩), .string ⟨#[59]⟩] x fun e w' => e = .returned (.tuple #[]) ∧ PrIn w' P s k' dp en ea ∧ x.grownBy w' (some P)) := fun x hx => expect_lit hx hok2 hs [59] ht2 hk2
  clear h hq
  show Calls Tryz.prog 233 #[.pointer (some ⟨P, 0, none⟩)] w _
  go_enter Tryz.func233, Tryz.ntmps233
  go_wp2_with fail
  refine H1.out.mono ?_
  rintro e w1 ⟨rfl, p1, q1⟩
  have HP1 : Hid (PrIn w1 P s k1 dp en ea ∧ w.grownBy w1 (some P)) := ⟨p1, q1⟩
  clear p1 q1 H1
  go_wp2_with fail
  refine (H2.out _ HP1.out.1).mono ?_
  rintro e w2 ⟨v, rfl, e2, p2, q2⟩
  have HP2 : Hid (E w2 w1.heap.size v ∧ PrIn w2 P s k2 dp en ea ∧ w1.grownBy w2 (some P)) := ⟨e2, p2, q2⟩
  clear e2 p2 q2 H2
  go_wp2_with fail
  refine (H3.out _ HP2.out.2.1).mono ?_
  rintro e w3 ⟨rfl, p3, q3⟩
  have HF : Hid (E w3 w1.heap.size v ∧ PrIn w3 P s k' dp en ea ∧ w.grownBy w3 (some P) ∧ w.heap.size ≤ w1.heap.size) := ⟨hE.keep _ _ _ _ (by have := HP1.out.2.size; omega) HP2.out.1 q3, p3, (HP1.out.2.trans HP2.out.2.2).trans q3, HP1.out.2.size⟩
  clear p3 q3 H3 HP1 HP2
  go_wp2_with fail
  go_ret
  exact ⟨v, rfl, hE.down _ _ _ _ HF.out.2.2.2 HF.out.1, HF.out.2.1, HF.out.2.2.1⟩

theorem number_price (A : Nat) (w : World) : (method 576 405 (.pointer (some ⟨A, 0, none⟩)) "helm/lang.price").run Tryz.prog w = .ok (244, .pointer (some ⟨A, 0, none⟩)) w := by kernel_rfl

/-- a register that is given a literal -/
def StoreE (at' reg at2 n : Int) (w : World) (B : Nat) (v : Value) : Prop :=
  ∃ A u, v = .iface 327 (.pointer (some ⟨A, 0, none⟩)) ∧ B ≤ A ∧ w.heap[A]? = some (.cells #[.int .i64 at', .int .i64 2, .int .i64 reg, u] 329) ∧ NumE at2 n w B u

theorem one_cost (w : World) (T : TypeId) (c : Int) (h0 : 0 ≤ c) (h1 : c ≤ 1000001) : Costs (w.alloc (.cells #[.int .i64 c] T)) (.slice (some ⟨w.heap.size, 0, none⟩) 1 1) [c] := by
  refine ⟨by simp; omega, by simp, Or.inr ⟨_, _, rfl, fun i y hy => ?_⟩⟩
  match i, hy with
  | 0, hy =>
    cases hy
    exact cell_at (heap_alloc_new w _)

theorem part_one : partCost [1] = 2 := by decide

set_option maxRecDepth 100000 in
set_option maxHeartbeats 1000000 in
theorem storing_num (hs : s.size ≤ 4000) (k1 : Tk) (hok : TokOk s k) (c at2 n : Int) (hsz : 1 < k.text.size) (hc : (k.text[1].toNat : Int) = 48 + c) (h0 : 0 ≤ c) (h1 : c ≤ 7) (hk1 : nxt s k = k1) (hq : Reads 233 [] P s k1 k' dp en ea (NumE at2 n)) :
    Reads 221 [] P s k k' dp en ea (StoreE k.at' c at2 n) := by
  intro w h
  have hL := h.lt
  have c3 := h.c3
  have H1 : Hid (Calls Tryz.prog 235 #[.pointer (some ⟨P, 0, none⟩)] w fun e w' => e = .returned (.int .i64 c) ∧ PrIn w' P s k1 dp en ea ∧ w.grownBy w' (some P)) := by
    rw [← hk1]; exact register_ok h hs hok c hsz hc h0 h1
  have H2 : Hid (∀ x, PrIn x P s k1 dp en ea → Calls Tryz.prog 233 #[.pointer (some ⟨P, 0, none⟩)] x fun e w' => ∃ v, e = .returned v ∧ NumE at2 n w' x.heap.size v ∧ PrIn w' P s k' dp en ea ∧ x.grownBy w' (some P)) := hq
  clear h hq hc
  show Calls Tryz.prog 221 #[.pointer (some ⟨P, 0, none⟩)] w _
  go_enter Tryz.func221, Tryz.ntmps221
  go_wp2_with fail
  refine H1.out.mono ?_
  rintro e w1 ⟨rfl, p1, q1⟩
  have HP1 : Hid (PrIn w1 P s k1 dp en ea ∧ w.grownBy w1 (some P)) := ⟨p1, q1⟩
  clear p1 q1 H1
  go_wp2_with fail
  refine (H2.out _ HP1.out.1).mono ?_
  rintro e w2 ⟨v, rfl, ⟨A, rfl, hA, hN⟩, p2, q2⟩
  have a1 : w2.cell? ⟨A, 1, none⟩ = some (.int .i64 1) := cell_at hN
  have HP2 : Hid (NumE at2 n w2 w1.heap.size (.iface 405 (.pointer (some ⟨A, 0, none⟩))) ∧ PrIn w2 P s k' dp en ea ∧ w1.grownBy w2 (some P)) := ⟨⟨A, rfl, hA, hN⟩, p2, q2⟩
  clear hN p2 q2 H2
  have hmp := number_price A
  have HPr : Hid (Calls Tryz.prog 244 #[.pointer (some ⟨A, 0, none⟩)] w2 fun e w' => e = .returned (.int .i64 1) ∧ w' = w2) := price_at A 0 1 a1
  go_wp2_with fail
  refine HPr.out.mono ?_
  rintro e w3 ⟨rfl, rfl⟩
  go_wp2_with fail
  refine (newPart_any k.at' _ [1] (one_cost w3 _ 1 (by omega) (by omega))).mono ?_
  rintro e w4 ⟨rfl, g4⟩
  rw [part_one]
  have HG4 : Hid (w3.grownBy w4 none) := (World.grownBy_alloc w3 _ none).trans g4
  clear g4
  have HF : Hid (∀ o, o = Obj.cells #[.int .i64 k.at', .int .i64 2, .int .i64 c, .iface 405 (.pointer (some ⟨A, 0, none⟩))] 329 → StoreE k.at' c at2 n (w4.alloc o) w.heap.size (.iface 327 (.pointer (some ⟨w4.heap.size, 0, none⟩))) ∧ PrIn (w4.alloc o) P s k' dp en ea ∧ w.grownBy (w4.alloc o) (some P)) := by
    intro o ho
    subst ho
    have hg := HG4.out.trans (World.grownBy_alloc w4 (Obj.cells #[.int .i64 k.at', .int .i64 2, .int .i64 c, .iface 405 (.pointer (some ⟨A, 0, none⟩))] 329) none)
    have s1 := HP1.out.2.size
    have s2 := HP2.out.2.2.size
    have s3 := HG4.out.size
    refine ⟨⟨w4.heap.size, _, rfl, by omega, heap_alloc_new _ _, ?_⟩, HP2.out.2.1.grow hg, (HP1.out.2.trans HP2.out.2.2).trans (hg.but _)⟩
    exact (num_stays P at2 n).down _ _ _ _ s1 ((num_stays P at2 n).keep _ _ _ _ (by omega) HP2.out.1 (hg.but _))
  go_wp2_with fail
  go_ret
  exact ⟨_, rfl, HF.out _ rfl⟩
end Go.Proofs.YthllhabjfchgiaaGreatDoor

/- Package lang: pushing, statement. -/
namespace Go.Proofs.YthllhabjfchgiaaGreatDoor
open Go.RowKit
open Hx (Tk)
attribute [local go_sem ↓] Go.wp_at_zero Go.wp_at_succ
attribute [local go_sem] setCell_drewN'
variable {w : World} {P : Nat} {s : ByteArray} {k k' : Tk} {dp en ea : Int} {E : World → Nat → Value → Prop}

/-- a push of what is asked of two sets -/
def PushE (at' at1 of1 : Int) (base1 what1 : ByteArray) (at2 of2 : Int) (base2 what2 : ByteArray) (w : World) (B : Nat) (v : Value) : Prop :=
  ∃ A u1 u2, v = .iface 333 (.pointer (some ⟨A, 0, none⟩)) ∧ B ≤ A ∧ w.heap[A]? = some (.cells #[.int .i64 at', .int .i64 5, u1, u2] 335) ∧ AskE at1 of1 base1 what1 w B u1 ∧ AskE at2 of2 base2 what2 w B u2

theorem asking_price (A : Nat) (w : World) : (method 576 410 (.pointer (some ⟨A, 0, none⟩)) "helm/lang.price").run Tryz.prog w = .ok (244, .pointer (some ⟨A, 0, none⟩)) w := by kernel_rfl

theorem two_costs (w : World) (T : TypeId) (c d : Int) (h0 : 0 ≤ c) (h1 : c ≤ 1000001) (h2 : 0 ≤ d) (h3 : d ≤ 1000001) : Costs (w.alloc (.cells #[.int .i64 c, .int .i64 d] T)) (.slice (some ⟨w.heap.size, 0, none⟩) 2 2) [c, d] := by
  refine ⟨by simp; omega, by simp, Or.inr ⟨_, _, rfl, fun i y hy => ?_⟩⟩
  match i, hy with
  | 0, hy => cases hy; exact cell_at (heap_alloc_new w _)
  | 1, hy => cases hy; exact cell_at (heap_alloc_new w _)

theorem part_two : partCost [2, 2] = 5 := by decide

theorem close_lit (h : PrIn w P s k dp en ea) (hk : TokOk s k) (hs : s.size ≤ 4000) (hdb : 0 ≤ dp) (hdc : dp ≤ 21) (l : List UInt8) (hl : k.text.toList = l) (hn : nxt s k = k') :
    Calls Tryz.prog 240 #[.pointer (some ⟨P, 0, none⟩), .string ⟨l.toArray⟩] w fun e w' => e = .returned (.tuple #[]) ∧ PrIn w' P s k' (dp - 1) en ea ∧ w.grownBy w' (some P) := by
  rw [← hn]
  exact close_ok h hk hs hdb hdc ⟨l.toArray⟩ (by rw [hl, lit_list]; simp)

theorem open_lit (h : PrIn w P s k dp en ea) (hk : TokOk s k) (hs : s.size ≤ 4000) (hd : (dp == 20) = false) (hdb : 0 ≤ dp) (hdc : dp ≤ 20) (l : List UInt8) (hl : k.text.toList = l) (hn : nxt s k = k') :
    Calls Tryz.prog 237 #[.pointer (some ⟨P, 0, none⟩), .string ⟨l.toArray⟩] w fun e w' => e = .returned (.tuple #[]) ∧ PrIn w' P s k' (dp + 1) en ea ∧ w.grownBy w' (some P) := by
  rw [← hn]
  exact open_ok h hk hs hd hdb hdc ⟨l.toArray⟩ (by rw [hl, lit_list]; simp)

set_option maxRecDepth 100000 in
set_option maxHeartbeats 1000000 in
theorem pushing_ok (hs : s.size ≤ 4000) (k1 k2 k3 k4 k5 k6 : Tk) (at1 of1 at2 of2 : Int) (base1 what1 base2 what2 : ByteArray) (hd : (dp == 20) = false) (hdb : 0 ≤ dp) (hdc : dp ≤ 20)
    (o0 : TokOk s k) (n0 : nxt s k = k1) (o1 : TokOk s k1) (t1 : k1.text.toList = [40]) (n1 : nxt s k1 = k2) (q1 : Reads 238 [] P s k2 k3 (dp + 1) en ea (AskE at1 of1 base1 what1))
    (o3 : TokOk s k3) (t3 : k3.text.toList = [44]) (n3 : nxt s k3 = k4) (q2 : Reads 238 [] P s k4 k5 (dp + 1) en ea (AskE at2 of2 base2 what2))
    (o5 : TokOk s k5) (t5 : k5.text.toList = [41]) (n5 : nxt s k5 = k6) (o6 : TokOk s k6) (t6 : k6.text.toList = [59]) (n6 : nxt s k6 = k') :
    Reads 223 [] P s k k' dp en ea (PushE k.at' at1 of1 base1 what1 at2 of2 base2 what2) := by
  intro w h
  have hL := h.lt
  have H0 : Hid (Calls Tryz.prog 236 #[.pointer (some ⟨P, 0, none⟩)] w fun e w' => e = .returned (tkV k) ∧ PrIn w' P s k1 dp en ea ∧ w.grownBy w' (some P)) := by rw [← n0]; exact next_ok h o0 hs
  have H1 : Hid (∀ x, PrIn x P s k1 dp en ea → Calls Tryz.prog 237 #[.pointer (some ⟨P, 0, none⟩), .string ⟨#[40]⟩] x fun e w' => e = .returned (.tuple #[]) ∧ PrIn w' P s k2 (dp + 1) en ea ∧ x.grownBy w' (some P)) := fun x hx => open_lit hx o1 hs hd hdb hdc [40] t1 n1
  have H2 : Hid (∀ x, PrIn x P s k2 (dp + 1) en ea → Calls Tryz.prog 238 #[.pointer (some ⟨P, 0, none⟩)] x fun e w' => ∃ v, e = .returned v ∧ AskE at1 of1 base1 what1 w' x.heap.size v ∧ PrIn w' P s k3 (dp + 1) en ea ∧ x.grownBy w' (some P)) := q1
  have H3 : Hid (∀ x, PrIn x P s k3 (dp + 1) en ea → Calls Tryz.prog 239 #[.pointer (some ⟨P, 0, none⟩), .string ⟨#[44]⟩] x fun e w' => e = .returned (.tuple #[]) ∧ PrIn w' P s k4 (dp + 1) en ea ∧ x.grownBy w' (some P)) := fun x hx => expect_lit hx o3 hs [44] t3 n3
  have H4 : Hid (∀ x, PrIn x P s k4 (dp + 1) en ea → Calls Tryz.prog 238 #[.pointer (some ⟨P, 0, none⟩)] x fun e w' => ∃ v, e = .returned v ∧ AskE at2 of2 base2 what2 w' x.heap.size v ∧ PrIn w' P s k5 (dp + 1) en ea ∧ x.grownBy w' (some P)) := q2
  have H5 : Hid (∀ x, PrIn x P s k5 (dp + 1) en ea → Calls Tryz.prog 240 #[.pointer (some ⟨P, 0, none⟩), .string ⟨#[41]⟩] x fun e w' => e = .returned (.tuple #[]) ∧ PrIn w' P s k6 dp en ea ∧ x.grownBy w' (some P)) := fun x hx => by
    have := close_lit hx o5 hs (by omega) (by omega) [41] t5 n5
    rw [show dp + 1 - 1 = dp by omega] at this
    exact this
  have H6 : Hid (∀ x, PrIn x P s k6 dp en ea → Calls Tryz.prog 239 #[.pointer (some ⟨P, 0, none⟩), .string ⟨#[59]⟩] x fun e w' => e = .returned (.tuple #[]) ∧ PrIn w' P s k' dp en ea ∧ x.grownBy w' (some P)) := fun x hx => expect_lit hx o6 hs [59] t6 n6
  have hft := field_at k.kind k.at' k.text
  clear h q1 q2 o0 o1 o3 o5 o6 t1 t3 t5 t6 n0 n1 n3 n5 n6
  show Calls Tryz.prog 223 #[.pointer (some ⟨P, 0, none⟩)] w _
  go_enter Tryz.func223, Tryz.ntmps223
  go_wp2_with fail
  refine H0.out.mono ?_
  rintro e w1 ⟨rfl, p1, g1⟩
  have HP1 : Hid (PrIn w1 P s k1 dp en ea ∧ w.grownBy w1 (some P)) := ⟨p1, g1⟩
  clear p1 g1 H0
  unfold tkV
  go_wp2_with fail
  refine (H1.out _ HP1.out.1).mono ?_
  rintro e w2 ⟨rfl, p2, g2⟩
  have HP2 : Hid (PrIn w2 P s k2 (dp + 1) en ea ∧ w.grownBy w2 (some P)) := ⟨p2, HP1.out.2.trans g2⟩
  clear p2 g2 H1 HP1
  go_wp2_with fail
  refine (H2.out _ HP2.out.1).mono ?_
  rintro e w3 ⟨v1, rfl, ⟨A1, S1, rfl, a1, a2, a3, a4⟩, p3, g3⟩
  have HE1 : Hid (AskE at1 of1 base1 what1 w3 w.heap.size (.iface 410 (.pointer (some ⟨A1, 0, none⟩)))) := (ask_stays P _ _ _ _).down _ _ _ _ HP2.out.2.size ⟨A1, S1, rfl, a1, a2, a3, a4⟩
  have hA1 : w.heap.size ≤ A1 := Nat.le_trans HP2.out.2.size a1
  have HA1 : Hid (AskAt w3 A1 S1 at1 2 of1 what1) := a3
  have HP3 : Hid (PrIn w3 P s k3 (dp + 1) en ea ∧ w.grownBy w3 (some P)) := ⟨p3, HP2.out.2.trans g3⟩
  clear a1 a2 a3 a4 p3 g3 H2 HP2
  go_wp2_with fail
  refine (H3.out _ HP3.out.1).mono ?_
  rintro e w4 ⟨rfl, p4, g4⟩
  have HE1b : Hid (AskE at1 of1 base1 what1 w4 w.heap.size (.iface 410 (.pointer (some ⟨A1, 0, none⟩)))) := (ask_stays P _ _ _ _).keep _ _ _ _ hL HE1.out g4
  have HA1b : Hid (AskAt w4 A1 S1 at1 2 of1 what1) := (g4.block A1 (lt_of_some HA1.out) (by simp; omega)).trans HA1.out
  have HP4 : Hid (PrIn w4 P s k4 (dp + 1) en ea ∧ w.grownBy w4 (some P)) := ⟨p4, HP3.out.2.trans g4⟩
  clear p4 g4 H3 HP3 HE1 HA1
  go_wp2_with fail
  refine (H4.out _ HP4.out.1).mono ?_
  rintro e w5 ⟨v2, rfl, ⟨A2, S2, rfl, a1, a2, a3, a4⟩, p5, g5⟩
  have HE2 : Hid (AskE at2 of2 base2 what2 w5 w.heap.size (.iface 410 (.pointer (some ⟨A2, 0, none⟩)))) := (ask_stays P _ _ _ _).down _ _ _ _ HP4.out.2.size ⟨A2, S2, rfl, a1, a2, a3, a4⟩
  have hA2 : w.heap.size ≤ A2 := Nat.le_trans HP4.out.2.size a1
  have HA2 : Hid (AskAt w5 A2 S2 at2 2 of2 what2) := a3
  have HE1 : Hid (AskE at1 of1 base1 what1 w5 w.heap.size (.iface 410 (.pointer (some ⟨A1, 0, none⟩)))) := (ask_stays P _ _ _ _).keep _ _ _ _ hL HE1b.out g5
  have HA1 : Hid (AskAt w5 A1 S1 at1 2 of1 what1) := (g5.block A1 (lt_of_some HA1b.out) (by simp; omega)).trans HA1b.out
  have HP5 : Hid (PrIn w5 P s k5 (dp + 1) en ea ∧ w.grownBy w5 (some P)) := ⟨p5, HP4.out.2.trans g5⟩
  clear a1 a2 a3 a4 p5 g5 H4 HP4 HE1b HA1b
  go_wp2_with fail
  refine (H5.out _ HP5.out.1).mono ?_
  rintro e w6 ⟨rfl, p6, g6⟩
  have HP6 : Hid (PrIn w6 P s k6 dp en ea ∧ w5.grownBy w6 (some P)) := ⟨p6, g6⟩
  clear p6 g6 H5
  go_wp2_with fail
  refine (H6.out _ HP6.out.1).mono ?_
  rintro e w7 ⟨rfl, p7, g7⟩
  have g57 := HP6.out.2.trans g7
  have HE1b : Hid (AskE at1 of1 base1 what1 w7 w.heap.size (.iface 410 (.pointer (some ⟨A1, 0, none⟩)))) := (ask_stays P _ _ _ _).keep _ _ _ _ hL HE1.out g57
  have HE2b : Hid (AskE at2 of2 base2 what2 w7 w.heap.size (.iface 410 (.pointer (some ⟨A2, 0, none⟩)))) := (ask_stays P _ _ _ _).keep _ _ _ _ hL HE2.out g57
  have c1 : w7.cell? ⟨A1, 0 + 1, none⟩ = some (.int .i64 2) := cell_at ((g57.block A1 (lt_of_some HA1.out) (by simp; omega)).trans HA1.out)
  have c2 : w7.cell? ⟨A2, 0 + 1, none⟩ = some (.int .i64 2) := cell_at ((g57.block A2 (lt_of_some HA2.out) (by simp; omega)).trans HA2.out)
  have HP7 : Hid (PrIn w7 P s k' dp en ea ∧ w.grownBy w7 (some P)) := ⟨p7, HP5.out.2.trans g57⟩
  have Hc1 : Hid (Calls Tryz.prog 244 #[.pointer (some ⟨A1, 0, none⟩)] w7 fun e w' => e = .returned (.int .i64 2) ∧ w' = w7) := price_at A1 0 2 c1
  have Hc2 : Hid (Calls Tryz.prog 244 #[.pointer (some ⟨A2, 0, none⟩)] w7 fun e w' => e = .returned (.int .i64 2) ∧ w' = w7) := price_at A2 0 2 c2
  clear p7 g7 g57 H6 HP5 HP6 HE1 HE2 HA1 HA2 c1 c2
  have m1 := asking_price A1
  have m2 := asking_price A2
  go_wp2_with fail
  refine Hc1.out.mono ?_
  rintro e w8 ⟨rfl, rfl⟩
  go_wp2_with fail
  refine Hc2.out.mono ?_
  rintro e w9 ⟨rfl, rfl⟩
  go_wp2_with fail
  refine (newPart_any k.at' _ [2, 2] (two_costs w9 _ 2 2 (by omega) (by omega) (by omega) (by omega))).mono ?_
  rintro e w10 ⟨rfl, g10⟩
  rw [part_two]
  have HG : Hid (w9.grownBy w10 none) := (World.grownBy_alloc w9 _ none).trans g10
  clear g10
  have HF : Hid (∀ o, o = Obj.cells #[.int .i64 k.at', .int .i64 5, .iface 410 (.pointer (some ⟨A1, 0, none⟩)), .iface 410 (.pointer (some ⟨A2, 0, none⟩))] 335 → PushE k.at' at1 of1 base1 what1 at2 of2 base2 what2 (w10.alloc o) w.heap.size (.iface 333 (.pointer (some ⟨w10.heap.size, 0, none⟩))) ∧ PrIn (w10.alloc o) P s k' dp en ea ∧ w.grownBy (w10.alloc o) (some P)) := by
    intro o ho
    subst ho
    have hg := HG.out.trans (World.grownBy_alloc w10 (Obj.cells #[.int .i64 k.at', .int .i64 5, .iface 410 (.pointer (some ⟨A1, 0, none⟩)), .iface 410 (.pointer (some ⟨A2, 0, none⟩))] 335) none)
    have s1 := HP7.out.2.size
    have s2 := HG.out.size
    exact ⟨⟨w10.heap.size, _, _, rfl, by omega, heap_alloc_new _ _, (ask_stays P _ _ _ _).keep _ _ _ _ hL HE1b.out (hg.but _), (ask_stays P _ _ _ _).keep _ _ _ _ hL HE2b.out (hg.but _)⟩, HP7.out.1.grow hg, HP7.out.2.trans (hg.but _)⟩
  go_wp2_with fail
  go_ret
  exact ⟨_, rfl, HF.out _ rfl⟩
end Go.Proofs.YthllhabjfchgiaaGreatDoor

/- Package lang: statement, statements. -/
namespace Go.Proofs.YthllhabjfchgiaaGreatDoor
open Go.RowKit
open Hx (Tk)
attribute [local go_sem ↓] Go.wp_at_zero Go.wp_at_succ
attribute [local go_sem] setCell_drewN'
variable {w : World} {P : Nat} {s : ByteArray} {k k' : Tk} {dp en ea : Int} {E E1 E2 : World → Nat → Value → Prop}

/-- it hangs on the blocks from B on that are there -/
def Local (E : World → Nat → Value → Prop) : Prop := ∀ w w' B v, E w B v → (∀ k, B ≤ k → k < w.heap.size → w'.heap[k]? = w.heap[k]?) → E w' B v

theorem ask_local (at' of : Int) (base what : ByteArray) : Local (AskE at' of base what) := by
  rintro w w' B v ⟨A, S, h1, h2, h3, h4, h5⟩ hk
  exact ⟨A, S, h1, h2, h3, (hk A h2 (lt_of_some h4)).trans h4, (hk S h3 (lt_of_some h5)).trans h5⟩

theorem num_local (at' n : Int) : Local (NumE at' n) := by
  rintro w w' B v ⟨A, h1, h2, h3⟩ hk
  exact ⟨A, h1, h2, (hk A h2 (lt_of_some h3)).trans h3⟩

theorem store_local (at' reg at2 n : Int) : Local (StoreE at' reg at2 n) := by
  rintro w w' B v ⟨A, u, h1, h2, h3, h4⟩ hk
  exact ⟨A, u, h1, h2, (hk A h2 (lt_of_some h3)).trans h3, num_local _ _ _ _ _ _ h4 hk⟩

theorem push_local (at' at1 of1 : Int) (base1 what1 : ByteArray) (at2 of2 : Int) (base2 what2 : ByteArray) : Local (PushE at' at1 of1 base1 what1 at2 of2 base2 what2) := by
  rintro w w' B v ⟨A, u1, u2, h1, h2, h3, h4, h5⟩ hk
  exact ⟨A, u1, u2, h1, h2, (hk A h2 (lt_of_some h3)).trans h3, ask_local _ _ _ _ _ _ _ _ h4 hk, ask_local _ _ _ _ _ _ _ _ h5 hk⟩

set_option maxRecDepth 100000 in
theorem statement_push (hq : Reads 223 [] P s k k' dp en ea E) (hk : k.kind = 5) (ht : k.text.toList = [112, 117, 115, 104]) : Reads 191 [] P s k k' dp en ea E := by
  intro w h
  have HQ : Hid (Calls Tryz.prog 223 #[.pointer (some ⟨P, 0, none⟩)] w fun e w' => ∃ v, e = .returned v ∧ E w' w.heap.size v ∧ PrIn w' P s k' dp en ea ∧ w.grownBy w' (some P)) := hq w h
  have c1 := h.c1
  have c2 := h.c2
  rw [hk] at c1
  have t1 : (k.text.toList == [118, 97, 114]) = false := by rw [ht]; decide
  have t2 : (k.text.toList == [112, 117, 115, 104]) = true := by rw [ht]; decide
  clear h hq ht
  show Calls Tryz.prog 191 #[.pointer (some ⟨P, 0, none⟩)] w _
  go_enter Tryz.func191, Tryz.ntmps191
  go_wp2_with fail
  refine HQ.out.mono ?_
  rintro e w2 ⟨v, rfl, h1⟩
  have HH : Hid (E w2 w.heap.size v ∧ PrIn w2 P s k' dp en ea ∧ w.grownBy w2 (some P)) := h1
  clear h1 HQ
  go_wp2_with fail
  go_ret
  exact ⟨_, rfl, HH.out⟩

set_option maxRecDepth 100000 in
theorem statement_store (hq : Reads 221 [] P s k k' dp en ea E) (hk : k.kind = 4) : Reads 191 [] P s k k' dp en ea E := by
  intro w h
  have HQ : Hid (Calls Tryz.prog 221 #[.pointer (some ⟨P, 0, none⟩)] w fun e w' => ∃ v, e = .returned v ∧ E w' w.heap.size v ∧ PrIn w' P s k' dp en ea ∧ w.grownBy w' (some P)) := hq w h
  have c1 := h.c1
  have c2 := h.c2
  rw [hk] at c1
  clear h hq
  show Calls Tryz.prog 191 #[.pointer (some ⟨P, 0, none⟩)] w _
  go_enter Tryz.func191, Tryz.ntmps191
  go_wp2_with fail
  refine HQ.out.mono ?_
  rintro e w2 ⟨v, rfl, h1⟩
  have HH : Hid (E w2 w.heap.size v ∧ PrIn w2 P s k' dp en ea ∧ w.grownBy w2 (some P)) := h1
  clear h1 HQ
  go_wp2_with fail
  go_ret
  exact ⟨_, rfl, HH.out⟩

set_option maxRecDepth 100000 in
theorem statement_end (h : PrIn w P s k dp en ea) (hk : k.kind = 1) (ht : k.text.toList = []) : Calls Tryz.prog 191 #[.pointer (some ⟨P, 0, none⟩)] w fun e w' => e = .returned .nilIface ∧ w' = w := by
  have c1 := h.c1
  have c2 := h.c2
  rw [hk] at c1
  have t1 : (k.text.toList == [118, 97, 114]) = false := by rw [ht]; decide
  have t2 : (k.text.toList == [112, 117, 115, 104]) = false := by rw [ht]; decide
  have t3 : (k.text.toList == [114, 101, 116, 117, 114, 110]) = false := by rw [ht]; decide
  have t4 : (k.text.toList == [105, 102]) = false := by rw [ht]; decide
  have t5 : (k.text.toList == [101, 97, 99, 104]) = false := by rw [ht]; decide
  clear h ht
  go_enter Tryz.func191, Tryz.ntmps191
  go_wp2_with fail
  go_ret
  exact ⟨rfl, rfl⟩

theorem info_stmt : (Tryz.prog.info? 192).map (fun i => (i.zero, i.size, i.bytes)) = some (some .nilIface, 1, 16) := by kernel_rfl

/-- statements of two, in memory -/
def TwoE (E1 E2 : World → Nat → Value → Prop) (w : World) (B : Nat) (v : Value) : Prop :=
  ∃ B2 u1 u2, B ≤ B2 ∧ w.ownsRow B 192 1 v 2 [u1, u2] ∧ E1 w B u1 ∧ E2 w B2 u2

set_option maxRecDepth 100000 in
set_option maxHeartbeats 1000000 in
theorem statements_two (k1 k2 : Tk) (T1 T2 : TypeId) (l1 : Local E1) (l2 : Local E2) (f1 : ∀ w B v, E1 w B v → ∃ a, v = .iface T1 (.pointer (some a))) (f2 : ∀ w B v, E2 w B v → ∃ a, v = .iface T2 (.pointer (some a)))
    (q1 : Reads 191 [] P s k k1 dp en ea E1) (q2 : Reads 191 [] P s k1 k2 dp en ea E2) (hk : k2.kind = 1) (ht : k2.text.toList = []) :
    Reads 141 [] P s k k2 dp en ea (TwoE E1 E2) := by
  intro w h
  have hL := h.lt
  obtain ⟨i0, hi, hz0, hz1, hz2⟩ := info_parts info_stmt
  have H1 : Hid (Calls Tryz.prog 191 #[.pointer (some ⟨P, 0, none⟩)] w fun e w' => ∃ v, e = .returned v ∧ E1 w' w.heap.size v ∧ PrIn w' P s k1 dp en ea ∧ w.grownBy w' (some P)) := q1 w h
  have H2 : Hid (∀ x, PrIn x P s k1 dp en ea → Calls Tryz.prog 191 #[.pointer (some ⟨P, 0, none⟩)] x fun e w' => ∃ v, e = .returned v ∧ E2 w' x.heap.size v ∧ PrIn w' P s k2 dp en ea ∧ x.grownBy w' (some P)) := q2
  have H3 : Hid (∀ x, PrIn x P s k2 dp en ea → Calls Tryz.prog 191 #[.pointer (some ⟨P, 0, none⟩)] x fun e w' => e = .returned .nilIface ∧ w' = x) := fun x hx => statement_end hx hk ht
  clear h q1 q2
  show Calls Tryz.prog 141 #[.pointer (some ⟨P, 0, none⟩)] w _
  go_enter Tryz.func141, Tryz.ntmps141
  go_wp2_with fail
  refine H1.out.mono ?_
  rintro e w1 ⟨v1, rfl, e1, p1, g1⟩
  obtain ⟨a1, rfl⟩ := f1 _ _ _ e1
  have HP1 : Hid (E1 w1 w.heap.size (.iface T1 (.pointer (some a1))) ∧ PrIn w1 P s k1 dp en ea ∧ w.grownBy w1 (some P)) := ⟨e1, p1, g1⟩
  clear e1 p1 g1 H1
  go_wp2_with fail
  refine wp_loop_rounds 3 ?_
  rw [rounds_succ]
  go_wp2_with (at_builtin; refine wpList_append_lies _ rfl _ _ 105 rfl w.heap.size 192 i0 .nilIface 1 16 Tryz.underlying105 hi hz0 hz1 hz2 rfl (by decide) (.slice none 0 0) 0 [] rfl (World.ownsRow_nil _ _ _ _) ⟨w1.heap.size, 0, none⟩ 1 1 [.iface T1 (.pointer (some a1))] rfl rfl (cell_one_new _ _ _) (by simp [Value.oneCell']) (by decide) (by unfold maxLen; omega) (by omega) (by have := HP1.out.2.2.size; simp; omega) (w1.heap.size + 1) (by simp) ?_; intro gg cap w2 hown hgr hat hlt)
  have HGG : Hid (gg = w1.heap.size + 1) := by
    rcases hat with h | h
    · cases h
    · exact h
  have ga : w1.grownBy w2 none := (World.grownBy_alloc w1 _ none).trans hgr
  have HP2 : Hid (PrIn w2 P s k1 dp en ea ∧ w1.grownBy w2 none ∧ w2.ownsRow w.heap.size 192 1 (.slice (some ⟨gg, 0, none⟩) 1 cap) 1 [.iface T1 (.pointer (some a1))]) := ⟨HP1.out.2.1.grow ga, ga, hown⟩
  clear hown hgr hat ga
  refine (H2.out _ HP2.out.1).mono ?_
  rintro e w3 ⟨v2, rfl, e2, p3, g3⟩
  obtain ⟨a2, rfl⟩ := f2 _ _ _ e2
  have s1 := HP1.out.2.2.size
  have s2 := HP2.out.2.1.size
  have HP3 : Hid (E2 w3 w2.heap.size (.iface T2 (.pointer (some a2))) ∧ PrIn w3 P s k2 dp en ea ∧ w2.grownBy w3 (some P)) := ⟨e2, p3, g3⟩
  have HO3 : Hid (∀ o, (w3.alloc o).ownsRow w.heap.size 192 1 (.slice (some ⟨gg, 0, none⟩) 1 cap) 1 [.iface T1 (.pointer (some a1))]) := fun o => (HP2.out.2.2.kept g3 (Or.inr (by have := HGG.out; simp [Value.ownBlock]; omega))).alloc o
  clear e2 p3 g3 H2
  go_wp2_with fail
  rw [rounds_succ]
  go_wp2_with (at_builtin; refine wpList_append_lies _ rfl _ _ 105 rfl w.heap.size 192 i0 .nilIface 1 16 Tryz.underlying105 hi hz0 hz1 hz2 rfl (by decide) (.slice (some ⟨gg, 0, none⟩) 1 cap) 1 [.iface T1 (.pointer (some a1))] rfl (HO3.out _) ⟨w3.heap.size, 0, none⟩ 1 1 [.iface T2 (.pointer (some a2))] rfl rfl (cell_one_new _ _ _) (by simp [Value.oneCell']) (by decide) (by unfold maxLen; omega) (by omega) (by have := HP3.out.2.2.size; simp; omega) (w3.heap.size + 1) (by simp) ?_; intro g2 cap2 w4 hown hgr hat hlt)
  have s3 := HP3.out.2.2.size
  have hgg := HGG.out
  have gal : w3.grownBy w4 (some gg) := (World.grownBy_alloc w3 _ _).trans hgr
  have HF : Hid (TwoE E1 E2 w4 w.heap.size (.slice (some ⟨g2, 0, none⟩) 2 cap2) ∧ PrIn w4 P s k2 dp en ea ∧ w.grownBy w4 (some P)) := by
    refine ⟨⟨w2.heap.size, _, _, by omega, hown, l1 _ _ _ _ HP1.out.1 fun j hj1 hj2 => ?_, l2 _ _ _ _ HP3.out.1 fun j hj1 hj2 => ?_⟩, HP3.out.2.1.far gal (by omega), ?_⟩
    · rw [gal.block j (by omega) (by simp; omega), HP3.out.2.2.block j (by omega) (by simp; omega), HP2.out.2.1.block j (by omega) (by simp)]
    · exact gal.block j hj2 (by simp; omega)
    · have g13 : w.grownBy w3 (some P) := (HP1.out.2.2.trans (HP2.out.2.1.but _)).trans HP3.out.2.2
      exact g13.andThen gal (fun j e => by cases e; exact Or.inl (by omega))
  clear hown hgr hat gal HO3 hgg
  refine (H3.out _ HF.out.2.1).mono ?_
  rintro e w5 ⟨rfl, rfl⟩
  go_wp2_with fail
  rw [rounds_succ]
  go_wp2_with fail
  go_ret
  exact ⟨_, rfl, HF.out⟩
end Go.Proofs.YthllhabjfchgiaaGreatDoor

/- Package lang: parse. -/
namespace Go.Proofs.YthllhabjfchgiaaGreatDoor
open Go.RowKit
open Hx (Tk)
attribute [local go_sem ↓] Go.wp_at_zero Go.wp_at_succ
attribute [local go_sem] setCell_drewN'
variable {w : World} {s : ByteArray} {E : World → Nat → Value → Prop}

theorem parse_results (tmps : Array Value) (w : World) (g : Nat) (v : Value) (h2 : tmps[2]? = some v) (h3 : tmps[3]? = some (.pointer (some ⟨g, 0, none⟩))) (q0 : w.cell? ⟨g, 0, none⟩ = some (.int .i64 0)) (q1 : w.cell? ⟨g, 1, none⟩ = some (.int .i64 0)) :
    (results Tryz.f88 tmps).run Tryz.prog w = .ok (.tuple #[v, .agg #[.int .i64 0, .int .i64 0]]) w := by
  simp [results, Tryz.results88, go_sem, h2, h3, q0, q1]

set_option maxRecDepth 100000 in
set_option maxHeartbeats 1000000 in
theorem parse_ok (hs : s.size ≤ 4000) (k2 : Tk) (hk : k2.kind = 1) (hE : Local E) (hdn : ∀ w B B' v, B' ≤ B → E w B v → E w B' v) (hq : ∀ P, Reads 141 [] P s (Hx.scan s 0) k2 0 0 0 E) :
    Calls Tryz.prog 88 #[.string s] w fun e w' => ∃ v, e = .returned (.tuple #[v, .agg #[.int .i64 0, .int .i64 0]]) ∧ E w' w.heap.size v ∧ w.grownBy w' none := by
  have d1 : decide ((4000 : Int) < (s.size : Int)) = false := by simp; omega
  have HS : Hid (∀ w, Calls Tryz.prog 140 #[.string s, .int .i64 0] w fun e w' => e = .returned (tkV (Hx.scan s 0)) ∧ w.grownBy w' none) := fun w => scan_any s 0 w hs (by omega)
  have HQ : Hid (∀ P x, PrIn x P s (Hx.scan s 0) 0 0 0 → Calls Tryz.prog 141 #[.pointer (some ⟨P, 0, none⟩)] x fun e w' => ∃ v, e = .returned v ∧ E w' x.heap.size v ∧ PrIn w' P s k2 0 0 0 ∧ x.grownBy w' (some P)) := fun P x h => hq P x h
  clear hq
  generalize Hx.scan s 0 = k at *
  go_enter Tryz.func88, Tryz.ntmps88
  go_wp2_with fail
  refine (HS.out _).mono ?_
  rintro e w1 ⟨rfl, g1⟩
  have hf1 : w1.heap[w.heap.size]? = some (.cells #[.int .i64 0, .int .i64 0] 107) := (g1.block _ (by simp) (by simp)).trans (heap_alloc_new w _)
  have HG1 : Hid (w.grownBy w1 none ∧ w1.heap[w.heap.size]? = some (.cells #[.int .i64 0, .int .i64 0] 107)) := ⟨(World.grownBy_alloc w _ none).trans g1, hf1⟩
  clear g1 hf1 HS
  have HP : Hid (∀ o, o = Obj.cells #[.string s, .int .i64 k.kind, .string k.text, .int .i64 k.at', .int .i64 0, .int .i64 0, .int .i64 0] 252 → PrIn (w1.alloc o) w1.heap.size s k 0 0 0) := by
    intro o ho
    have hh : (w1.alloc o).heap[w1.heap.size]? = some (.cells #[.string s, .int .i64 k.kind, .string k.text, .int .i64 k.at', .int .i64 0, .int .i64 0, .int .i64 0] 252) := by rw [← ho]; exact heap_alloc_new w1 o
    exact ⟨cell_at hh, cell_at hh, cell_at hh, cell_at hh, cell_at hh, cell_at hh, cell_at hh, fun j => frozen_at hh⟩
  unfold tkV
  go_wp2_with fail
  refine (HQ.out _ _ (HP.out _ rfl)).mono ?_
  rintro e w2 ⟨v, rfl, e2, p2, g2⟩
  have s1 := HG1.out.1.size
  have hlt := lt_of_some HG1.out.2
  have hf2 : w2.heap[w.heap.size]? = some (.cells #[.int .i64 0, .int .i64 0] 107) := (g2.block _ (by simp; omega) (by simp; omega)).trans (((World.grownBy_alloc w1 _ none).block _ (by omega) (by simp)).trans HG1.out.2)
  have c1 := p2.c1
  have c5 := p2.c5
  have r0 : w2.cell? ⟨w.heap.size, 0, none⟩ = some (.int .i64 0) := cell_at hf2
  have r1 : w2.cell? ⟨w.heap.size, 1, none⟩ = some (.int .i64 0) := cell_at hf2
  have rf : ∀ j, w2.frozen? ⟨w.heap.size, j, none⟩ = false := fun j => frozen_at hf2
  rw [hk] at c1
  have hgf : w.grownBy w2 none := by
    have h1 := HG1.out.1.trans (World.grownBy_alloc w1 (Obj.cells #[.string s, .int .i64 k.kind, .string k.text, .int .i64 k.at', .int .i64 0, .int .i64 0, .int .i64 0] 252) none)
    exact h1.andThen g2 (fun j e => by cases e; exact Or.inl s1)
  have HF : Hid (∀ X, X = (w2.setCell ⟨w.heap.size, 0, none⟩ (.int .i64 0)).setCell ⟨w.heap.size, 1, none⟩ (.int .i64 0) → X.cell? ⟨w.heap.size, 0, none⟩ = some (.int .i64 0) ∧ X.cell? ⟨w.heap.size, 1, none⟩ = some (.int .i64 0) ∧ E X w.heap.size v ∧ w.grownBy X none) := by
    intro X hX
    subst hX
    have h0 : (w2.setCell ⟨w.heap.size, 0, none⟩ (.int .i64 0)).heap[w.heap.size]? = some (.cells #[.int .i64 0, .int .i64 0] 107) := heap_setCell_same _ _ _ _ _ _ hf2
    have h1 : ((w2.setCell ⟨w.heap.size, 0, none⟩ (.int .i64 0)).setCell ⟨w.heap.size, 1, none⟩ (.int .i64 0)).heap[w.heap.size]? = some (.cells #[.int .i64 0, .int .i64 0] 107) := heap_setCell_same _ _ _ _ _ _ h0
    refine ⟨cell_at h1, cell_at h1, hdn _ _ _ _ (by simp; omega) (hE _ _ _ _ e2 fun j hj1 hj2 => ?_), grown_new (grown_new hgf (Nat.le_refl _) _ _) (Nat.le_refl _) _ _⟩
    have hne : j ≠ w.heap.size := by simp at hj1; omega
    rw [Below.heap_setCell _ _ _ _ hne, Below.heap_setCell _ _ _ _ hne]
  clear e2 p2 g2 hf2 hgf HP HQ HG1
  go_wp2_with fail
  obtain ⟨x0, x1, x2, x3⟩ := HF.out _ rfl
  exact bodyPost_ret (parse_results _ _ w.heap.size v rfl rfl x0 x1) rfl ⟨v, rfl, x2, x3⟩
end Go.Proofs.YthllhabjfchgiaaGreatDoor

/- Package lang: the text of lives, as it is parsed. -/
namespace Go.Proofs.YthllhabjfchgiaaGreatDoor
open Go.RowKit
open Hx (Tk)

/-- the text -/
def liveT : ByteArray := ⟨#[112, 117, 115, 104, 40, 82, 79, 65, 68, 83, 46, 102, 105, 114, 115, 116, 44, 32, 70, 82, 69, 83, 72, 46, 102, 105, 114, 115, 116, 41, 59, 32, 82, 49, 32, 61, 32, 50, 59]⟩
def tk0 : Tk := Hx.scan liveT 0
def tk1 : Tk := nxt liveT tk0
def tk2 : Tk := nxt liveT tk1
def tk3 : Tk := nxt liveT tk2
def tk4 : Tk := nxt liveT tk3
def tk5 : Tk := nxt liveT tk4
def tk6 : Tk := nxt liveT tk5
def tk7 : Tk := nxt liveT tk6
def tk8 : Tk := nxt liveT tk7
def tk9 : Tk := nxt liveT tk8
def tk10 : Tk := nxt liveT tk9
def tk11 : Tk := nxt liveT tk10
def tk12 : Tk := nxt liveT tk11
def tk13 : Tk := nxt liveT tk12
def tk14 : Tk := nxt liveT tk13
def tk15 : Tk := nxt liveT tk14
theorem tk0_is : tk0.kind = 5 ∧ tk0.text.data.toList = [112, 117, 115, 104] ∧ tk0.at' = 0 ∧ tk0.text.size = 4 := by refine ⟨?_, ?_, ?_, ?_⟩ <;> kernel_rfl
theorem tk1_is : tk1.kind = 5 ∧ tk1.text.data.toList = [40] ∧ tk1.at' = 4 ∧ tk1.text.size = 1 := by refine ⟨?_, ?_, ?_, ?_⟩ <;> kernel_rfl
theorem tk2_is : tk2.kind = 5 ∧ tk2.text.data.toList = [82, 79, 65, 68, 83] ∧ tk2.at' = 5 ∧ tk2.text.size = 5 := by refine ⟨?_, ?_, ?_, ?_⟩ <;> kernel_rfl
theorem tk3_is : tk3.kind = 5 ∧ tk3.text.data.toList = [46] ∧ tk3.at' = 10 ∧ tk3.text.size = 1 := by refine ⟨?_, ?_, ?_, ?_⟩ <;> kernel_rfl
theorem tk4_is : tk4.kind = 2 ∧ tk4.text.data.toList = [102, 105, 114, 115, 116] ∧ tk4.at' = 11 ∧ tk4.text.size = 5 := by refine ⟨?_, ?_, ?_, ?_⟩ <;> kernel_rfl
theorem tk5_is : tk5.kind = 5 ∧ tk5.text.data.toList = [44] ∧ tk5.at' = 16 ∧ tk5.text.size = 1 := by refine ⟨?_, ?_, ?_, ?_⟩ <;> kernel_rfl
theorem tk6_is : tk6.kind = 5 ∧ tk6.text.data.toList = [70, 82, 69, 83, 72] ∧ tk6.at' = 18 ∧ tk6.text.size = 5 := by refine ⟨?_, ?_, ?_, ?_⟩ <;> kernel_rfl
theorem tk7_is : tk7.kind = 5 ∧ tk7.text.data.toList = [46] ∧ tk7.at' = 23 ∧ tk7.text.size = 1 := by refine ⟨?_, ?_, ?_, ?_⟩ <;> kernel_rfl
theorem tk8_is : tk8.kind = 2 ∧ tk8.text.data.toList = [102, 105, 114, 115, 116] ∧ tk8.at' = 24 ∧ tk8.text.size = 5 := by refine ⟨?_, ?_, ?_, ?_⟩ <;> kernel_rfl
theorem tk9_is : tk9.kind = 5 ∧ tk9.text.data.toList = [41] ∧ tk9.at' = 29 ∧ tk9.text.size = 1 := by refine ⟨?_, ?_, ?_, ?_⟩ <;> kernel_rfl
theorem tk10_is : tk10.kind = 5 ∧ tk10.text.data.toList = [59] ∧ tk10.at' = 30 ∧ tk10.text.size = 1 := by refine ⟨?_, ?_, ?_, ?_⟩ <;> kernel_rfl
theorem tk11_is : tk11.kind = 4 ∧ tk11.text.data.toList = [82, 49] ∧ tk11.at' = 32 ∧ tk11.text.size = 2 := by refine ⟨?_, ?_, ?_, ?_⟩ <;> kernel_rfl
theorem tk12_is : tk12.kind = 5 ∧ tk12.text.data.toList = [61] ∧ tk12.at' = 35 ∧ tk12.text.size = 1 := by refine ⟨?_, ?_, ?_, ?_⟩ <;> kernel_rfl
theorem tk13_is : tk13.kind = 3 ∧ tk13.text.data.toList = [50] ∧ tk13.at' = 37 ∧ tk13.text.size = 1 := by refine ⟨?_, ?_, ?_, ?_⟩ <;> kernel_rfl
theorem tk14_is : tk14.kind = 5 ∧ tk14.text.data.toList = [59] ∧ tk14.at' = 38 ∧ tk14.text.size = 1 := by refine ⟨?_, ?_, ?_, ?_⟩ <;> kernel_rfl
theorem tk15_is : tk15.kind = 1 ∧ tk15.text.data.toList = [] ∧ tk15.at' = 39 ∧ tk15.text.size = 0 := by refine ⟨?_, ?_, ?_, ?_⟩ <;> kernel_rfl

theorem live_size : liveT.size = 39 := by kernel_rfl
theorem tok_ok {k : Tk} {a n : Nat} (ha : k.at' = a) (hn : k.text.size = n) (h : a + n ≤ 39) : TokOk liveT k := by
  refine ⟨by omega, ?_⟩
  rw [live_size]
  omega
theorem tk0_ok : TokOk liveT tk0 := tok_ok (a := 0) tk0_is.2.2.1 tk0_is.2.2.2 (by omega)
theorem tk0_text : tk0.text.toList = [112, 117, 115, 104] := by rw [ByteArray.toList_eq]; exact tk0_is.2.1
theorem tk1_ok : TokOk liveT tk1 := tok_ok (a := 4) tk1_is.2.2.1 tk1_is.2.2.2 (by omega)
theorem tk1_text : tk1.text.toList = [40] := by rw [ByteArray.toList_eq]; exact tk1_is.2.1
theorem tk2_ok : TokOk liveT tk2 := tok_ok (a := 5) tk2_is.2.2.1 tk2_is.2.2.2 (by omega)
theorem tk2_text : tk2.text.toList = [82, 79, 65, 68, 83] := by rw [ByteArray.toList_eq]; exact tk2_is.2.1
theorem tk3_ok : TokOk liveT tk3 := tok_ok (a := 10) tk3_is.2.2.1 tk3_is.2.2.2 (by omega)
theorem tk3_text : tk3.text.toList = [46] := by rw [ByteArray.toList_eq]; exact tk3_is.2.1
theorem tk4_ok : TokOk liveT tk4 := tok_ok (a := 11) tk4_is.2.2.1 tk4_is.2.2.2 (by omega)
theorem tk4_text : tk4.text.toList = [102, 105, 114, 115, 116] := by rw [ByteArray.toList_eq]; exact tk4_is.2.1
theorem tk5_ok : TokOk liveT tk5 := tok_ok (a := 16) tk5_is.2.2.1 tk5_is.2.2.2 (by omega)
theorem tk5_text : tk5.text.toList = [44] := by rw [ByteArray.toList_eq]; exact tk5_is.2.1
theorem tk6_ok : TokOk liveT tk6 := tok_ok (a := 18) tk6_is.2.2.1 tk6_is.2.2.2 (by omega)
theorem tk6_text : tk6.text.toList = [70, 82, 69, 83, 72] := by rw [ByteArray.toList_eq]; exact tk6_is.2.1
theorem tk7_ok : TokOk liveT tk7 := tok_ok (a := 23) tk7_is.2.2.1 tk7_is.2.2.2 (by omega)
theorem tk7_text : tk7.text.toList = [46] := by rw [ByteArray.toList_eq]; exact tk7_is.2.1
theorem tk8_ok : TokOk liveT tk8 := tok_ok (a := 24) tk8_is.2.2.1 tk8_is.2.2.2 (by omega)
theorem tk8_text : tk8.text.toList = [102, 105, 114, 115, 116] := by rw [ByteArray.toList_eq]; exact tk8_is.2.1
theorem tk9_ok : TokOk liveT tk9 := tok_ok (a := 29) tk9_is.2.2.1 tk9_is.2.2.2 (by omega)
theorem tk9_text : tk9.text.toList = [41] := by rw [ByteArray.toList_eq]; exact tk9_is.2.1
theorem tk10_ok : TokOk liveT tk10 := tok_ok (a := 30) tk10_is.2.2.1 tk10_is.2.2.2 (by omega)
theorem tk10_text : tk10.text.toList = [59] := by rw [ByteArray.toList_eq]; exact tk10_is.2.1
theorem tk11_ok : TokOk liveT tk11 := tok_ok (a := 32) tk11_is.2.2.1 tk11_is.2.2.2 (by omega)
theorem tk11_text : tk11.text.toList = [82, 49] := by rw [ByteArray.toList_eq]; exact tk11_is.2.1
theorem tk12_ok : TokOk liveT tk12 := tok_ok (a := 35) tk12_is.2.2.1 tk12_is.2.2.2 (by omega)
theorem tk12_text : tk12.text.toList = [61] := by rw [ByteArray.toList_eq]; exact tk12_is.2.1
theorem tk13_ok : TokOk liveT tk13 := tok_ok (a := 37) tk13_is.2.2.1 tk13_is.2.2.2 (by omega)
theorem tk13_text : tk13.text.toList = [50] := by rw [ByteArray.toList_eq]; exact tk13_is.2.1
theorem tk14_ok : TokOk liveT tk14 := tok_ok (a := 38) tk14_is.2.2.1 tk14_is.2.2.2 (by omega)
theorem tk14_text : tk14.text.toList = [59] := by rw [ByteArray.toList_eq]; exact tk14_is.2.1
theorem tk15_ok : TokOk liveT tk15 := tok_ok (a := 39) tk15_is.2.2.1 tk15_is.2.2.2 (by omega)
theorem tk15_text : tk15.text.toList = [] := by rw [ByteArray.toList_eq]; exact tk15_is.2.1

theorem list_ne {k : Tk} {l m : List UInt8} (h : k.text.toList = l) (hn : (l == m) = false) : (k.text.toList == m) = false := by rw [h]; exact hn
theorem list_eq {k : Tk} {l : List UInt8} (h : k.text.toList = l) : (k.text.toList == l) = true := by rw [h]; simp

/-- what the text is parsed to -/
def LiveE : World → Nat → Value → Prop := TwoE (PushE 0 5 3 tk2.text tk4.text 18 4 tk6.text tk8.text) (StoreE 32 1 37 2)

theorem live_reads (P : Nat) : Reads 141 [] P liveT (Hx.scan liveT 0) tk15 0 0 0 LiveE := by
  have hs : liveT.size ≤ 4000 := by rw [live_size]; omega
  have q1 : Reads 238 [] P liveT tk2 tk5 1 0 0 (AskE 5 3 tk2.text tk4.text) := by
    have h1 := question_first (P := P) (dp := 1) (en := 0) (ea := 0) hs tk3 tk4 3 tk2_ok (by rw [tk2_text]; rfl) rfl tk3_ok (list_eq tk3_text) rfl tk4_ok tk4_text rfl (k' := tk5)
    rw [tk2_is.2.2.1] at h1
    exact expr_pass (basic_set h1 tk2_is.1 3 (by rw [tk2_text]; rfl)) (list_ne tk2_text (by decide)) (list_ne tk2_text (by decide)) (list_ne tk5_text (by decide)) (by rw [tk5_text]; rfl)
  have q2 : Reads 238 [] P liveT tk6 tk9 1 0 0 (AskE 18 4 tk6.text tk8.text) := by
    have h1 := question_first (P := P) (dp := 1) (en := 0) (ea := 0) hs tk7 tk8 4 tk6_ok (by rw [tk6_text]; rfl) rfl tk7_ok (list_eq tk7_text) rfl tk8_ok tk8_text rfl (k' := tk9)
    rw [tk6_is.2.2.1] at h1
    exact expr_pass (basic_set h1 tk6_is.1 4 (by rw [tk6_text]; rfl)) (list_ne tk6_text (by decide)) (list_ne tk6_text (by decide)) (list_ne tk9_text (by decide)) (by rw [tk9_text]; rfl)
  have p1 := pushing_ok (P := P) (dp := 0) (en := 0) (ea := 0) hs tk1 tk2 tk5 tk6 tk9 tk10 5 3 18 4 tk2.text tk4.text tk6.text tk8.text (by decide) (by omega) (by omega) tk0_ok rfl tk1_ok tk1_text rfl q1 tk5_ok tk5_text rfl q2 tk9_ok tk9_text rfl tk10_ok tk10_text rfl (k' := tk11)
  rw [tk0_is.2.2.1] at p1
  have q3 : Reads 238 [] P liveT tk13 tk14 0 0 0 (NumE 37 2) := by
    have h1 := number_ok (P := P) (dp := 0) (en := 0) (ea := 0) hs tk13_ok 2 (by rw [tk13_is.2.2.2]; omega) (by rw [tk13_is.2.1]; rfl) rfl (k' := tk14)
    rw [tk13_is.2.2.1] at h1
    exact expr_pass (basic_number h1 tk13_is.1) (list_ne tk13_text (by decide)) (list_ne tk13_text (by decide)) (list_ne tk14_text (by decide)) (by rw [tk14_text]; rfl)
  have q4 := given_ok (P := P) (dp := 0) (en := 0) (ea := 0) hs tk13 tk14 (num_stays P 37 2) tk12_ok tk12_text rfl q3 tk14_ok tk14_text rfl (k' := tk15)
  have p2 := storing_num (P := P) (dp := 0) (en := 0) (ea := 0) hs tk12 tk11_ok 1 37 2 (by rw [tk11_is.2.2.2]; omega) (by kernel_rfl) (by omega) (by omega) rfl q4
  rw [tk11_is.2.2.1] at p2
  refine statements_two tk11 tk15 333 327 (push_local _ _ _ _ _ _ _ _ _) (store_local _ _ _ _) ?_ ?_ (statement_push p1 tk0_is.1 tk0_text) (statement_store p2 tk11_is.1) tk15_is.1 tk15_text
  · rintro w B v ⟨A, u1, u2, rfl, _⟩
    exact ⟨_, rfl⟩
  · rintro w B v ⟨A, u, rfl, _⟩
    exact ⟨_, rfl⟩

theorem live_local : Local LiveE := by
  rintro w w' B v ⟨B2, u1, u2, h0, h1, h2, h3⟩ hk
  refine ⟨B2, u1, u2, h0, ?_, push_local _ _ _ _ _ _ _ _ _ _ _ _ _ h2 hk, store_local _ _ _ _ _ _ _ _ h3 fun k hb hl => hk k (by omega) hl⟩
  refine ⟨h1.1, ?_⟩
  rcases h1.2 with h | ⟨g, cap, cur, e1, e2, e3⟩
  · exact Or.inl h
  · exact Or.inr ⟨g, cap, cur, e1, e2, by rw [hk g e2 (lt_of_some e3.1)]; exact e3⟩

theorem live_down (w : World) (B B' : Nat) (v : Value) (h : B' ≤ B) (hE : LiveE w B v) : LiveE w B' v := by
  obtain ⟨B2, u1, u2, h0, h1, ⟨A, x1, x2, a1, a2, a3, a4, a5⟩, h3⟩ := hE
  exact ⟨B2, u1, u2, by omega, owns_mono h1 h, ⟨A, x1, x2, a1, by omega, a3, (ask_stays 0 _ _ _ _).down _ _ _ _ h a4, (ask_stays 0 _ _ _ _).down _ _ _ _ h a5⟩, h3⟩

theorem live_parse (w : World) : Calls Tryz.prog 88 #[.string liveT] w fun e w' => ∃ v, e = .returned (.tuple #[v, .agg #[.int .i64 0, .int .i64 0]]) ∧ LiveE w' w.heap.size v ∧ w.grownBy w' none :=
  parse_ok (by rw [live_size]; omega) tk15 tk15_is.1 live_local live_down live_reads
end Go.Proofs.YthllhabjfchgiaaGreatDoor
