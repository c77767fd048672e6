import Derived.Test.YthllhabjfchgiaaGreatDoorHy26
import Derived.Laws.BytesArg
import Derived.Test.YthllhabjfchgiaaGreatDoorHy13
import Derived.Test.YthllhabjfchgiaaGreatDoorHy14
/- Package lang: what lives' program is coded to. -/
namespace Go.Proofs.YthllhabjfchgiaaGreatDoor
open Go.RowKit
open Hx (Tk)
attribute [local go_sem ↓] Go.wp_at_zero Go.wp_at_succ
attribute [local go_sem] setCell_drewN'
variable {B : Nat} {w : World} {K : Nat} {v : Value} {bs : List Int} {fr : Int}

theorem SetAt.below {S : Nat} {at' of : Int} {base : ByteArray} (h : SetAt w S at' base of) {w' : World} (hb : Below B w w') (hS : S < B) : SetAt w' S at' base of := (hb.block S hS).trans h

theorem list_bd (u : List UInt8) : 0 ≤ listOf u ∧ listOf u ≤ 2 := by
  unfold listOf
  repeat' split
  all_goals omega

set_option maxRecDepth 100000 in
set_option maxHeartbeats 1000000 in
theorem filtered_plain {S : Nat} {at' of : Int} {base : ByteArray} (h : CoIn B w K bs fr) (hn : bs.length ≤ 80000) (h0 : 0 ≤ fr) (h1 : fr ≤ 50) (hS : SetAt w S at' base of) (hSB : S < B) :
    Calls Tryz.prog 347 #[.pointer (some ⟨K, 0, none⟩), .pointer (some ⟨S, 0, none⟩)] w fun e w' => e = .returned (.int .i64 fr) ∧ CoIn B w' K (bs ++ [21, fr * 2, listOf base.toList * 2]) (fr + 1) ∧ Below B w w' := by
  have HH : Hid (Calls Tryz.prog 306 #[.pointer (some ⟨K, 0, none⟩)] w fun e w' => e = .returned (.int .i64 fr) ∧ CoIn B w' K bs (fr + 1) ∧ Below B w w') := hold_ok h h0 (by omega)
  have HS : Hid (SetAt w S at' base of) := hS
  obtain ⟨l0, l1⟩ := list_bd base.toList
  clear h hS
  go_enter Tryz.func347, Tryz.ntmps347
  go_wp2_with fail
  refine HH.out.mono ?_
  rintro e w1 ⟨rfl, p1, b1⟩
  have hS1 := HS.out.below b1 hSB
  have c4 : w1.cell? ⟨S, 4, none⟩ = some (.slice none 0 0) := cell_at hS1
  have HLi : Hid (Calls Tryz.prog 348 #[.pointer (some ⟨S, 0, none⟩)] w1 fun e w' => e = .returned (.int .i64 (listOf base.toList)) ∧ w' = w1) := list_any hS1
  have HLa : Hid (Calls Tryz.prog 92 #[.pointer (some ⟨K, 0, none⟩), .int .u8 21, .slice (some ⟨w1.heap.size, 0, none⟩) 2 2] (w1.alloc (.cells #[.int .i64 fr, .int .i64 (listOf base.toList)] 3)) fun e w' => e = .returned (.tuple #[]) ∧ CoIn B w' K (bs ++ [21, fr * 2, listOf base.toList * 2]) (fr + 1) ∧ Below B w1 w') := lay_two 21 fr _ p1 (by omega) h0 (by omega) l0 (by omega)
  have HB1 : Hid (Below B w w1) := b1
  clear p1 b1 hS1 HH HS
  go_wp2_with fail
  refine HLi.out.mono ?_
  rintro e w2 ⟨rfl, rfl⟩
  go_wp2_with fail
  refine HLa.out.mono ?_
  rintro e w3 ⟨rfl, p3, b3⟩
  have HF : Hid (CoIn B w3 K (bs ++ [21, fr * 2, listOf base.toList * 2]) (fr + 1) ∧ Below B w w3) := ⟨p3, HB1.out.trans b3⟩
  clear p3 b3 HLa HLi HB1
  go_wp2_with fail
  go_ret
  exact ⟨rfl, HF.out⟩

set_option maxRecDepth 100000 in
set_option maxHeartbeats 1000000 in
theorem give_first {A S : Nat} {at' cost kind of : Int} {base what : ByteArray} (h : CoIn B w K bs fr) (hn : bs.length ≤ 70000) (h0 : 0 ≤ fr) (h1 : fr ≤ 40) (hA : AskAt w A S at' cost kind what) (hS : SetAt w S at' base of) (hAB : A < B) (hSB : S < B) (hw : (what.toList == [99, 111, 117, 110, 116]) = false) :
    Calls Tryz.prog 392 #[.pointer (some ⟨A, 0, none⟩), .pointer (some ⟨K, 0, none⟩), .int .i64 (-1)] w fun e w' => e = .returned (.int .i64 fr) ∧ CoIn B w' K (bs ++ [21, fr * 2, listOf base.toList * 2, 24, fr * 2, fr * 2]) (fr + 1) ∧ Below B w w' := by
  obtain ⟨v0, hv0⟩ := h
  have c2 := hv0.c2
  have a4 : w.cell? ⟨A, 4, none⟩ = some (.pointer (some ⟨S, 0, none⟩)) := cell_at hA
  have H1 : Hid (Calls Tryz.prog 347 #[.pointer (some ⟨K, 0, none⟩), .pointer (some ⟨S, 0, none⟩)] w fun e w' => e = .returned (.int .i64 fr) ∧ CoIn B w' K (bs ++ [21, fr * 2, listOf base.toList * 2]) (fr + 1) ∧ Below B w w') := filtered_plain ⟨v0, hv0⟩ (by omega) h0 (by omega) hS hSB
  have HA : Hid (AskAt w A S at' cost kind what) := hA
  clear hv0 hA hS
  generalize hb2 : bs ++ [21, fr * 2, listOf base.toList * 2] = bs2 at *
  have hl2 : bs2.length ≤ 80000 := by rw [← hb2]; simp; omega
  have HB2 : Hid (bs ++ [21, fr * 2, listOf base.toList * 2] = bs2) := hb2
  clear hb2
  go_enter Tryz.func392, Tryz.ntmps392
  go_wp2_with fail
  refine H1.out.mono ?_
  rintro e w1 ⟨rfl, ⟨v1, p1⟩, b1⟩
  have d2 := p1.c2
  have ff := p1.fz
  have hs1 := p1.setFree fr
  have HC : Hid (Calls Tryz.prog 364 #[.pointer (some ⟨K, 0, none⟩), .int .i64 (-1)] (w1.setCell ⟨K, 2, none⟩ (.int .i64 fr)) fun e w' => e = .returned (.int .i64 fr) ∧ CoIn B w' K bs2 (fr + 1) ∧ Below B (w1.setCell ⟨K, 2, none⟩ (.int .i64 fr)) w') := choose_hold ⟨v1, hs1.1⟩ h0 (by omega)
  have HB1 : Hid (Below B w (w1.setCell ⟨K, 2, none⟩ (.int .i64 fr))) := b1.trans hs1.2
  clear p1 b1 hs1 H1
  go_wp2_with fail
  refine HC.out.mono ?_
  rintro e w2 ⟨rfl, p2, b2⟩
  have bw2 := HB1.out.trans b2
  have a3 : w2.cell? ⟨A, 3, none⟩ = some (.string what) := cell_at ((bw2.block A hAB).trans HA.out)
  have HL : Hid (Calls Tryz.prog 92 #[.pointer (some ⟨K, 0, none⟩), .int .u8 24, .slice (some ⟨w2.heap.size, 0, none⟩) 2 2] (w2.alloc (.cells #[.int .i64 fr, .int .i64 fr] 3)) fun e w' => e = .returned (.tuple #[]) ∧ CoIn B w' K (bs2 ++ [24, fr * 2, fr * 2]) (fr + 1) ∧ Below B w2 w') := lay_two 24 fr fr p2 (by omega) h0 (by omega) h0 (by omega)
  have HBw : Hid (Below B w w2) := bw2
  clear p2 b2 bw2 HC HB1
  go_wp2_with fail
  refine HL.out.mono ?_
  rintro e w3 ⟨rfl, p3, b3⟩
  have HF : Hid (CoIn B w3 K (bs ++ [21, fr * 2, listOf base.toList * 2, 24, fr * 2, fr * 2]) (fr + 1) ∧ Below B w w3) := by
    rw [← HB2.out] at p3
    rw [show bs ++ [21, fr * 2, listOf base.toList * 2] ++ [24, fr * 2, fr * 2] = bs ++ [21, fr * 2, listOf base.toList * 2, 24, fr * 2, fr * 2] by simp] at p3
    exact ⟨p3, HBw.out.trans b3⟩
  clear p3 b3 HL HBw
  go_wp2_with fail
  go_ret
  exact ⟨rfl, HF.out⟩

set_option maxRecDepth 100000 in
set_option maxHeartbeats 1000000 in
theorem give_num {A : Nat} {at' n : Int} (into : Int) (h : CoIn B w K bs fr) (hn : bs.length ≤ 70000) (hA : NumAt w A at' n) (i0 : 0 ≤ into) (i1 : into < 64) (n0 : 0 ≤ n) (n1 : n < 64) :
    Calls Tryz.prog 389 #[.pointer (some ⟨A, 0, none⟩), .pointer (some ⟨K, 0, none⟩), .int .i64 into] w fun e w' => e = .returned (.int .i64 into) ∧ CoIn B w' K (bs ++ [6, into * 2, n * 2]) fr ∧ Below B w w' := by
  have a3 : w.cell? ⟨A, 3, none⟩ = some (.int .i64 n) := cell_at hA
  have HC : Hid (Calls Tryz.prog 364 #[.pointer (some ⟨K, 0, none⟩), .int .i64 into] w fun e w' => e = .returned (.int .i64 into) ∧ w' = w) := choose_this into i0 K w
  have HL : Hid (Calls Tryz.prog 92 #[.pointer (some ⟨K, 0, none⟩), .int .u8 6, .slice (some ⟨w.heap.size, 0, none⟩) 2 2] (w.alloc (.cells #[.int .i64 into, .int .i64 n] 3)) fun e w' => e = .returned (.tuple #[]) ∧ CoIn B w' K (bs ++ [6, into * 2, n * 2]) fr ∧ Below B w w') := lay_two 6 into n h (by omega) i0 i1 n0 n1
  clear h hA
  go_enter Tryz.func389, Tryz.ntmps389
  go_wp2_with fail
  refine HC.out.mono ?_
  rintro e w1 ⟨rfl, rfl⟩
  go_wp2_with fail
  refine HL.out.mono ?_
  rintro e w3 ⟨rfl, p3, b3⟩
  have HF : Hid (CoIn B w3 K (bs ++ [6, into * 2, n * 2]) fr ∧ Below B w1 w3) := ⟨p3, b3⟩
  clear p3 b3 HL
  go_wp2_with fail
  go_ret
  exact ⟨rfl, HF.out⟩

theorem asking_give (A : Nat) (w : World) : (method 576 410 (.pointer (some ⟨A, 0, none⟩)) "helm/lang.give").run Tryz.prog w = .ok (392, .pointer (some ⟨A, 0, none⟩)) w := by kernel_rfl
theorem number_give (A : Nat) (w : World) : (method 576 405 (.pointer (some ⟨A, 0, none⟩)) "helm/lang.give").run Tryz.prog w = .ok (389, .pointer (some ⟨A, 0, none⟩)) w := by kernel_rfl
theorem pushing_lay (A : Nat) (w : World) : (method 576 333 (.pointer (some ⟨A, 0, none⟩)) "helm/lang.lay").run Tryz.prog w = .ok (328, .pointer (some ⟨A, 0, none⟩)) w := by kernel_rfl
theorem storing_lay (A : Nat) (w : World) : (method 576 327 (.pointer (some ⟨A, 0, none⟩)) "helm/lang.lay").run Tryz.prog w = .ok (319, .pointer (some ⟨A, 0, none⟩)) w := by kernel_rfl

set_option maxRecDepth 100000 in
set_option maxHeartbeats 1000000 in
theorem store_num {A : Nat} {at' n : Int} (slot : Int) (h : CoIn B w K bs fr) (hn : bs.length ≤ 60000) (hA : NumAt w A at' n) (i0 : 0 ≤ slot) (i1 : slot < 64) (n0 : 0 ≤ n) (n1 : n < 64) :
    Calls Tryz.prog 313 #[.pointer (some ⟨K, 0, none⟩), .int .i64 slot, .iface 405 (.pointer (some ⟨A, 0, none⟩))] w fun e w' => e = .returned (.tuple #[]) ∧ CoIn B w' K (bs ++ [6, slot * 2, n * 2]) fr ∧ Below B w w' := by
  obtain ⟨v0, hv0⟩ := h
  have c2 := hv0.c2
  have HC : Hid (Calls Tryz.prog 389 #[.pointer (some ⟨A, 0, none⟩), .pointer (some ⟨K, 0, none⟩), .int .i64 slot] w fun e w' => e = .returned (.int .i64 slot) ∧ CoIn B w' K (bs ++ [6, slot * 2, n * 2]) fr ∧ Below B w w') := give_num slot ⟨v0, hv0⟩ (by omega) hA i0 i1 n0 n1
  have m1 := number_give A
  clear hv0 hA
  go_enter Tryz.func313, Tryz.ntmps313
  go_wp2_with fail
  refine HC.out.mono ?_
  rintro e w1 ⟨rfl, ⟨v1, p1⟩, b1⟩
  have d2 := p1.c2
  have ff := p1.fz
  have HF : Hid (CoIn B (w1.setCell ⟨K, 2, none⟩ (.int .i64 fr)) K (bs ++ [6, slot * 2, n * 2]) fr ∧ Below B w (w1.setCell ⟨K, 2, none⟩ (.int .i64 fr))) := ⟨⟨v1, (p1.setFree fr).1⟩, b1.trans (p1.setFree fr).2⟩
  clear p1 b1 HC
  go_wp2_with fail
  go_end0
  exact ⟨rfl, HF.out⟩

set_option maxRecDepth 100000 in
set_option maxHeartbeats 1000000 in
theorem lay_store {D A : Nat} {at' at2 n reg : Int} (h : CoIn B w K bs fr) (hn : bs.length ≤ 60000) (hD : StoreAt w D at' reg (.iface 405 (.pointer (some ⟨A, 0, none⟩)))) (hA : NumAt w A at2 n) (i0 : 0 ≤ reg) (i1 : reg < 64) (n0 : 0 ≤ n) (n1 : n < 64) :
    Calls Tryz.prog 319 #[.pointer (some ⟨D, 0, none⟩), .pointer (some ⟨K, 0, none⟩)] w fun e w' => e = .returned (.tuple #[]) ∧ CoIn B w' K (bs ++ [6, reg * 2, n * 2]) fr ∧ Below B w w' := by
  have d2 : w.cell? ⟨D, 2, none⟩ = some (.int .i64 reg) := cell_at hD
  have d3 : w.cell? ⟨D, 3, none⟩ = some (.iface 405 (.pointer (some ⟨A, 0, none⟩))) := cell_at hD
  have HC : Hid (∀ k, Calls Tryz.prog 313 #[.pointer (some ⟨K, 0, none⟩), .int .i64 reg, .iface 405 (.pointer (some ⟨A, 0, none⟩))] (w.drewN k) fun e w' => e = .returned (.tuple #[]) ∧ CoIn B w' K (bs ++ [6, reg * 2, n * 2]) fr ∧ Below B w w') := fun k => by
    refine (store_num reg (h.grow (grown_drewN w k)) hn hA i0 i1 n0 n1).mono ?_
    rintro e w' ⟨e1, e2, e3⟩
    exact ⟨e1, e2, (show Below B w (w.drewN k) from ⟨rfl, rfl, rfl, Nat.le_refl _, fun _ _ => rfl⟩).trans e3⟩
  clear h hD hA
  go_enter Tryz.func319, Tryz.ntmps319
  go_wp2_with fail
  refine wp_quiet_tail 9 (by kernel_rfl) (by kernel_rfl) ?_
  simp only [List.take_succ_cons, List.take_zero, List.drop_succ_cons, List.drop_zero]
  repeat (go_big_quiet_step (fail))
  refine wpQuiet_nil ?_
  intro _ hw'
  obtain ⟨k3, hw''⟩ := hw'
  subst hw''
  go_wp2_with fail
  refine (HC.out _).mono ?_
  rintro e w1 ⟨rfl, p1, b1⟩
  have HF : Hid (CoIn B w1 K (bs ++ [6, reg * 2, n * 2]) fr ∧ Below B w w1) := ⟨p1, b1⟩
  clear p1 b1 HC
  go_wp2_with fail
  go_end0
  exact ⟨rfl, HF.out⟩

set_option maxRecDepth 100000 in
set_option maxHeartbeats 1000000 in
theorem lay_push {W g A A1 S1 A2 S2 D N : Nat} (h : CoIn B w K bs 8) (hn : bs.length ≤ 50000) (hP : LiveP w W g A A1 S1 A2 S2 D N) (hW : W ≤ B) :
    Calls Tryz.prog 328 #[.pointer (some ⟨A, 0, none⟩), .pointer (some ⟨K, 0, none⟩)] w fun e w' => e = .returned (.tuple #[]) ∧ CoIn B w' K (bs ++ [21, 16, 0, 24, 16, 16, 21, 18, 2, 24, 18, 18, 36, 16, 18]) 8 ∧ Below B w w' := by
  obtain ⟨b1, b2, b3, b4, b5, b6, b7, b8⟩ := hP.bd
  obtain ⟨v0, hv0⟩ := h
  have c2 := hv0.c2
  have u1 : w.cell? ⟨A, 2, none⟩ = some (.iface 410 (.pointer (some ⟨A1, 0, none⟩))) := cell_at hP.push
  have HP : Hid (LiveP w W g A A1 S1 A2 S2 D N) := hP
  have H1 : Hid (Calls Tryz.prog 392 #[.pointer (some ⟨A1, 0, none⟩), .pointer (some ⟨K, 0, none⟩), .int .i64 (-1)] w fun e w' => e = .returned (.int .i64 8) ∧ CoIn B w' K (bs ++ [21, 16, 0, 24, 16, 16]) 9 ∧ Below B w w') := by
    have := give_first ⟨v0, hv0⟩ (by omega) (by omega) (by omega) hP.a1 hP.s1 (by omega) (by omega) (by rw [tk4_text]; decide)
    rw [tk2_text] at this
    exact this
  have m1 := asking_give A1
  have m2 := asking_give A2
  clear hv0 hP
  go_enter Tryz.func328, Tryz.ntmps328
  go_wp2_with fail
  refine H1.out.mono ?_
  rintro e w1 ⟨rfl, p1, e1⟩
  have hP1 := HP.out.keep fun k hk => e1.block k (by omega)
  have u2 : w1.cell? ⟨A, 3, none⟩ = some (.iface 410 (.pointer (some ⟨A2, 0, none⟩))) := cell_at hP1.push
  have H2 : Hid (Calls Tryz.prog 392 #[.pointer (some ⟨A2, 0, none⟩), .pointer (some ⟨K, 0, none⟩), .int .i64 (-1)] w1 fun e w' => e = .returned (.int .i64 9) ∧ CoIn B w' K (bs ++ [21, 16, 0, 24, 16, 16, 21, 18, 2, 24, 18, 18]) 10 ∧ Below B w1 w') := by
    have := give_first p1 (by simp; omega) (by omega) (by omega) hP1.a2 hP1.s2 (by omega) (by omega) (by rw [tk8_text]; decide)
    rw [tk6_text] at this
    rw [show bs ++ [21, 16, 0, 24, 16, 16] ++ [21, 9 * 2, listOf [70, 82, 69, 83, 72] * 2, 24, 9 * 2, 9 * 2] = bs ++ [21, 16, 0, 24, 16, 16, 21, 18, 2, 24, 18, 18] by simp [listOf]] at this
    exact this
  have HB1 : Hid (Below B w w1) := e1
  clear p1 e1 hP1 H1 HP
  go_wp2_with fail
  refine H2.out.mono ?_
  rintro e w2 ⟨rfl, p2, e2⟩
  have HL : Hid (Calls Tryz.prog 92 #[.pointer (some ⟨K, 0, none⟩), .int .u8 36, .slice (some ⟨w2.heap.size, 0, none⟩) 2 2] (w2.alloc (.cells #[.int .i64 8, .int .i64 9] 3)) fun e w' => e = .returned (.tuple #[]) ∧ CoIn B w' K (bs ++ [21, 16, 0, 24, 16, 16, 21, 18, 2, 24, 18, 18, 36, 16, 18]) 10 ∧ Below B w2 w') := by
    have := lay_two 36 8 9 p2 (by simp; omega) (by omega) (by omega) (by omega) (by omega)
    rw [show bs ++ [21, 16, 0, 24, 16, 16, 21, 18, 2, 24, 18, 18] ++ [36, 8 * 2, 9 * 2] = bs ++ [21, 16, 0, 24, 16, 16, 21, 18, 2, 24, 18, 18, 36, 16, 18] by simp] at this
    exact this
  have HB2 : Hid (Below B w w2) := HB1.out.trans e2
  clear p2 e2 H2 HB1
  go_wp2_with fail
  refine HL.out.mono ?_
  rintro e w3 ⟨rfl, ⟨v3, p3⟩, e3⟩
  have d2 := p3.c2
  have ff := p3.fz
  have HF : Hid (CoIn B (w3.setCell ⟨K, 2, none⟩ (.int .i64 8)) K (bs ++ [21, 16, 0, 24, 16, 16, 21, 18, 2, 24, 18, 18, 36, 16, 18]) 8 ∧ Below B w (w3.setCell ⟨K, 2, none⟩ (.int .i64 8))) := ⟨⟨v3, (p3.setFree 8).1⟩, (HB2.out.trans e3).trans (p3.setFree 8).2⟩
  clear p3 e3 HL HB2
  go_wp2_with fail
  go_end0
  exact ⟨rfl, HF.out⟩
end Go.Proofs.YthllhabjfchgiaaGreatDoor

/- Package lang: the coder's block, codeOf and Compile at the text of lives. -/
namespace Go.Proofs.YthllhabjfchgiaaGreatDoor
open Go.RowKit
open Hx (Tk)
attribute [local go_sem ↓] Go.wp_at_zero Go.wp_at_succ
attribute [local go_sem] setCell_drewN'
variable {B : Nat} {w : World} {K : Nat} {v : Value} {bs : List Int} {fr : Int}

theorem CoAt.setNames (h : CoAt B w K v bs fr) : CoAt B (w.setCell ⟨K, 1, none⟩ (.slice none 0 0)) K v bs fr ∧ Below B w (w.setCell ⟨K, 1, none⟩ (.slice none 0 0)) := by
  have hg := grown_set w K 1 (.slice none 0 0)
  have o : ∀ j, j ≠ 1 → (w.setCell ⟨K, 1, none⟩ (.slice none 0 0)).cell? ⟨K, j, none⟩ = w.cell? ⟨K, j, none⟩ := fun j hj => World.cell?_setCell_other _ _ _ _ (by intro e; cases e; exact hj rfl)
  refine ⟨⟨h.bK, by rw [o 0 (by omega)]; exact h.c0, World.cell?_setCell_same _ _ _ h.c1, by rw [o 2 (by omega)]; exact h.c2, fun j => by rw [World.frozen?_setCell]; exact h.fz j, h.row.kept hg (Or.inr h.ne), h.ne⟩, ⟨rfl, rfl, rfl, by simp, fun k hk => Below.heap_setCell _ _ _ _ (by show k ≠ K; have := h.bK; omega)⟩⟩

set_option maxRecDepth 100000 in
set_option maxHeartbeats 1000000 in
theorem code_block {W g cap A A1 S1 A2 S2 D N : Nat} (h : CoIn B w K [] 8) (hP : LiveP w W g A A1 S1 A2 S2 D N) (hW : W ≤ B) :
    Calls Tryz.prog 91 #[.pointer (some ⟨K, 0, none⟩), .slice (some ⟨g, 0, none⟩) 2 cap] w fun e w' => e = .returned (.tuple #[]) ∧ CoIn B w' K [21, 16, 0, 24, 16, 16, 21, 18, 2, 24, 18, 18, 36, 16, 18, 6, 2, 4] 8 ∧ Below B w w' := by
  obtain ⟨b1, b2, b3, b4, b5, b6, b7, b8⟩ := hP.bd
  obtain ⟨v0, hv0⟩ := h
  have c1 := hv0.c1
  have c2 := hv0.c2
  have HP : Hid (LiveP w W g A A1 S1 A2 S2 D N) := hP
  obtain ⟨cur, r1, r2, r3⟩ := hP.rows
  have g0 : w.cell? ⟨g, 0, none⟩ = some (.iface 333 (.pointer (some ⟨A, 0, none⟩))) := (cell_at r1).trans r2
  have HR : Hid (w.heap[g]? = some (.cells cur 192) ∧ cur[1]? = some (.iface 327 (.pointer (some ⟨D, 0, none⟩)))) := ⟨r1, r3⟩
  have HI : Hid (CoIn B w K [] 8) := ⟨v0, hv0⟩
  have H1 : Hid (∀ k, Calls Tryz.prog 328 #[.pointer (some ⟨A, 0, none⟩), .pointer (some ⟨K, 0, none⟩)] (w.drewN k) fun e w' => e = .returned (.tuple #[]) ∧ CoIn B w' K [21, 16, 0, 24, 16, 16, 21, 18, 2, 24, 18, 18, 36, 16, 18] 8 ∧ Below B w w') := fun k => by
    refine (lay_push (HI.out.grow (grown_drewN w k)) (by simp) (HP.out.keep fun _ _ => rfl) hW).mono ?_
    rintro e w' ⟨e1, e2, e3⟩
    exact ⟨e1, by simpa using e2, (show Below B w (w.drewN k) from ⟨rfl, rfl, rfl, Nat.le_refl _, fun _ _ => rfl⟩).trans e3⟩
  have m1 := pushing_lay A
  have m2 := storing_lay D
  clear hv0 hP r1 r2 r3 HI
  go_enter Tryz.func91, Tryz.ntmps91
  go_wp2_with fail
  go_quiet (fail)
  go_wp2_with fail
  refine wp_loop_rounds 3 ?_
  rw [rounds_succ]
  go_wp2_with fail
  refine (H1.out _).mono ?_
  rintro e w1 ⟨rfl, p1, e1⟩
  have hP1 := HP.out.keep fun k hk => e1.block k (by omega)
  have g1 : w1.cell? ⟨g, 1, none⟩ = some (.iface 327 (.pointer (some ⟨D, 0, none⟩))) := (cell_at ((e1.block g (by omega)).trans HR.out.1)).trans HR.out.2
  have H2 : Hid (Calls Tryz.prog 319 #[.pointer (some ⟨D, 0, none⟩), .pointer (some ⟨K, 0, none⟩)] w1 fun e w' => e = .returned (.tuple #[]) ∧ CoIn B w' K [21, 16, 0, 24, 16, 16, 21, 18, 2, 24, 18, 18, 36, 16, 18, 6, 2, 4] 8 ∧ Below B w1 w') := lay_store p1 (by simp) hP1.store hP1.num (by omega) (by omega) (by omega) (by omega)
  have HB1 : Hid (Below B w w1) := e1
  clear p1 e1 hP1 H1 HP HR
  go_wp2_with fail
  rw [rounds_succ]
  go_wp2_with fail
  refine H2.out.mono ?_
  rintro e w2 ⟨rfl, ⟨v2, p2⟩, e2⟩
  have d1 := p2.c1
  have d2 := p2.c2
  have fz := p2.fz
  have HF : Hid (CoIn B ((w2.setCell ⟨K, 1, none⟩ (.slice none 0 0)).setCell ⟨K, 2, none⟩ (.int .i64 8)) K [21, 16, 0, 24, 16, 16, 21, 18, 2, 24, 18, 18, 36, 16, 18, 6, 2, 4] 8 ∧ Below B w ((w2.setCell ⟨K, 1, none⟩ (.slice none 0 0)).setCell ⟨K, 2, none⟩ (.int .i64 8))) := by
    have q1 := p2.setNames
    have q2 := q1.1.setFree 8
    exact ⟨⟨v2, q2.1⟩, (HB1.out.trans e2).trans (q1.2.trans q2.2)⟩
  clear p2 e2 H2 HB1
  go_wp2_with fail
  rw [rounds_succ]
  go_wp2_with fail
  go_end0
  exact ⟨rfl, HF.out⟩

theorem ownsRow_nil' (w : World) (B e size : Nat) : w.ownsRow B e size (.slice none 0 0) 0 [] := by
  exact World.ownsRow_nil _ _ _ _

theorem grown_below {w w' : World} {B : Nat} (h : Below B w w') (hB : w.heap.size ≤ B) : w.grownBy w' none := ⟨h.os, h.tape, h.output, h.size, fun k hk _ => h.block k (by omega)⟩

theorem new_coder (w : World) : CoIn w.heap.size (w.alloc (.cells #[.slice none 0 0, .slice none 0 0, .int .i64 8] 197)) w.heap.size [] 8 := by
  have h := heap_alloc_new w (.cells #[.slice none 0 0, .slice none 0 0, .int .i64 8] 197)
  exact ⟨.slice none 0 0, Nat.le_refl _, cell_at h, cell_at h, cell_at h, fun j => frozen_at h, World.ownsRow_nil _ _ _ _, by simp [Value.ownBlock]⟩

theorem CoAt.cells (h : CoAt B w K v bs fr) (hne : bs ≠ []) : ∃ g cap, v = .slice (some ⟨g, 0, none⟩) bs.length cap ∧ ∀ i, i < bs.length → w.cell? ⟨g, 0 + i, none⟩ = some (.int .u8 (bs.getD i 0)) := by
  rcases h.row.2 with ⟨_, e⟩ | ⟨g, cap, cur, e1, e2, e3, e4, e5, e6, e7⟩
  · exact absurd (by simpa using e) hne
  · refine ⟨g, cap, e1, fun i hi => ?_⟩
    have hc : w.cell? ⟨g, 0 + i, none⟩ = cur[0 + i]? := cell_at e3
    rw [hc]
    have h1 := congrArg (fun l : List Value => l[i]?) e7
    simp only [Nat.mul_one] at h1
    rw [List.getElem?_take_of_lt hi, List.getElem?_map, List.getElem?_eq_getElem hi] at h1
    rw [Nat.zero_add, ← Array.getElem?_toList, h1]
    simp [List.getD, List.getElem?_eq_getElem hi]

set_option maxRecDepth 100000 in
set_option maxHeartbeats 1000000 in
theorem codeOf_live {W g cap A A1 S1 A2 S2 D N : Nat} (hP : LiveP w W g A A1 S1 A2 S2 D N) (hW : W ≤ w.heap.size) :
    Calls Tryz.prog 46 #[.slice (some ⟨g, 0, none⟩) 2 cap] w fun e w' => e = .returned (.string (strOfNums [21, 16, 0, 24, 16, 16, 21, 18, 2, 24, 18, 18, 36, 16, 18, 6, 2, 4, 0])) ∧ w.grownBy w' none := by
  have H1 : Hid (∀ o, o = Obj.cells #[.slice none 0 0, .slice none 0 0, .int .i64 8] 197 → Calls Tryz.prog 91 #[.pointer (some ⟨w.heap.size, 0, none⟩), .slice (some ⟨g, 0, none⟩) 2 cap] (w.alloc o) fun e w' => e = .returned (.tuple #[]) ∧ CoIn w.heap.size w' w.heap.size [21, 16, 0, 24, 16, 16, 21, 18, 2, 24, 18, 18, 36, 16, 18, 6, 2, 4] 8 ∧ w.grownBy w' none) := fun o ho => by
    subst ho
    refine (code_block (new_coder w) (hP.keep fun k hk => Below.heap_alloc _ _ _ (by omega)) hW).mono ?_
    rintro e w' ⟨e1, e2, e3⟩
    exact ⟨e1, e2, grown_below ((Below.refl w.heap.size w).alloc (Nat.le_refl _) _ |>.trans e3) (Nat.le_refl _)⟩
  clear hP
  go_enter Tryz.func46, Tryz.ntmps46
  go_wp2_with fail
  refine (H1.out _ rfl).mono ?_
  rintro e w1 ⟨rfl, p1, g1⟩
  have H2 : Hid (Calls Tryz.prog 92 #[.pointer (some ⟨w.heap.size, 0, none⟩), .int .u8 0, .slice none 0 0] w1 fun e w' => e = .returned (.tuple #[]) ∧ CoIn w.heap.size w' w.heap.size [21, 16, 0, 24, 16, 16, 21, 18, 2, 24, 18, 18, 36, 16, 18, 6, 2, 4, 0] 8 ∧ Below w.heap.size w1 w') := lay_nil 0 p1 (by simp)
  have HG : Hid (w.grownBy w1 none) := g1
  clear p1 g1 H1
  go_wp2_with fail
  refine H2.out.mono ?_
  rintro e w2 ⟨rfl, ⟨v2, p2⟩, e2⟩
  have HF : Hid (w.grownBy w2 none) := ⟨e2.os.trans HG.out.os, e2.tape.trans HG.out.tape, e2.output.trans HG.out.output, Nat.le_trans HG.out.size e2.size, fun k hk h => (e2.block k hk).trans (HG.out.block k hk h)⟩
  have c0 := p2.c0
  obtain ⟨g2, cap2, rfl, hcell⟩ := p2.cells (by simp)
  have hconv : (convert 194 9 (.slice (some ⟨g2, 0, none⟩) 19 cap2)).run Tryz.prog w2 = .ok (.string (strOfNums [21, 16, 0, 24, 16, 16, 21, 18, 2, 24, 18, 18, 36, 16, 18, 6, 2, 4, 0])) w2 := run_convert_bytes_arg w2 194 5 (by kernel_rfl) (by kernel_rfl) g2 0 19 cap2 _ rfl (fun i hi => hcell i hi) 9 (by kernel_rfl)
  clear p2 e2 H2 HG hcell
  go_wp2_with fail
  go_ret
  exact ⟨rfl, HF.out⟩

/-- the bytes that the text of lives comes to -/
def liveC : ByteArray := strOfNums [21, 16, 0, 24, 16, 16, 21, 18, 2, 24, 18, 18, 36, 16, 18, 6, 2, 4, 0]

set_option maxRecDepth 100000 in
set_option maxHeartbeats 1000000 in
theorem compile_live (w : World) : Calls Tryz.prog 12 #[.string liveT, .bool false] w fun e w' => e = .returned (.tuple #[.string liveC, .int .i64 0, .int .i64 0]) ∧ w.grownBy w' none := by
  go_enter Tryz.func12, Tryz.ntmps12
  go_wp2_with fail
  refine (checked_live _).mono ?_
  rintro e w1 ⟨W, g, cap, A, A1, S1, A2, S2, D, N, rfl, hP, hW, g1⟩
  have HP : Hid (LiveP w1 W g A A1 S1 A2 S2 D N ∧ W ≤ w1.heap.size ∧ w.grownBy w1 none) := ⟨hP, hW, g1⟩
  clear hP hW g1
  go_wp2_with fail
  refine (codeOf_live (HP.out.1.keep fun k hk => Below.heap_alloc _ _ _ (Nat.lt_of_lt_of_le hk HP.out.2.1)) (Nat.le_trans HP.out.2.1 (by simp))).mono ?_
  rintro e w2 ⟨rfl, g2⟩
  have HG : Hid (w.grownBy w2 none) := (HP.out.2.2.trans (World.grownBy_alloc w1 _ none)).trans g2
  clear g2 HP
  go_wp2_with fail
  exact bodyPost_ret (by simp [results, Tryz.results12, go_sem]; rfl) rfl ⟨rfl, HG.out⟩
end Go.Proofs.YthllhabjfchgiaaGreatDoor

/- Package helmkeep: pick. -/
namespace Go.Proofs.YthllhabjfchgiaaGreatDoor
open Go.RowKit
open Hx (Rd Pk Vw St Mc In64)
attribute [local go_sem ↓] Go.wp_at_zero Go.wp_at_succ
attribute [local go_sem] setCell_drewN'

def pickN (c n : Int) : Int := (if c < 0 then -(c + 1) else c) % n

theorem pickN_bd {c n : Int} (hn : 0 < n) : 0 ≤ pickN c n ∧ pickN c n < n := ⟨Int.emod_nonneg _ (by omega), Int.emod_lt_of_pos _ hn⟩

set_option maxRecDepth 100000 in
set_option maxHeartbeats 1000000 in
theorem pick_any (w : World) (c n : Int) (hc : In64 c) (hn : 0 < n) (hn2 : n ≤ 9223372036854775807) :
    Calls Tryz.prog 28 #[.int .i64 c, .int .i64 n] w fun e w' => e = .returned (.int .i64 (pickN c n)) ∧ w' = w := by
  obtain ⟨c0, c1⟩ := hc
  have n0 : ¬ n = 0 := by omega
  by_cases h : c < 0
  · have d : decide (c < 0) = true := decide_eq_true h
    go_enter Tryz.func28, Tryz.ntmps28
    go_wp2
    go_ret
    refine ⟨ret_int ?_, rfl⟩
    rw [pickN, if_pos h]
    first
      | (rw [← Int.neg_tmod]; exact Int.tmod_eq_emod_of_nonneg (by omega))
      | exact Int.tmod_eq_emod_of_nonneg (by omega)
  · have d : decide (c < 0) = false := decide_eq_false h
    go_enter Tryz.func28, Tryz.ntmps28
    go_wp2
    go_ret
    refine ⟨ret_int ?_, rfl⟩
    rw [pickN, if_neg (by omega)]
end Go.Proofs.YthllhabjfchgiaaGreatDoor

/- Package helmkeep: viewOf: the plain function, and what it has in memory. -/
namespace Go.Proofs.YthllhabjfchgiaaGreatDoor
open Go.RowKit
open Hx (Rd Pk Vw St Mc In64)

/-- the roads that viewOf keeps, those that it has and those that are left -/
def addRoads (out : List Rd) : List Rd → List Rd
  | [] => out
  | r :: rs => if out.length < 8 then addRoads (if out.any (fun q => decide (q.id = pickN r.id 8)) then out else out ++ [{ r with id := pickN r.id 8 }]) rs else out

def viewOut (v : Vw) : Vw := ⟨addRoads [] v.roads, v.fresh.take 16, v.again.take 16⟩

def roadCells (l : List Rd) : List Value := l.flatMap fun r => [.int .i64 r.id, .int .i64 r.rtt, .int .i64 r.cwnd, .int .i64 r.out, .bool r.lossy]
def packCells (l : List Pk) : List Value := l.flatMap fun p => [.int .i64 p.seq, .int .i64 p.size, .int .i64 p.on]

def seenOf (out : List Rd) : Array Value := (List.range 8).map (fun (k : Nat) => Value.bool (out.any fun q => decide (q.id = (k : Int)))) |>.toArray

def Apart (u v : Value) : Prop := ∀ k, u.ownBlock = some k → v.ownBlock = some k → False

theorem Apart.symm {u v : Value} (h : Apart u v) : Apart v u := fun k a b => h k b a
theorem Apart.or {u v : Value} (h : Apart u v) : u.ownBlock = none ∨ u.ownBlock ≠ v.ownBlock := by
  cases hu : u.ownBlock with
  | none => exact Or.inl rfl
  | some k => exact Or.inr fun e => h k hu e.symm
theorem apart_nil (v : Value) : Apart (.slice none 0 0) v := fun k h _ => by simp [Value.ownBlock] at h

structure Raw where
  ar : Option Addr
  af : Option Addr
  aa : Option Addr
  nr : Nat
  cr : Nat
  nf : Nat
  cf : Nat
  na : Nat
  ca : Nat

/-- amid viewOf: the four blocks, and the rows -/
structure VoIn (w wr : World) (x : Raw) (vr vf va : Value) (out : List Rd) (fs gs : List Pk) (sn : Array Value) : Prop where
  below : Below w.heap.size w wr
  size : w.heap.size + 4 ≤ wr.heap.size
  b0 : wr.heap[w.heap.size]? = some (.cells #[.slice x.ar x.nr x.cr, .slice x.af x.nf x.cf, .slice x.aa x.na x.ca] 25)
  b1 : wr.heap[w.heap.size + 1]? = some (.cells #[.slice none 0 0, .slice none 0 0, .slice none 0 0] 25)
  b2 : wr.heap[w.heap.size + 2]? = some (.cells #[vr, vf, va] 25)
  b3 : wr.heap[w.heap.size + 3]? = some (.cells sn 146)
  rowR : wr.ownsRow (w.heap.size + 4) 74 5 vr out.length (roadCells out)
  rowF : wr.ownsRow (w.heap.size + 4) 72 3 vf fs.length (packCells fs)
  rowA : wr.ownsRow (w.heap.size + 4) 72 3 va gs.length (packCells gs)
  nRF : Apart vr vf
  nRA : Apart vr va
  nFA : Apart vf va

variable {w wr y : World} {x : Raw} {vr vf va : Value} {out : List Rd} {fs gs : List Pk} {sn : Array Value}

theorem VoIn.grow (h : VoIn w wr x vr vf va out fs gs sn) (hg : wr.grownBy y none) : VoIn w y x vr vf va out fs gs sn := by
  have hs := h.size
  have hb : ∀ k, k < w.heap.size + 4 → y.heap[k]? = wr.heap[k]? := fun k hk => hg.block k (by omega) (by simp)
  have hn : ∀ v : Value, v.ownBlock = none ∨ v.ownBlock ≠ none := fun v => by cases v.ownBlock <;> simp
  exact ⟨h.below.trans ⟨hg.os, hg.tape, hg.output, hg.size, fun k hk => hb k (by omega)⟩, by have := hg.size; omega, (hb _ (by omega)).trans h.b0, (hb _ (by omega)).trans h.b1, (hb _ (by omega)).trans h.b2, (hb _ (by omega)).trans h.b3,
    h.rowR.kept hg (hn _), h.rowF.kept hg (hn _), h.rowA.kept hg (hn _), h.nRF, h.nRA, h.nFA⟩

theorem own_far {B k : Nat} {e : TypeId} {s n : Nat} {v : Value} {xs : List Value} (h : wr.ownsRow B e s v n xs) (hk : k < B) : v.ownBlock = none ∨ v.ownBlock ≠ some k := by
  cases hv : v.ownBlock with
  | none => exact Or.inl rfl
  | some g =>
    right
    have := (h.lt g hv).1
    intro e
    simp only [Option.some.injEq] at e
    omega

theorem VoIn.seen (h : VoIn w wr x vr vf va out fs gs sn) (j : Nat) (u : Value) : VoIn w (wr.setCell ⟨w.heap.size + 3, j, none⟩ u) x vr vf va out fs gs (sn.setIfInBounds j u) := by
  have hs := h.size
  have hg := grown_set wr (w.heap.size + 3) j u
  have o : ∀ k, k ≠ w.heap.size + 3 → (wr.setCell ⟨w.heap.size + 3, j, none⟩ u).heap[k]? = wr.heap[k]? := fun k hk => Below.heap_setCell _ _ _ _ hk
  exact ⟨h.below.setCell (p := ⟨w.heap.size + 3, j, none⟩) (by show _ ≤ w.heap.size + 3; omega) _, by simpa using hs, (o _ (by omega)).trans h.b0, (o _ (by omega)).trans h.b1, (o _ (by omega)).trans h.b2,
    heap_setCell_same _ _ _ _ _ _ h.b3, h.rowR.kept hg (own_far h.rowR (by omega)), h.rowF.kept hg (own_far h.rowF (by omega)), h.rowA.kept hg (own_far h.rowA (by omega)), h.nRF, h.nRA, h.nFA⟩

/-- behind an append: what another row keeps, and that it is apart from the new one -/
theorem other_row {B : Nat} {e : TypeId} {s n : Nat} {u v : Value} {xs : List Value} {g : Nat} (h : wr.ownsRow B e s u n xs) (hg : wr.grownBy y v.ownBlock) (ha : Apart u v) (hat : v.ownBlock = some g ∨ wr.heap.size ≤ g) (l c : Nat) :
    y.ownsRow B e s u n xs ∧ Apart u (.slice (some ⟨g, 0, none⟩) l c) := by
  refine ⟨h.kept hg ha.or, fun k h1 h2 => ?_⟩
  simp only [Value.ownBlock, Option.some.injEq] at h2
  subst h2
  rcases hat with e | e
  · exact ha g h1 e
  · have := (h.lt g h1).2
    omega

/-- behind an append to one of the three, and the store of what it gave -/
theorem VoIn.after (h : VoIn w wr x vr vf va out fs gs sn) {v : Value} (hv : v = vr ∨ v = vf ∨ v = va) (hg : wr.grownBy y v.ownBlock) (j : Nat) (u : Value) :
    Below w.heap.size w (y.setCell ⟨w.heap.size + 2, j, none⟩ u) ∧ w.heap.size + 4 ≤ (y.setCell ⟨w.heap.size + 2, j, none⟩ u).heap.size ∧
    (∀ k, k < w.heap.size + 4 → k ≠ w.heap.size + 2 → (y.setCell ⟨w.heap.size + 2, j, none⟩ u).heap[k]? = wr.heap[k]?) ∧
    (y.setCell ⟨w.heap.size + 2, j, none⟩ u).heap[w.heap.size + 2]? = some (.cells ((#[vr, vf, va] : Array Value).setIfInBounds j u) 25) ∧ y.heap[w.heap.size + 2]? = some (.cells #[vr, vf, va] 25) := by
  have hs := h.size
  have hfar : ∀ k, k < w.heap.size + 4 → some k ≠ v.ownBlock := fun k hk e => by
    have h1 := h.rowR.lt k
    have h2 := h.rowF.lt k
    have h3 := h.rowA.lt k
    rcases hv with rfl | rfl | rfl
    · have := h1 e.symm; omega
    · have := h2 e.symm; omega
    · have := h3 e.symm; omega
  have hb : ∀ k, k < w.heap.size + 4 → y.heap[k]? = wr.heap[k]? := fun k hk => hg.block k (by omega) (hfar k hk)
  have h2 := (hb (w.heap.size + 2) (by omega)).trans h.b2
  have hsz := hg.size
  refine ⟨?_, by simp; omega, fun k hk hne => (Below.heap_setCell _ _ _ _ hne).trans (hb k hk), heap_setCell_same _ _ _ _ _ _ h2, h2⟩
  exact (h.below.trans ⟨hg.os, hg.tape, hg.output, hg.size, fun k hk => hb k (by omega)⟩).setCell (p := ⟨w.heap.size + 2, j, none⟩) (by show _ ≤ w.heap.size + 2; omega) _

theorem VoIn.addR (h : VoIn w wr x vr vf va out fs gs sn) (hg : wr.grownBy y vr.ownBlock) {g cap : Nat} (r : Rd) (ho : y.ownsRow (w.heap.size + 4) 74 5 (.slice (some ⟨g, 0, none⟩) (out.length + 1) cap) (out.length + 1) (roadCells out ++ [.int .i64 r.id, .int .i64 r.rtt, .int .i64 r.cwnd, .int .i64 r.out, .bool r.lossy])) (hat : vr.ownBlock = some g ∨ wr.heap.size ≤ g) :
    VoIn w (y.setCell ⟨w.heap.size + 2, 0, none⟩ (.slice (some ⟨g, 0, none⟩) (out.length + 1) cap)) x (.slice (some ⟨g, 0, none⟩) (out.length + 1) cap) vf va (out ++ [r]) fs gs sn := by
  obtain ⟨e1, e2, e3, e4, e5⟩ := h.after (Or.inl rfl) hg 0 (.slice (some ⟨g, 0, none⟩) (out.length + 1) cap)
  have hs := h.size
  have gs2 := grown_set y (w.heap.size + 2) 0 (.slice (some ⟨g, 0, none⟩) (out.length + 1) cap)
  obtain ⟨f1, f2⟩ := other_row h.rowF hg h.nRF.symm hat (out.length + 1) cap
  obtain ⟨a1, a2⟩ := other_row h.rowA hg h.nRA.symm hat (out.length + 1) cap
  have ho2 := ho.kept gs2 (own_far ho (by omega))
  refine ⟨e1, e2, (e3 _ (by omega) (by omega)).trans h.b0, (e3 _ (by omega) (by omega)).trans h.b1, e4, (e3 _ (by omega) (by omega)).trans h.b3, ?_, f1.kept gs2 (own_far f1 (by omega)), a1.kept gs2 (own_far a1 (by omega)), f2.symm, a2.symm, h.nFA⟩
  simpa [roadCells] using ho2

theorem VoIn.addF (h : VoIn w wr x vr vf va out fs gs sn) (hg : wr.grownBy y vf.ownBlock) {g cap : Nat} (r : Pk) (ho : y.ownsRow (w.heap.size + 4) 72 3 (.slice (some ⟨g, 0, none⟩) (fs.length + 1) cap) (fs.length + 1) (packCells fs ++ [.int .i64 r.seq, .int .i64 r.size, .int .i64 r.on])) (hat : vf.ownBlock = some g ∨ wr.heap.size ≤ g) :
    VoIn w (y.setCell ⟨w.heap.size + 2, 1, none⟩ (.slice (some ⟨g, 0, none⟩) (fs.length + 1) cap)) x vr (.slice (some ⟨g, 0, none⟩) (fs.length + 1) cap) va out (fs ++ [r]) gs sn := by
  obtain ⟨e1, e2, e3, e4, e5⟩ := h.after (Or.inr (Or.inl rfl)) hg 1 (.slice (some ⟨g, 0, none⟩) (fs.length + 1) cap)
  have hs := h.size
  have gs2 := grown_set y (w.heap.size + 2) 1 (.slice (some ⟨g, 0, none⟩) (fs.length + 1) cap)
  obtain ⟨f1, f2⟩ := other_row h.rowR hg h.nRF hat (fs.length + 1) cap
  obtain ⟨a1, a2⟩ := other_row h.rowA hg h.nFA.symm hat (fs.length + 1) cap
  have ho2 := ho.kept gs2 (own_far ho (by omega))
  refine ⟨e1, e2, (e3 _ (by omega) (by omega)).trans h.b0, (e3 _ (by omega) (by omega)).trans h.b1, e4, (e3 _ (by omega) (by omega)).trans h.b3, f1.kept gs2 (own_far f1 (by omega)), ?_, a1.kept gs2 (own_far a1 (by omega)), f2, h.nRA, a2.symm⟩
  simpa [packCells] using ho2

theorem VoIn.addA (h : VoIn w wr x vr vf va out fs gs sn) (hg : wr.grownBy y va.ownBlock) {g cap : Nat} (r : Pk) (ho : y.ownsRow (w.heap.size + 4) 72 3 (.slice (some ⟨g, 0, none⟩) (gs.length + 1) cap) (gs.length + 1) (packCells gs ++ [.int .i64 r.seq, .int .i64 r.size, .int .i64 r.on])) (hat : va.ownBlock = some g ∨ wr.heap.size ≤ g) :
    VoIn w (y.setCell ⟨w.heap.size + 2, 2, none⟩ (.slice (some ⟨g, 0, none⟩) (gs.length + 1) cap)) x vr vf (.slice (some ⟨g, 0, none⟩) (gs.length + 1) cap) out fs (gs ++ [r]) sn := by
  obtain ⟨e1, e2, e3, e4, e5⟩ := h.after (Or.inr (Or.inr rfl)) hg 2 (.slice (some ⟨g, 0, none⟩) (gs.length + 1) cap)
  have hs := h.size
  have gs2 := grown_set y (w.heap.size + 2) 2 (.slice (some ⟨g, 0, none⟩) (gs.length + 1) cap)
  obtain ⟨f1, f2⟩ := other_row h.rowR hg h.nRA hat (gs.length + 1) cap
  obtain ⟨a1, a2⟩ := other_row h.rowF hg h.nFA hat (gs.length + 1) cap
  have ho2 := ho.kept gs2 (own_far ho (by omega))
  refine ⟨e1, e2, (e3 _ (by omega) (by omega)).trans h.b0, (e3 _ (by omega) (by omega)).trans h.b1, e4, (e3 _ (by omega) (by omega)).trans h.b3, f1.kept gs2 (own_far f1 (by omega)), a1.kept gs2 (own_far a1 (by omega)), ?_, h.nRF, f2, a2⟩
  simpa [packCells] using ho2

theorem seen_at (out : List Rd) (k : Nat) (hk : k < 8) : (seenOf out)[k]? = some (.bool (out.any fun q => decide (q.id = (k : Int)))) := by
  simp [seenOf, hk]

theorem seen_set (out : List Rd) (r : Rd) (k : Nat) (hk : k < 8) (hr : r.id = (k : Int)) : (seenOf out).setIfInBounds k (.bool true) = seenOf (out ++ [r]) := by
  apply Array.ext_getElem?
  intro i
  rw [Array.getElem?_setIfInBounds]
  by_cases hi : i < 8
  · rw [seen_at _ _ hi, seen_at _ _ hi]
    by_cases e : k = i
    · subst e
      rw [if_pos rfl, if_pos (by simpa [seenOf] using hk)]
      simp [hr]
    · rw [if_neg e]
      have : ¬ r.id = (i : Int) := by omega
      simp [this]
  · have h1 : (seenOf out)[i]? = none := by simp [seenOf]; omega
    have h2 : (seenOf (out ++ [r]))[i]? = none := by simp [seenOf]; omega
    rw [h1, h2]
    by_cases e : k = i
    · omega
    · rw [if_neg e]
end Go.Proofs.YthllhabjfchgiaaGreatDoor
