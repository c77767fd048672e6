import Derived.Test.YthllhabjfchgiaaGreatDoorHy01
import Derived.Test.YthllhabjfchgiaaGreatDoorHy02
import Derived.Deep.DrawnRows
import Derived.BigRegion
import Derived.StillTailTactics
/- (*machine).begin and (*machine).turn. -/
namespace Go.Proofs.YthllhabjfchgiaaGreatDoor
open Go.RowKit
open Hx (Rd Pk Vw St Mc In64)
variable {B C : Nat} {w : World} {M SB : Nat} {v : Vw} {m : Mc}

set_option maxRecDepth 100000 in
set_option maxHeartbeats 1000000 in
theorem begin_any (hm : MachIn B C w M SB v m) (b o : Nat) (q l x : Int) (c : Nat) (d : Int) (dp : Nat) (t : Int) (hst : StepAt w b o ⟨q, l, x, c, d, dp, t⟩) (hc : c < m.slots.length) (hd : dp < 8) :
    Calls Tryz.prog 52 #[.pointer (some ⟨M, 0, none⟩), .pointer (some ⟨b, o, none⟩)] w fun e w' => e = .returned (.tuple #[]) ∧ MachIn B C w' M SB v (Hx.begins v ⟨q, l, x, c, d, dp, t⟩ m) ∧ Below B w w' := by
  have HP : Hid (∀ n, MachIn B C ((w.drewN n).setCell ⟨M, 4 + dp, none⟩ (.int .u64 (Hx.unsigned (bits .and .i64 (m.slots.getD c 0) (v.all l))))) M SB v (Hx.begins v ⟨q, l, x, c, d, dp, t⟩ m) ∧
    Below B w ((w.drewN n).setCell ⟨M, 4 + dp, none⟩ (.int .u64 (Hx.unsigned (bits .and .i64 (m.slots.getD c 0) (v.all l)))))) := fun n => by
    refine ⟨?_, (below_drewN (Below.refl _ _) n).setCell (p := ⟨M, 4 + dp, none⟩) hm.bM _⟩
    have := (hm.drewN n).putLeft hd (Hx.unsigned_bd (bits .and .i64 (m.slots.getD c 0) (v.all l)))
    simpa [Hx.begins, Hx.Mc.get] using this
  have HV : Hid (∀ n, ViewIn B (w.drewN n) M v) := fun n => (hm.drewN n).view
  have hs := hm.slots
  have cc := hm.slot c hc
  have cl := hm.left dp hd
  have fl := hm.leftF dp hd
  obtain ⟨s0, s1, s2, s3, s4, s5, s6⟩ := hst
  simp only at s0 s1 s2 s3 s4 s5
  clear hm s6 s4 s2 s0
  generalize Hx.begins v ⟨q, l, x, c, d, dp, t⟩ m = m' at HP ⊢
  generalize m.slots.getD c 0 = xc at *
  generalize m.left.getD dp 0 = xl at *
  generalize hy : Hx.unsigned (bits .and .i64 xc (v.all l)) = y at HP
  have HY : Hid (IntKind.u64.wrap (bits .and .i64 xc (v.all l)) = y) := hy
  clear hy
  generalize m.slots.length = len at *
  have i3 : (0 : Int) ≤ (c : Int) := by omega
  have j3 : (c : Int) < (len : Int) := by omega
  have i4 : (0 : Int) ≤ (dp : Int) := by omega
  have j4 : (dp : Int) < 8 := by omega
  go_enter Tryz.func52, Tryz.ntmps52
  go_wp2_with fail
  go_quiet (fail)
  go_wp2_with fail
  refine wp_quiet_tailN 14 (by kernel_rfl) (by kernel_rfl) ?_
  simp only [List.take_succ_cons, List.take_zero, List.drop_succ_cons, List.drop_zero]
  repeat (go_big_quiet_step ((go_at_call 95; exact Calls.quiet_of_same (all_any B M l v _ (HV.out _)))))
  refine wpQuiet_nil ?_
  intro _ hw'
  obtain ⟨n2, hw''⟩ := hw'
  subst hw''
  rw [HY.out]
  go_wp2
  go_end0
  exact ⟨rfl, HP.out _⟩

set_option maxRecDepth 100000 in
set_option maxHeartbeats 1000000 in
theorem turn_out (hm : MachIn B C w M SB v m) (b o n cap : Nat) (k : Nat) (q l x c d : Int) (dp : Nat) (t : Int) (hk : k < n) (hst : StepAt w b (o + k * 7) ⟨q, l, x, c, d, dp, t⟩) (hd : dp < 8) (hz : m.left.getD dp 0 = 0) :
    Calls Tryz.prog 53 #[.pointer (some ⟨M, 0, none⟩), .slice (some ⟨b, o, none⟩) n cap, .int .i64 k] w fun e w' => e = .returned (.int .i64 t) ∧ MachIn B C w' M SB v m ∧ Below B w w' := by
  have HP : Hid (∀ n, MachIn B C (w.drewN n) M SB v m ∧ Below B w (w.drewN n)) := fun n => ⟨hm.drewN n, below_drewN (Below.refl _ _) n⟩
  have cl := hm.left dp hd
  rw [hz] at cl
  obtain ⟨s0, s1, s2, s3, s4, s5, s6⟩ := hst
  simp only at s0 s1 s2 s3 s4 s5 s6
  clear hm s4 s2 s0 s3 s1 hz
  have i4 : (0 : Int) ≤ (dp : Int) := by omega
  have j4 : (dp : Int) < 8 := by omega
  have i5 : (0 : Int) ≤ (k : Int) := by omega
  have j5 : (k : Int) < (n : Int) := by omega
  go_enter Tryz.func53, Tryz.ntmps53
  go_wp2_with fail
  go_quiet (fail)
  go_wp2_with fail
  go_ret
  exact ⟨rfl, HP.out _⟩

set_option maxRecDepth 100000 in
set_option maxHeartbeats 2000000 in
theorem turn_in (hm : MachIn B C w M SB v m) (b o n cap : Nat) (k : Nat) (q l : Int) (x : Nat) (c d : Int) (dp : Nat) (t : Int) (hb : b < B) (hk : k < n) (hn : n ≤ 1000000) (hst : StepAt w b (o + k * 7) ⟨q, l, x, c, d, dp, t⟩) (hx : x < m.slots.length) (hd : dp < 8) (hz : ¬ m.left.getD dp 0 = 0) :
    Calls Tryz.prog 53 #[.pointer (some ⟨M, 0, none⟩), .slice (some ⟨b, o, none⟩) n cap, .int .i64 k] w fun e w' => e = .returned (.int .i64 (k + 1)) ∧
      MachIn B C w' M SB v ((m.put x (Hx.tz (m.left.getD dp 0))).putLeft dp (bits .and .u64 (m.left.getD dp 0) (IntKind.u64.wrap (m.left.getD dp 0 - 1)))) ∧ Below B w w' := by
  have htz := Hx.tz_bd _ (hm.inLeft dp).1 (hm.inLeft dp).2
  have HP : Hid (∀ n1 n2, MachIn B C ((((w.drewN n1).setCell ⟨SB, x, none⟩ (.int .i64 (Hx.tz (m.left.getD dp 0)))).drewN n2).setCell ⟨M, 4 + dp, none⟩ (.int .u64 (bits .and .u64 (m.left.getD dp 0) (IntKind.u64.wrap (m.left.getD dp 0 - 1))))) M SB v
        ((m.put x (Hx.tz (m.left.getD dp 0))).putLeft dp (bits .and .u64 (m.left.getD dp 0) (IntKind.u64.wrap (m.left.getD dp 0 - 1)))) ∧
      Below B w ((((w.drewN n1).setCell ⟨SB, x, none⟩ (.int .i64 (Hx.tz (m.left.getD dp 0)))).drewN n2).setCell ⟨M, 4 + dp, none⟩ (.int .u64 (bits .and .u64 (m.left.getD dp 0) (IntKind.u64.wrap (m.left.getD dp 0 - 1)))))) := fun n1 n2 => by
    refine ⟨?_, (below_drewN ((below_drewN (Below.refl _ _) n1).setCell (p := ⟨SB, x, none⟩) hm.bS _) n2).setCell (p := ⟨M, 4 + dp, none⟩) hm.bM _⟩
    refine (((hm.drewN n1).put hx ?_).drewN n2).putLeft hd ?_
    · exact ⟨by omega, by omega⟩
    · exact ⟨bits_lo_u64 _ _ _, by have := bits_hi_u64 .and (m.left.getD dp 0) (IntKind.u64.wrap (m.left.getD dp 0 - 1)); omega⟩
  have HT : Hid (∀ n, Tab64 (w.drewN n)) := fun n => (hm.drewN n).tab
  have hs := hm.slots
  have cx := hm.slot x hx
  have fx := hm.slotF x hx
  have cl := hm.left dp hd
  have fl := hm.leftF dp hd
  have ne1 : ¬ SB = M := fun e => hm.ne e.symm
  have ne2 : ¬ b = SB := by have := hm.bS; omega
  have ne3 : ¬ SB = b := fun e => ne2 e.symm
  have il := hm.inLeft dp
  obtain ⟨s0, s1, s2, s3, s4, s5, s6⟩ := hst
  simp only at s0 s1 s2 s3 s4 s5 s6
  clear hm s4 s0 s3 s1 s6 htz
  generalize ((m.put x (Hx.tz (m.left.getD dp 0))).putLeft dp (bits .and .u64 (m.left.getD dp 0) (IntKind.u64.wrap (m.left.getD dp 0 - 1)))) = m' at HP ⊢
  generalize m.left.getD dp 0 = xl at *
  generalize m.slots.getD x 0 = xx at *
  obtain ⟨il0, il1⟩ := il
  have hz' : (xl == 0) = false := by simpa using hz
  have HL : Hid (0 ≤ xl ∧ xl < 18446744073709551616) := ⟨il0, il1⟩
  clear hz il1
  generalize m.slots.length = len at *
  have i3 : (0 : Int) ≤ (x : Int) := by omega
  have j3 : (x : Int) < (len : Int) := by omega
  have i4 : (0 : Int) ≤ (dp : Int) := by omega
  have j4 : (dp : Int) < 8 := by omega
  have i5 : (0 : Int) ≤ (k : Int) := by omega
  have j5 : (k : Int) < (n : Int) := by omega
  go_enter Tryz.func53, Tryz.ntmps53
  go_wp2_with fail
  go_quiet (fail)
  go_wp2_with fail
  refine wp_quiet_tailN 12 (by kernel_rfl) (by kernel_rfl) ?_
  simp only [List.take_succ_cons, List.take_zero, List.drop_succ_cons, List.drop_zero]
  repeat (go_big_quiet_step ((go_at_call 96; exact Calls.quiet_of_same (tz_any xl HL.out.1 HL.out.2 _ (HT.out _)))))
  refine wpQuiet_nil ?_
  intro _ hw'
  obtain ⟨n2, hw''⟩ := hw'
  subst hw''
  go_wp2_with fail
  refine wp_quiet_tail 12 (by kernel_rfl) (by kernel_rfl) ?_
  simp only [List.take_succ_cons, List.take_zero, List.drop_succ_cons, List.drop_zero]
  repeat (go_big_quiet_step (fail))
  refine wpQuiet_nil ?_
  intro _ hw'
  obtain ⟨n3, hw''⟩ := hw'
  subst hw''
  go_wp2
  go_ret
  exact ⟨rfl, HP.out _ _⟩

theorem turn_any (hm : MachIn B C w M SB v m) (b o n cap : Nat) (k : Nat) (s : St) (hb : b < B) (hk : k < n) (hn : n ≤ 1000000) (hst : StepAt w b (o + k * 7) s) (hx : St.slot m.slots.length s.b) (hd : 0 ≤ s.depth ∧ s.depth < 8) :
    Calls Tryz.prog 53 #[.pointer (some ⟨M, 0, none⟩), .slice (some ⟨b, o, none⟩) n cap, .int .i64 k] w fun e w' => e = .returned (.int .i64 (Hx.turn s k m).2) ∧ MachIn B C w' M SB v (Hx.turn s k m).1 ∧ Below B w w' := by
  obtain ⟨q, a, x, c, d, dp, t⟩ := s
  obtain ⟨hx0, hx⟩ := hx
  simp only at hx0 hx hd
  obtain ⟨x, rfl⟩ := Int.eq_ofNat_of_zero_le hx0
  obtain ⟨dp, rfl⟩ := Int.eq_ofNat_of_zero_le hd.1
  by_cases hz : m.left.getD dp 0 = 0
  · refine (turn_out hm b o n cap k q a x c d dp t hk hst (by omega) hz).mono ?_
    rintro e w' ⟨rfl, h2, h3⟩
    have e1 : Hx.turn ⟨q, a, x, c, d, dp, t⟩ k m = (m, t) := by
      unfold Hx.turn
      rw [if_pos]
      simpa [Hx.Mc.leftAt] using hz
    rw [e1]
    exact ⟨rfl, h2, h3⟩
  · refine (turn_in hm b o n cap k q a x c d dp t hb hk hn hst (by omega) (by omega) hz).mono ?_
    rintro e w' ⟨rfl, h2, h3⟩
    have e1 : Hx.turn ⟨q, a, x, c, d, dp, t⟩ k m = ((m.put x (Hx.tz (m.left.getD dp 0))).putLeft dp (bits .and .u64 (m.left.getD dp 0) (IntKind.u64.wrap (m.left.getD dp 0 - 1))), (k : Int) + 1) := by
      unfold Hx.turn
      rw [if_neg]
      · simp [Hx.Mc.leftAt]
      · simpa [Hx.Mc.leftAt] using hz
    rw [e1]
    exact ⟨rfl, h2, h3⟩
end Go.Proofs.YthllhabjfchgiaaGreatDoor

/- (*machine).choose. -/
namespace Go.Proofs.YthllhabjfchgiaaGreatDoor
open Go.RowKit
open Hx (Rd Pk Vw St Mc In64)
variable {B C : Nat} {w : World} {M SB : Nat} {v : Vw} {m : Mc}

theorem put_put (hm : MachIn B C w M SB v m) {a b : Nat} {x y : Int} (ha : a < m.slots.length) (hb : b < m.slots.length) (hx : In64 x) (hy : In64 y) (o : Obj) (n : Nat) :
    MachIn B C ((((w.alloc o).drewN n).setCell ⟨SB, a, none⟩ (.int .i64 x)).setCell ⟨SB, b, none⟩ (.int .i64 y)) M SB v ((m.put a x).put b y) ∧
    Below B w ((((w.alloc o).drewN n).setCell ⟨SB, a, none⟩ (.int .i64 x)).setCell ⟨SB, b, none⟩ (.int .i64 y)) := by
  refine ⟨(((hm.alloc o).drewN n).put ha hx).put (by simpa [Hx.Mc.put] using hb) hy, ?_⟩
  have := hm.bS
  have h0 := hm.size
  have h1 := hm.cS
  exact ((below_drewN ((Below.refl _ _).alloc (by omega) o) n).setCell (p := ⟨SB, a, none⟩) this _).setCell (p := ⟨SB, b, none⟩) this _

set_option maxHeartbeats 2000000 in
/-- the two stores of choose, behind what it has asked -/
theorem choose_take (hm : MachIn B C w M SB v m) (a b c d : Nat) (better : Bool) (ha : a < m.slots.length) (hb : b < m.slots.length) (hc : c < m.slots.length) (hd : d < m.slots.length)
    (hbet : better = true ∨ m.slots.getD a 0 = -1) :
    Calls Tryz.prog 99 #[.pointer (some ⟨M, 0, none⟩), .agg #[.int .i64 a, .int .i64 b, .int .i64 c, .int .i64 d], .bool better] w fun e w' => e = .returned (.tuple #[]) ∧ MachIn B C w' M SB v ((m.put a (m.slots.getD c 0)).put b (m.slots.getD d 0)) ∧ Below B w w' := by
  have HP : Hid (∀ o n, MachIn B C ((((w.alloc o).drewN n).setCell ⟨SB, a, none⟩ (.int .i64 (m.slots.getD c 0))).setCell ⟨SB, b, none⟩ (.int .i64 (m.slots.getD d 0))) M SB v ((m.put a (m.slots.getD c 0)).put b (m.slots.getD d 0)) ∧
      Below B w ((((w.alloc o).drewN n).setCell ⟨SB, a, none⟩ (.int .i64 (m.slots.getD c 0))).setCell ⟨SB, b, none⟩ (.int .i64 (m.slots.getD d 0)))) := fun o n => put_put hm ha hb (hm.inSlots c) (hm.inSlots d) o n
  have hs := hm.slots
  have ca := hm.slot a ha
  have cb := hm.slot b hb
  have cc := hm.slot c hc
  have cd := hm.slot d hd
  have fa := hm.slotF a ha
  have fb := hm.slotF b hb
  have h0 := hm.size
  have h1 := hm.cS
  have h2 := hm.cM
  have n1 : ¬ SB = w.heap.size := by omega
  have n3 : ¬ SB = M := fun e => hm.ne e.symm
  have n2 : ¬ M = w.heap.size := by omega
  have hSB : SB < w.heap.size := by omega
  have hM : M < w.heap.size := by omega
  generalize hm1 : (m.put a (m.slots.getD c 0)).put b (m.slots.getD d 0) = m' at HP ⊢
  clear hm1 hm h0 h1 h2
  generalize m.slots.getD a 0 = xa at *
  generalize m.slots.getD b 0 = xb at *
  generalize m.slots.getD c 0 = xc at *
  generalize m.slots.getD d 0 = xd at *
  generalize m.slots.length = len at *
  have i1 : (0 : Int) ≤ (a : Int) := by omega
  have i2 : (0 : Int) ≤ (b : Int) := by omega
  have i3 : (0 : Int) ≤ (c : Int) := by omega
  have i4 : (0 : Int) ≤ (d : Int) := by omega
  have j1 : (a : Int) < (len : Int) := by omega
  have j2 : (b : Int) < (len : Int) := by omega
  have j3 : (c : Int) < (len : Int) := by omega
  have j4 : (d : Int) < (len : Int) := by omega
  have hbet' : better = true ∨ better = false ∧ xa = -1 := by
    cases better
    · exact Or.inr ⟨rfl, hbet.resolve_left (by simp)⟩
    · exact Or.inl rfl
  clear hbet
  rcases hbet' with rfl | ⟨rfl, rfl⟩
  all_goals
    by_cases hab : a = b
    · subst hab
      go_enter Tryz.func99, Tryz.ntmps99
      go_wp2_with fail
      go_quiet (fail)
      go_wp2_with fail
      go_quiet (fail)
      go_wp2_with fail
      go_region_held3 (fun w' => w'.cell? ⟨M, 3, none⟩ = some (.slice (some ⟨SB, 0, none⟩) len len) ∧ w'.cell? ⟨w.heap.size, 0, none⟩ = some (.int .i64 a) ∧ w'.cell? ⟨w.heap.size, 1, none⟩ = some (.int .i64 a)) (go_keep) (fail)
      go_wp2
      go_end0
      exact ⟨rfl, HP.out _ _⟩
    · have hba : ¬ b = a := fun h => hab h.symm
      go_enter Tryz.func99, Tryz.ntmps99
      go_wp2_with fail
      go_quiet (fail)
      go_wp2_with fail
      go_quiet (fail)
      go_wp2_with fail
      go_region_held3 (fun w' => w'.cell? ⟨M, 3, none⟩ = some (.slice (some ⟨SB, 0, none⟩) len len) ∧ w'.cell? ⟨w.heap.size, 0, none⟩ = some (.int .i64 a) ∧ w'.cell? ⟨w.heap.size, 1, none⟩ = some (.int .i64 b)) (go_keep) (fail)
      go_wp2
      go_end0
      exact ⟨rfl, HP.out _ _⟩

set_option maxHeartbeats 1000000 in
theorem choose_leave (hm : MachIn B C w M SB v m) (a b c d : Nat) (ha : a < m.slots.length) (hc : c < m.slots.length) (hd : d < m.slots.length)
    (hbet : ¬ m.slots.getD a 0 = -1) :
    Calls Tryz.prog 99 #[.pointer (some ⟨M, 0, none⟩), .agg #[.int .i64 a, .int .i64 b, .int .i64 c, .int .i64 d], .bool false] w fun e w' => e = .returned (.tuple #[]) ∧ MachIn B C w' M SB v m ∧ Below B w w' := by
  have h0 := hm.size
  have h1 := hm.cS
  have h2 := hm.cM
  have h3 := hm.bM
  have HP : Hid (∀ o n, MachIn B C ((w.alloc o).drewN n) M SB v m ∧ Below B w ((w.alloc o).drewN n)) := fun o n => ⟨(hm.alloc o).drewN n, below_drewN ((Below.refl _ _).alloc (by omega) o) n⟩
  have hs := hm.slots
  have ca := hm.slot a ha
  have cc := hm.slot c hc
  have cd := hm.slot d hd
  have n1 : ¬ SB = w.heap.size := by omega
  have n2 : ¬ M = w.heap.size := by omega
  have hSB : SB < w.heap.size := by omega
  have hM : M < w.heap.size := by omega
  clear hm h0 h1 h2 h3
  generalize m.slots.getD a 0 = xa at *
  generalize m.slots.getD c 0 = xc at *
  generalize m.slots.getD d 0 = xd at *
  generalize m.slots.length = len at *
  have i1 : (0 : Int) ≤ (a : Int) := by omega
  have i3 : (0 : Int) ≤ (c : Int) := by omega
  have i4 : (0 : Int) ≤ (d : Int) := by omega
  have j1 : (a : Int) < (len : Int) := by omega
  have j3 : (c : Int) < (len : Int) := by omega
  have j4 : (d : Int) < (len : Int) := by omega
  have hx : (xa == -1) = false := by simpa using hbet
  go_enter Tryz.func99, Tryz.ntmps99
  go_wp2_with fail
  go_quiet (fail)
  go_wp2_with fail
  go_quiet (fail)
  go_wp2
  go_end0
  exact ⟨rfl, by rw [World.drewN_drewN]; exact HP.out _ _⟩

theorem choose_any (hm : MachIn B C w M SB v m) (a b c d : Nat) (better : Bool) (ha : a < m.slots.length) (hb : b < m.slots.length) (hc : c < m.slots.length) (hd : d < m.slots.length) :
    Calls Tryz.prog 99 #[.pointer (some ⟨M, 0, none⟩), .agg #[.int .i64 a, .int .i64 b, .int .i64 c, .int .i64 d], .bool better] w fun e w' => e = .returned (.tuple #[]) ∧
      MachIn B C w' M SB v (Hx.choose ⟨0, a, b, c, d, 0, 0⟩ better m) ∧ Below B w w' := by
  by_cases h : better = true ∨ m.slots.getD a 0 = -1
  · refine (choose_take hm a b c d better ha hb hc hd h).mono ?_
    rintro e w' ⟨rfl, h1, h2⟩
    have hk : (better || m.get (a : Int) == -1) = true := by
      rcases h with rfl | h
      · rfl
      · simp only [Hx.Mc.get, Int.toNat_natCast, h]; simp
    refine ⟨rfl, ?_, h2⟩
    unfold Hx.choose
    rw [if_pos hk]
    simpa [Hx.Mc.get] using h1
  · have hb' : better = false := by
      cases better
      · rfl
      · exact absurd (Or.inl rfl) h
    subst hb'
    have hx : ¬ m.slots.getD a 0 = -1 := fun e => h (Or.inr e)
    refine (choose_leave hm a b c d ha hc hd hx).mono ?_
    rintro e w' ⟨rfl, h1, h2⟩
    refine ⟨rfl, ?_, h2⟩
    unfold Hx.choose
    have hk : ¬ (false || m.get (a : Int) == -1) = true := by
      simp only [Hx.Mc.get, Int.toNat_natCast, Bool.false_or, beq_iff_eq]; exact hx
    rw [if_neg hk]
    exact h1
end Go.Proofs.YthllhabjfchgiaaGreatDoor

/- (*machine).work: an instruction that leads to the next one. -/
namespace Go.Proofs.YthllhabjfchgiaaGreatDoor
open Go.RowKit
open Hx (Rd Pk Vw St Mc In64)
variable {B C : Nat} {w : World} {M SB : Nat} {v : Vw} {m : Mc}
attribute [local go_sem ↓] Go.wp_at_zero Go.wp_at_succ

/-- one store of a slot, behind a box and draws -/
theorem put_one (hm : MachIn B C w M SB v m) {a : Nat} {x : Int} (ha : a < m.slots.length) (hx : In64 x) (o : Obj) (n : Nat) :
    MachIn B C (((w.alloc o).drewN n).setCell ⟨SB, a, none⟩ (.int .i64 x)) M SB v (m.put a x) ∧
    Below B w (((w.alloc o).drewN n).setCell ⟨SB, a, none⟩ (.int .i64 x)) := by
  refine ⟨((hm.alloc o).drewN n).put ha hx, ?_⟩
  have := hm.bS
  have h0 := hm.size
  have h1 := hm.cS
  exact (below_drewN ((Below.refl _ _).alloc (by omega) o) n).setCell (p := ⟨SB, a, none⟩) this _

/-- a box that was made ahead of a store elsewhere -/
theorem cell_box (w : World) (x : Addr) (u : Value) (c : Array Value) (t : TypeId) (i : Nat) : ((w.setCell x u).alloc (.cells c t)).cell? ⟨w.heap.size, i, none⟩ = c[i]? :=
  World.cell?_alloc_at _ _ _ _ (by simp)

theorem put_one' (hm : MachIn B C w M SB v m) {a : Nat} {x : Int} (ha : a < m.slots.length) (hx : In64 x) (o : Obj) (n : Nat) :
    MachIn B C (((w.setCell ⟨SB, a, none⟩ (.int .i64 x)).alloc o).drewN n) M SB v (m.put a x) ∧
    Below B w (((w.setCell ⟨SB, a, none⟩ (.int .i64 x)).alloc o).drewN n) := by
  refine ⟨((hm.put ha hx).alloc o).drewN n, ?_⟩
  have := hm.bS
  have h0 := hm.size
  have h1 := hm.cS
  exact below_drewN (((Below.refl _ _).setCell (p := ⟨SB, a, none⟩) this _).alloc (by simp; omega) o) n

set_option maxHeartbeats 1000000 in
theorem work_number (hm : MachIn B C w M SB v m) (b o : Nat) (a : Nat) (x c d dp t : Int) (hb : b < B) (hst : StepAt w b o ⟨6, a, x, c, d, dp, t⟩) (ha : a < m.slots.length) (hx : In64 x) :
    Calls Tryz.prog 55 #[.pointer (some ⟨M, 0, none⟩), .pointer (some ⟨b, o, none⟩)] w fun e w' => e = .returned (.tuple #[]) ∧ MachIn B C w' M SB v (m.put a x) ∧ Below B w w' := by
  have HP : Hid (∀ o n, MachIn B C (((w.setCell ⟨SB, a, none⟩ (.int .i64 x)).alloc o).drewN n) M SB v (m.put a x) ∧
    Below B w (((w.setCell ⟨SB, a, none⟩ (.int .i64 x)).alloc o).drewN n)) := fun o n => put_one' hm ha hx o n
  have kb := fun (u : Value) (c : Array Value) (i : Nat) => cell_box w ⟨SB, a, none⟩ u c 123 i
  have hs := hm.slots
  have ca := hm.slot a ha
  have fa := hm.slotF a ha
  have h0 := hm.size
  have h1 := hm.cS
  have h2 := hm.cM
  have h3 := hm.bM
  have n1 : ¬ SB = w.heap.size := by omega
  have n3 : ¬ SB = M := fun e => hm.ne e.symm
  have n2 : ¬ M = w.heap.size := by omega
  have n4 : ¬ b = w.heap.size := by omega
  have hSB : SB < w.heap.size := by omega
  have hM : M < w.heap.size := by omega
  have hbs : b < w.heap.size := by omega
  obtain ⟨s0, s1, s2, s3, s4, s5, s6⟩ := hst
  simp only at s0 s1 s2 s3 s4
  clear hm h0 h1 h2 h3 s5 s6
  generalize m.slots.getD a 0 = xa at *
  generalize m.slots.length = len at *
  have i1 : (0 : Int) ≤ (a : Int) := by omega
  have j1 : (a : Int) < (len : Int) := by omega
  go_enter Tryz.func55, Tryz.ntmps55
  go_wp2_with fail
  go_region_held3 (fun w' => w'.cell? ⟨M, 3, none⟩ = some (.slice (some ⟨SB, 0, none⟩) len len) ∧ w'.cell? ⟨w.heap.size, 0, none⟩ = some (.int .i64 a) ∧ w'.cell? ⟨w.heap.size, 1, none⟩ = some (.int .i64 x)) (go_keep) (fail)
  go_wp2
  go_end0
  exact ⟨rfl, HP.out _ 1⟩

theorem all_in (v : Vw) (l : Int) : In64 (v.all l) := by
  unfold Hx.Vw.all Hx.allOf
  repeat' split
  all_goals exact Hx.in_wrap _

set_option maxHeartbeats 1000000 in
theorem work_all (hm : MachIn B C w M SB v m) (b o : Nat) (a : Nat) (l c d dp t : Int) (hb : b < B) (hst : StepAt w b o ⟨21, a, l, c, d, dp, t⟩) (ha : a < m.slots.length) :
    Calls Tryz.prog 55 #[.pointer (some ⟨M, 0, none⟩), .pointer (some ⟨b, o, none⟩)] w fun e w' => e = .returned (.tuple #[]) ∧ MachIn B C w' M SB v (m.put a (v.all l)) ∧ Below B w w' := by
  have HP : Hid (∀ o n, MachIn B C (((w.alloc o).drewN n).setCell ⟨SB, a, none⟩ (.int .i64 (v.all l))) M SB v (m.put a (v.all l)) ∧
    Below B w (((w.alloc o).drewN n).setCell ⟨SB, a, none⟩ (.int .i64 (v.all l)))) := fun o n => put_one hm ha (all_in v l) o n
  have kb := fun (u : Value) (c : Array Value) (i : Nat) => cell_box w ⟨SB, a, none⟩ u c 123 i
  have HV : Hid (∀ o n, ViewIn B ((w.alloc o).drewN n) M v) := fun o n => ((hm.alloc o).drewN n).view
  have ca := hm.slot a ha
  have fa := hm.slotF a ha
  have hs := hm.slots
  have h0 := hm.size
  have h1 := hm.cS
  have h2 := hm.cM
  have h3 := hm.bM
  have n1 : ¬ SB = w.heap.size := by omega
  have n3 : ¬ SB = M := fun e => hm.ne e.symm
  have n2 : ¬ M = w.heap.size := by omega
  have n4 : ¬ b = w.heap.size := by omega
  have hSB : SB < w.heap.size := by omega
  have hM : M < w.heap.size := by omega
  have hbs : b < w.heap.size := by omega
  obtain ⟨s0, s1, s2, s3, s4, s5, s6⟩ := hst
  simp only at s0 s1 s2 s3 s4
  clear hm h0 h1 h2 h3 s5 s6
  generalize m.slots.getD a 0 = xa at *
  generalize m.slots.length = len at *
  have i1 : (0 : Int) ≤ (a : Int) := by omega
  have j1 : (a : Int) < (len : Int) := by omega
  go_enter Tryz.func55, Tryz.ntmps55
  go_wp2_with fail
  go_region_held3 (fun w' => w'.cell? ⟨M, 3, none⟩ = some (.slice (some ⟨SB, 0, none⟩) len len) ∧ w'.cell? ⟨w.heap.size, 0, none⟩ = some (.int .i64 a) ∧ w'.cell? ⟨w.heap.size, 1, none⟩ = some (.int .i64 l)) (go_keep)
    ((go_at_call 95; refine (all_any B M _ v _ (HV.out _ 1)).mono ?_; rintro e w' ⟨rfl, rfl⟩))
  go_wp2
  go_end0
  exact ⟨rfl, HP.out _ 1⟩

set_option maxHeartbeats 1000000 in
theorem work_keep (hm : MachIn B C w M SB v m) (b o : Nat) (a x : Nat) (c d dp t : Int) (hb : b < B) (hst : StepAt w b o ⟨22, a, x, c, d, dp, t⟩) (ha : a < m.slots.length) (hx : x < m.slots.length) :
    Calls Tryz.prog 55 #[.pointer (some ⟨M, 0, none⟩), .pointer (some ⟨b, o, none⟩)] w fun e w' => e = .returned (.tuple #[]) ∧ MachIn B C w' M SB v (m.put a (Hx.keepBit (m.slots.getD a 0) (m.slots.getD x 0))) ∧ Below B w w' := by
  have HP : Hid (∀ o n, MachIn B C (((w.setCell ⟨SB, a, none⟩ (.int .i64 (Hx.keepBit (m.slots.getD a 0) (m.slots.getD x 0)))).alloc o).drewN n) M SB v (m.put a (Hx.keepBit (m.slots.getD a 0) (m.slots.getD x 0))) ∧
    Below B w (((w.setCell ⟨SB, a, none⟩ (.int .i64 (Hx.keepBit (m.slots.getD a 0) (m.slots.getD x 0)))).alloc o).drewN n)) := fun o n => put_one' hm ha (Hx.in_bits _ _ _) o n
  have kb := fun (u : Value) (c : Array Value) (i : Nat) => cell_box w ⟨SB, a, none⟩ u c 123 i
  have ca := hm.slot a ha
  have fa := hm.slotF a ha
  have cx := hm.slot x hx
  have hs := hm.slots
  have h0 := hm.size
  have h1 := hm.cS
  have h2 := hm.cM
  have h3 := hm.bM
  have n1 : ¬ SB = w.heap.size := by omega
  have n3 : ¬ SB = M := fun e => hm.ne e.symm
  have n2 : ¬ M = w.heap.size := by omega
  have n4 : ¬ b = w.heap.size := by omega
  have hSB : SB < w.heap.size := by omega
  have hM : M < w.heap.size := by omega
  have hbs : b < w.heap.size := by omega
  obtain ⟨s0, s1, s2, s3, s4, s5, s6⟩ := hst
  simp only at s0 s1 s2 s3 s4
  clear hm h0 h1 h2 h3 s5 s6
  generalize hk : Hx.keepBit (m.slots.getD a 0) (m.slots.getD x 0) = kk at HP ⊢
  have HK := hk.symm
  clear hk
  generalize m.slots.getD a 0 = xa at *
  generalize m.slots.getD x 0 = xx at *
  generalize m.slots.length = len at *
  unfold Hx.keepBit Hx.unsigned at HK
  subst HK
  have i1 : (0 : Int) ≤ (a : Int) := by omega
  have j1 : (a : Int) < (len : Int) := by omega
  have i2 : (0 : Int) ≤ (x : Int) := by omega
  have j2 : (x : Int) < (len : Int) := by omega
  have u0 : 0 ≤ IntKind.u64.wrap xx := by rw [IntKind.wrap_u64]; omega
  have u1 : IntKind.u64.wrap xx % 64 < 64 := by omega
  have u2 : 0 ≤ IntKind.u64.wrap xx % 64 := by omega
  go_enter Tryz.func55, Tryz.ntmps55
  go_wp2_with fail
  go_region
  go_wp2
  go_end0
  exact ⟨rfl, HP.out _ 1⟩
end Go.Proofs.YthllhabjfchgiaaGreatDoor

/- (*machine).work: Least and Most, and all others. -/
namespace Go.Proofs.YthllhabjfchgiaaGreatDoor
open Go.RowKit
open Hx (Rd Pk Vw St Mc In64)
variable {B C : Nat} {w : World} {M SB : Nat} {v : Vw} {m : Mc}
attribute [local go_sem ↓] Go.wp_at_zero Go.wp_at_succ

/-- a region whose last operations stand in one order, behind operations that only read -/
theorem wp_still_tail {P : Program} {id : Nat} {Q : Exit → Act → World → Prop} {a : Act} {w : World} {l : List Oper} (n : Nat) (hm : P.follows .mixedOrders = true) (hB : Region.lexTailB .any l.toArray n = true)
    (h : wpStill P l.toArray w.drew (fun a' => wpList P l.toArray Q (l.drop n) a' w.drew) (l.take n) a) : (Code.region id l.toArray true).wp P Q a w :=
  wp_region_still_tail n hm hB h

set_option maxRecDepth 100000 in
set_option maxHeartbeats 1000000 in
theorem work_least (hm : MachIn B C w M SB v m) (b o : Nat) (a x c d : Nat) (dp t : Int) (hb : b < B) (hst : StepAt w b o ⟨25, a, x, c, d, dp, t⟩) (ha : a < m.slots.length) (hx : x < m.slots.length) (hc : c < m.slots.length) (hd : d < m.slots.length) :
    Calls Tryz.prog 55 #[.pointer (some ⟨M, 0, none⟩), .pointer (some ⟨b, o, none⟩)] w fun e w' => e = .returned (.tuple #[]) ∧ MachIn B C w' M SB v (Hx.choose ⟨0, a, x, c, d, 0, 0⟩ (decide (m.slots.getD d 0 < m.slots.getD x 0)) m) ∧ Below B w w' := by
  have HC : Hid (∀ (o : Obj) (better : Bool), Calls Tryz.prog 99 #[.pointer (some ⟨M, 0, none⟩), .agg #[.int .i64 a, .int .i64 x, .int .i64 c, .int .i64 d], .bool better] ((w.alloc o).drew) fun e w' => e = .returned (.tuple #[]) ∧
      MachIn B C w' M SB v (Hx.choose ⟨0, a, x, c, d, 0, 0⟩ better m) ∧ Below B ((w.alloc o).drew) w') := fun o better => choose_any ((hm.alloc o).drewN 1) a x c d better ha hx hc hd
  have HB : Hid (∀ (o : Obj) (n : Nat), Below B w ((w.alloc o).drewN n)) := fun o n => below_drewN ((Below.refl _ _).alloc (by have := hm.size; have := hm.cM; have := hm.bM; omega) o) n
  have cx := hm.slot x hx
  have cd := hm.slot d hd
  have hs := hm.slots
  have h0 := hm.size
  have h1 := hm.cS
  have h2 := hm.cM
  have h3 := hm.bM
  have n1 : ¬ SB = w.heap.size := by omega
  have n3 : ¬ SB = M := fun e => hm.ne e.symm
  have n2 : ¬ M = w.heap.size := by omega
  have n4 : ¬ b = w.heap.size := by omega
  have hSB : SB < w.heap.size := by omega
  have hM : M < w.heap.size := by omega
  have hbs : b < w.heap.size := by omega
  obtain ⟨s0, s1, s2, s3, s4, s5, s6⟩ := hst
  simp only at s0 s1 s2 s3 s4
  clear hm h0 h1 h2 h3 s5 s6
  generalize m.slots.getD x 0 = xx at *
  generalize m.slots.getD d 0 = xd at *
  generalize m.slots.length = len at *
  have i2 : (0 : Int) ≤ (x : Int) := by omega
  have j2 : (x : Int) < (len : Int) := by omega
  have i4 : (0 : Int) ≤ (d : Int) := by omega
  have j4 : (d : Int) < (len : Int) := by omega
  go_enter Tryz.func55, Tryz.ntmps55
  go_wp2_with fail
  refine wp_still_tail 19 (by kernel_rfl) (by kernel_rfl) ?_
  simp only [List.take_succ_cons, List.take_zero, List.drop_succ_cons, List.drop_zero]
  repeat still_step
  refine wpStill_nil ?_
  go_wp2_with fail
  refine (HC.out _ _).mono ?_
  rintro e w1 ⟨rfl, hm1, hb1⟩
  go_wp2
  go_end0
  exact ⟨rfl, hm1, (HB.out _ 1).trans hb1⟩

set_option maxRecDepth 100000 in
set_option maxHeartbeats 1000000 in
theorem work_most (hm : MachIn B C w M SB v m) (b o : Nat) (a x c d : Nat) (dp t : Int) (hb : b < B) (hst : StepAt w b o ⟨26, a, x, c, d, dp, t⟩) (ha : a < m.slots.length) (hx : x < m.slots.length) (hc : c < m.slots.length) (hd : d < m.slots.length) :
    Calls Tryz.prog 55 #[.pointer (some ⟨M, 0, none⟩), .pointer (some ⟨b, o, none⟩)] w fun e w' => e = .returned (.tuple #[]) ∧ MachIn B C w' M SB v (Hx.choose ⟨0, a, x, c, d, 0, 0⟩ (decide (m.slots.getD x 0 < m.slots.getD d 0)) m) ∧ Below B w w' := by
  have HC : Hid (∀ (o : Obj) (better : Bool), Calls Tryz.prog 99 #[.pointer (some ⟨M, 0, none⟩), .agg #[.int .i64 a, .int .i64 x, .int .i64 c, .int .i64 d], .bool better] ((w.alloc o).drew) fun e w' => e = .returned (.tuple #[]) ∧
      MachIn B C w' M SB v (Hx.choose ⟨0, a, x, c, d, 0, 0⟩ better m) ∧ Below B ((w.alloc o).drew) w') := fun o better => choose_any ((hm.alloc o).drewN 1) a x c d better ha hx hc hd
  have HB : Hid (∀ (o : Obj) (n : Nat), Below B w ((w.alloc o).drewN n)) := fun o n => below_drewN ((Below.refl _ _).alloc (by have := hm.size; have := hm.cM; have := hm.bM; omega) o) n
  have cx := hm.slot x hx
  have cd := hm.slot d hd
  have hs := hm.slots
  have h0 := hm.size
  have h1 := hm.cS
  have h2 := hm.cM
  have h3 := hm.bM
  have n1 : ¬ SB = w.heap.size := by omega
  have n3 : ¬ SB = M := fun e => hm.ne e.symm
  have n2 : ¬ M = w.heap.size := by omega
  have n4 : ¬ b = w.heap.size := by omega
  have hSB : SB < w.heap.size := by omega
  have hM : M < w.heap.size := by omega
  have hbs : b < w.heap.size := by omega
  obtain ⟨s0, s1, s2, s3, s4, s5, s6⟩ := hst
  simp only at s0 s1 s2 s3 s4
  clear hm h0 h1 h2 h3 s5 s6
  generalize m.slots.getD x 0 = xx at *
  generalize m.slots.getD d 0 = xd at *
  generalize m.slots.length = len at *
  have i2 : (0 : Int) ≤ (x : Int) := by omega
  have j2 : (x : Int) < (len : Int) := by omega
  have i4 : (0 : Int) ≤ (d : Int) := by omega
  have j4 : (d : Int) < (len : Int) := by omega
  go_enter Tryz.func55, Tryz.ntmps55
  go_wp2_with fail
  refine wp_still_tail 19 (by kernel_rfl) (by kernel_rfl) ?_
  simp only [List.take_succ_cons, List.take_zero, List.drop_succ_cons, List.drop_zero]
  repeat still_step
  refine wpStill_nil ?_
  go_wp2_with fail
  refine (HC.out _ _).mono ?_
  rintro e w1 ⟨rfl, hm1, hb1⟩
  go_wp2
  go_end0
  exact ⟨rfl, hm1, (HB.out _ 1).trans hb1⟩
end Go.Proofs.YthllhabjfchgiaaGreatDoor

/- (*machine).work: all other instructions, and the whole. -/
namespace Go.Proofs.YthllhabjfchgiaaGreatDoor
open Go.RowKit
open Hx (Rd Pk Vw St Mc In64)
variable {B C : Nat} {w : World} {M SB : Nat} {v : Vw} {m : Mc}

set_option maxRecDepth 100000 in
set_option maxHeartbeats 1000000 in
theorem work_other (hm : MachIn B C w M SB v m) (b o : Nat) (q : Int) (a x c : Nat) (d dp t : Int) (hb : b < B) (hst : StepAt w b o ⟨q, a, x, c, d, dp, t⟩) (ha : a < m.slots.length) (hx : x < m.slots.length) (hc : c < m.slots.length)
    (q1 : (q == 6) = false) (q2 : (q == 21) = false) (q3 : (q == 22) = false) (q4 : (q == 25) = false) (q5 : (q == 26) = false) (hin : In64 (Hx.outcome v q (m.slots.getD x 0) (m.slots.getD c 0))) :
    Calls Tryz.prog 55 #[.pointer (some ⟨M, 0, none⟩), .pointer (some ⟨b, o, none⟩)] w fun e w' => e = .returned (.tuple #[]) ∧ MachIn B C w' M SB v (m.put a (Hx.outcome v q (m.slots.getD x 0) (m.slots.getD c 0))) ∧ Below B w w' := by
  have HP : Hid (∀ o n, MachIn B C (((w.alloc o).drewN n).setCell ⟨SB, a, none⟩ (.int .i64 (Hx.outcome v q (m.slots.getD x 0) (m.slots.getD c 0)))) M SB v (m.put a (Hx.outcome v q (m.slots.getD x 0) (m.slots.getD c 0))) ∧
    Below B w (((w.alloc o).drewN n).setCell ⟨SB, a, none⟩ (.int .i64 (Hx.outcome v q (m.slots.getD x 0) (m.slots.getD c 0))))) := fun o n => put_one hm ha hin o n
  have HV : Hid (∀ o n, ViewIn B ((w.alloc o).drewN n) M v ∧ Tab64 ((w.alloc o).drewN n)) := fun o n => ⟨((hm.alloc o).drewN n).view, ((hm.alloc o).drewN n).tab⟩
  have hxm : m.slots.getD x 0 ≤ 9223372036854775807 := (hm.inSlots x).2
  have ca := hm.slot a ha
  have fa := hm.slotF a ha
  have cx := hm.slot x hx
  have cc := hm.slot c hc
  have hs := hm.slots
  have h0 := hm.size
  have h1 := hm.cS
  have h2 := hm.cM
  have h3 := hm.bM
  have n1 : ¬ SB = w.heap.size := by omega
  have n3 : ¬ SB = M := fun e => hm.ne e.symm
  have n2 : ¬ M = w.heap.size := by omega
  have n4 : ¬ b = w.heap.size := by omega
  have hSB : SB < w.heap.size := by omega
  have hM : M < w.heap.size := by omega
  have hbs : b < w.heap.size := by omega
  obtain ⟨s0, s1, s2, s3, s4, s5, s6⟩ := hst
  simp only at s0 s1 s2 s3 s4
  clear hm h0 h1 h2 h3 s5 s6 hin
  generalize m.slots.getD a 0 = xa at *
  generalize m.slots.getD x 0 = xx at *
  generalize m.slots.getD c 0 = xc at *
  generalize hy : Hx.outcome v q xx xc = y at HP ⊢
  have HY : Hid (Hx.outcome v q xx xc = y) := hy
  clear hy
  generalize m.slots.length = len at *
  have i1 : (0 : Int) ≤ (a : Int) := by omega
  have j1 : (a : Int) < (len : Int) := by omega
  have i2 : (0 : Int) ≤ (x : Int) := by omega
  have j2 : (x : Int) < (len : Int) := by omega
  have i3 : (0 : Int) ≤ (c : Int) := by omega
  have j3 : (c : Int) < (len : Int) := by omega
  go_enter Tryz.func55, Tryz.ntmps55
  go_wp2_with fail
  refine wp_quiet_tail 29 (by kernel_rfl) (by kernel_rfl) ?_
  simp only [List.take_succ_cons, List.take_zero, List.drop_succ_cons, List.drop_zero]
  repeat (go_big_quiet_step ((go_at_call 100; exact Calls.quiet_of (outcome_any B M q xx xc v _ (HV.out _ _).1 (HV.out _ _).2 hxm))))
  refine wpQuiet_nil ?_
  intro _ hw'
  obtain ⟨nq, hw''⟩ := hw'
  subst hw''
  rw [HY.out]
  go_wp2
  go_end0
  exact ⟨rfl, HP.out _ _⟩

theorem work_any (hm : MachIn B C w M SB v m) (b o : Nat) (s : St) (hb : b < B) (hst : StepAt w b o s) (hs : s.worksIn m.slots.length) :
    Calls Tryz.prog 55 #[.pointer (some ⟨M, 0, none⟩), .pointer (some ⟨b, o, none⟩)] w fun e w' => e = .returned (.tuple #[]) ∧ MachIn B C w' M SB v (Hx.work v s m) ∧ Below B w w' := by
  obtain ⟨q, a, x, c, d, dp, t⟩ := s
  obtain ⟨h1, ⟨ha0, ha⟩, hs⟩ := hs
  simp only at h1 ha0 ha hs
  obtain ⟨a, rfl⟩ := Int.eq_ofNat_of_zero_le ha0
  have ha' : a < m.slots.length := by omega
  by_cases q1 : q = 6
  · subst q1
    refine (work_number hm b o a x c d dp t hb hst ha' h1).mono ?_
    rintro e w' ⟨rfl, h2, h3⟩
    exact ⟨rfl, by simpa [Hx.work] using h2, h3⟩
  by_cases q2 : q = 21
  · subst q2
    refine (work_all hm b o a x c d dp t hb hst ha').mono ?_
    rintro e w' ⟨rfl, h2, h3⟩
    exact ⟨rfl, by simpa [Hx.work] using h2, h3⟩
  obtain ⟨⟨hx0, hx⟩, hs2⟩ := (hs.resolve_left q1).resolve_left q2
  clear hs
  obtain ⟨x, rfl⟩ := Int.eq_ofNat_of_zero_le hx0
  have hx' : x < m.slots.length := by omega
  by_cases q3 : q = 22
  · subst q3
    refine (work_keep hm b o a x c d dp t hb hst ha' hx').mono ?_
    rintro e w' ⟨rfl, h2, h3⟩
    exact ⟨rfl, by simpa [Hx.work, Hx.Mc.get] using h2, h3⟩
  obtain ⟨⟨hc0, hc⟩, hs3⟩ := hs2.resolve_left q3
  clear hs2
  obtain ⟨c, rfl⟩ := Int.eq_ofNat_of_zero_le hc0
  have hc' : c < m.slots.length := by omega
  by_cases q4 : q = 25
  · subst q4
    obtain ⟨hd0, hd⟩ := hs3 (Or.inl rfl)
    obtain ⟨d, rfl⟩ := Int.eq_ofNat_of_zero_le hd0
    refine (work_least hm b o a x c d dp t hb hst ha' hx' hc' (by omega)).mono ?_
    rintro e w' ⟨rfl, h2, h3⟩
    exact ⟨rfl, by simpa [Hx.work, Hx.choose, Hx.Mc.get] using h2, h3⟩
  by_cases q5 : q = 26
  · subst q5
    obtain ⟨hd0, hd⟩ := hs3 (Or.inr rfl)
    obtain ⟨d, rfl⟩ := Int.eq_ofNat_of_zero_le hd0
    refine (work_most hm b o a x c d dp t hb hst ha' hx' hc' (by omega)).mono ?_
    rintro e w' ⟨rfl, h2, h3⟩
    exact ⟨rfl, by simpa [Hx.work, Hx.choose, Hx.Mc.get] using h2, h3⟩
  refine (work_other hm b o q a x c d dp t hb hst ha' hx' hc' (by simpa using q1) (by simpa using q2) (by simpa using q3) (by simpa using q4) (by simpa using q5) (Hx.in_outcome hm.view.rng _ _ _ (hm.inSlots x))).mono ?_
  rintro e w' ⟨rfl, h2, h3⟩
  exact ⟨rfl, by simpa [Hx.work, Hx.Mc.get, q1, q2, q3, q4, q5] using h2, h3⟩
end Go.Proofs.YthllhabjfchgiaaGreatDoor

/- isView. -/
namespace Go.Proofs.YthllhabjfchgiaaGreatDoor
open Go.RowKit
open Hx (Rd Pk Vw St Mc In64)

def idsOk : Int → List Rd → Bool
  | _, [] => true
  | seen, r :: rs => if r.id < 0 ∨ 8 ≤ r.id ∨ Hx.hasBit seen r.id = true then false else idsOk (bits .or .i64 seen (wrap64 (2 ^ r.id.toNat))) rs

def viewOk (v : Vw) : Bool := decide (v.roads.length ≤ 8) && decide (v.fresh.length ≤ 16) && decide (v.again.length ≤ 16) && idsOk 0 v.roads

theorem idsOk_ids : ∀ (rs : List Rd) (seen : Int), idsOk seen rs = true → ∀ r ∈ rs, 0 ≤ r.id ∧ r.id < 8
  | [], _, _, r, hr => by cases hr
  | q :: rs, seen, h, r, hr => by
    unfold idsOk at h
    split at h
    · cases h
    · rename_i hq
      rcases List.mem_cons.1 hr with rfl | hr
      · omega
      · exact idsOk_ids rs _ h r hr

theorem viewOk_good {v : Vw} (h : viewOk v = true) : Good v := by
  simp only [viewOk, Bool.and_eq_true, decide_eq_true_eq] at h
  exact ⟨h.1.1.1, h.1.1.2, h.1.2, idsOk_ids _ _ h.2⟩

set_option maxRecDepth 100000 in
set_option maxHeartbeats 1000000 in
theorem isView_long (ar af aa : Option Addr) (nr cr nf cf na ca : Nat) (w : World) (hl : 8 < nr ∨ 16 < nf ∨ 16 < na) :
    Calls Tryz.prog 50 #[.agg #[.slice ar nr cr, .slice af nf cf, .slice aa na ca]] w fun e w' => e = .returned (.bool false) ∧ Below w.heap.size w w' := by
  by_cases h1 : 8 < nr
  · have d1 : decide ((8 : Int) < (nr : Int)) = true := by simp; omega
    go_enter Tryz.func50, Tryz.ntmps50
    go_wp2
    go_ret
    exact ⟨rfl, (Below.refl _ _).alloc (Nat.le_refl _) _⟩
  · have d1 : decide ((8 : Int) < (nr : Int)) = false := by simp; omega
    by_cases h2 : 16 < nf
    · have d2 : decide ((16 : Int) < (nf : Int)) = true := by simp; omega
      go_enter Tryz.func50, Tryz.ntmps50
      go_wp2
      go_ret
      exact ⟨rfl, (Below.refl _ _).alloc (Nat.le_refl _) _⟩
    · have d2 : decide ((16 : Int) < (nf : Int)) = false := by simp; omega
      have d3 : decide ((16 : Int) < (na : Int)) = true := by simp; omega
      go_enter Tryz.func50, Tryz.ntmps50
      go_wp2
      go_ret
      exact ⟨rfl, (Below.refl _ _).alloc (Nat.le_refl _) _⟩

set_option maxRecDepth 100000 in
set_option maxHeartbeats 1000000 in
theorem isView_short (ar af aa : Option Addr) (nr cr nf cf na ca : Nat) (rs : List Rd) (w : World) (hn : nr = rs.length) (h1 : nr ≤ 8) (h2 : nf ≤ 16) (h3 : na ≤ 16) (hr : RoadsAt w.heap.size w ar rs) :
    Calls Tryz.prog 50 #[.agg #[.slice ar nr cr, .slice af nf cf, .slice aa na ca]] w fun e w' => e = .returned (.bool (idsOk 0 rs)) ∧ Below w.heap.size w w' := by
  have d1 : decide ((8 : Int) < (nr : Int)) = false := by simp; omega
  have d2 : decide ((16 : Int) < (nf : Int)) = false := by simp; omega
  have d3 : decide ((16 : Int) < (na : Int)) = false := by simp; omega
  have HN : Hid (nr = rs.length) := hn
  clear hn
  go_enter Tryz.func50, Tryz.ntmps50
  go_wp2
  go_loopw [3, 25] (fun sn i wr => ∃ (k : Nat) (seen : Int), k ≤ nr ∧ i = .int .i64 k ∧ sn = .int .i64 seen ∧ Hid (idsOk 0 rs = idsOk seen (rs.drop k)) ∧ Below w.heap.size w wr ∧ Hid (w.heap.size < wr.heap.size)) (fun _ i _ => nr - (intOf i).toNat)
  case atStart => exact ⟨0, 0, Nat.zero_le _, rfl, rfl, rfl, (Below.refl _ _).alloc (Nat.le_refl _) _, by show _ < _; simp⟩
  case round =>
    obtain ⟨k, seen, hk, rfl, rfl, HE, hb, HS⟩ := hrel
    by_cases hlt : k < nr
    · have hkl : k < rs.length := by have := HN.out; omega
      have hget : rs[k]? = some rs[k] := by simp
      obtain ⟨b, o, rfl, hbb, b', o', e, c1, c2, c3, c4, c5⟩ := hr k _ hget
      obtain ⟨rfl, rfl⟩ : b = b' ∧ o + k * 5 = o' := by simpa using e
      have HD : Hid (rs.drop k = rs[k] :: rs.drop (k + 1)) := List.drop_eq_getElem_cons (by omega)
      generalize rs[k] = r at *
      have w1 : wr.cell? ⟨b, o + k * 5, none⟩ = some (.int .i64 r.id) := (hb.cell (p := ⟨b, o + k * 5, none⟩) hbb).trans c1
      have w2 : wr.cell? ⟨b, o + k * 5 + 1, none⟩ = some (.int .i64 r.rtt) := (hb.cell (p := ⟨b, o + k * 5 + 1, none⟩) hbb).trans c2
      have w3 : wr.cell? ⟨b, o + k * 5 + 2, none⟩ = some (.int .i64 r.cwnd) := (hb.cell (p := ⟨b, o + k * 5 + 2, none⟩) hbb).trans c3
      have w4 : wr.cell? ⟨b, o + k * 5 + 3, none⟩ = some (.int .i64 r.out) := (hb.cell (p := ⟨b, o + k * 5 + 3, none⟩) hbb).trans c4
      have w5 : wr.cell? ⟨b, o + k * 5 + 4, none⟩ = some (.bool r.lossy) := (hb.cell (p := ⟨b, o + k * 5 + 4, none⟩) hbb).trans c5
      have HB : Hid (∀ o, Below w.heap.size w (wr.alloc o)) := fun o => hb.alloc (by have := HS.out; omega) o
      have i1 : (0 : Int) ≤ (k : Int) := by omega
      have j1 : (k : Int) < (nr : Int) := by omega
      clear hr hget e c1 c2 c3 c4 c5 hb hkl
      by_cases t1 : r.id < 0
      · have t1' : decide (r.id < 0) = true := by simpa using t1
        have HF : Hid (idsOk 0 rs = false) := by
          show idsOk 0 rs = false
          rw [HE.out, HD.out]; unfold idsOk; rw [if_pos (Or.inl t1)]
        clear t1
        go_wp2
        go_ret
        exact ⟨ret_bool HF.out.symm, HB.out _⟩
      · have t1' : decide (r.id < 0) = false := by simpa using t1
        by_cases t2 : 8 ≤ r.id
        · have t2' : decide (8 ≤ r.id) = true := by simpa using t2
          have HF : Hid (idsOk 0 rs = false) := by
            show idsOk 0 rs = false
            rw [HE.out, HD.out]; unfold idsOk; rw [if_pos (Or.inr (Or.inl t2))]
          clear t1 t2
          go_wp2
          go_ret
          exact ⟨ret_bool HF.out.symm, HB.out _⟩
        · have t2' : decide (8 ≤ r.id) = false := by simpa using t2
          have k0 : 0 ≤ r.id := by omega
          have k8 : r.id < 8 := by omega
          cases hbit : Hx.hasBit seen r.id with
          | true =>
            have HF : Hid (idsOk 0 rs = false) := by
              show idsOk 0 rs = false
              rw [HE.out, HD.out]; unfold idsOk; rw [if_pos (Or.inr (Or.inr hbit))]
            have HC : Hid (∀ w, Calls Tryz.prog 94 #[.int .i64 seen, .int .i64 r.id] w fun e w' => e = .returned (.bool true) ∧ w' = w) := fun w => by rw [← hbit]; exact hasBit_any seen r.id w k0 k8
            clear t1 t2 hbit
            go_wp2_with (go_at_call 94; refine (HC.out _).mono ?_; rintro e w' ⟨rfl, rfl⟩)
            go_ret
            exact ⟨ret_bool HF.out.symm, HB.out _⟩
          | false =>
            have HF : Hid (idsOk 0 rs = idsOk (bits .or .i64 seen (wrap64 (2 ^ r.id.toNat))) (rs.drop (k + 1))) := by
              show idsOk 0 rs = _
              rw [HE.out, HD.out]; conv => lhs; unfold idsOk
              rw [if_neg (by rw [hbit]; simp; omega)]
            have HC : Hid (∀ w, Calls Tryz.prog 94 #[.int .i64 seen, .int .i64 r.id] w fun e w' => e = .returned (.bool false) ∧ w' = w) := fun w => by rw [← hbit]; exact hasBit_any seen r.id w k0 k8
            clear t1 t2 hbit
            go_wp2_with (go_at_call 94; refine (HC.out _).mono ?_; rintro e w' ⟨rfl, rfl⟩)
            go_roundw
            case rel => exact ⟨k + 1, _, by omega, by go_num, rfl, HF, HB.out _, by have := HS.out; show _ < _; simp; omega⟩
            case measure => simp [intOf]; omega
    · have HF : Hid (idsOk 0 rs = true) := by
        show idsOk 0 rs = true
        rw [HE.out, List.drop_eq_nil_of_le (by have := HN.out; omega)]; rfl
      clear hr
      go_wp2
      go_ret
      exact ⟨ret_bool HF.out.symm, hb⟩

theorem RoadsAt.mono {B B' : Nat} {w : World} {a : Option Addr} {rs : List Rd} (h : RoadsAt B w a rs) (hB : B ≤ B') : RoadsAt B' w a rs := fun i r hr => by
  obtain ⟨b, o, e, hb, hp⟩ := h i r hr
  exact ⟨b, o, e, by omega, hp⟩

theorem isView_any {B : Nat} {w : World} {ar af aa : Option Addr} {nr nf na : Nat} {v : Vw} (cr cf ca : Nat) (hv : ViewV B w ar af aa nr nf na v) (hB : B ≤ w.heap.size) :
    Calls Tryz.prog 50 #[.agg #[.slice ar nr cr, .slice af nf cf, .slice aa na ca]] w fun e w' => e = .returned (.bool (viewOk v)) ∧ Below w.heap.size w w' := by
  have e1 := hv.lenR
  have e2 := hv.lenF
  have e3 := hv.lenA
  by_cases hl : 8 < nr ∨ 16 < nf ∨ 16 < na
  · refine (isView_long ar af aa nr cr nf cf na ca w hl).mono ?_
    rintro e w' ⟨rfl, h⟩
    refine ⟨ret_bool ?_, h⟩
    unfold viewOk
    rw [← e1, ← e2, ← e3]
    rcases hl with hl | hl | hl
    · rw [decide_eq_false (show ¬ nr ≤ 8 by omega)]; rfl
    · rw [decide_eq_false (show ¬ nf ≤ 16 by omega)]; simp
    · rw [decide_eq_false (show ¬ na ≤ 16 by omega)]; simp
  · refine (isView_short ar af aa nr cr nf cf na ca v.roads w e1 (by omega) (by omega) (by omega) (hv.roads.mono hB)).mono ?_
    rintro e w' ⟨rfl, h⟩
    refine ⟨ret_bool ?_, h⟩
    unfold viewOk
    rw [← e1, ← e2, ← e3, decide_eq_true (show nr ≤ 8 by omega), decide_eq_true (show nf ≤ 16 by omega), decide_eq_true (show na ≤ 16 by omega)]
    rfl
end Go.Proofs.YthllhabjfchgiaaGreatDoor
