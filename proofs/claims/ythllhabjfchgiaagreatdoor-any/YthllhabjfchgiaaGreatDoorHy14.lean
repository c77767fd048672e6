import Derived.Test.YthllhabjfchgiaaGreatDoorHy13
import Derived.Test.YthllhabjfchgiaaGreatDoorHy02
/- (*machine).work: all other instructions, and the whole. -/
namespace Go.Proofs.YthllhabjfchgiaaGreatDoor
open Go.RowKit
open Hx (Rd Pk Vw St Mc In64)
variable {B C : Nat} {w : World} {M SB : Nat} {v : Vw} {m : Mc}

set_option maxRecDepth 100000 in
set_option maxHeartbeats 1000000 in
theorem work_other (hm : MachIn B C w M SB v m) (b o : Nat) (q : Int) (a x c : Nat) (d dp t : Int) (hb : b < B) (hst : StepAt w b o ⟨q, a, x, c, d, dp, t⟩) (ha : a < m.slots.length) (hx : x < m.slots.length) (hc : c < m.slots.length)
    (q1 : (q == 6) = false) (q2 : (q == 21) = false) (q3 : (q == 22) = false) (q4 : (q == 25) = false) (q5 : (q == 26) = false) (hin : In64 (Hx.outcome v q (m.slots.getD x 0) (m.slots.getD c 0))) :
    Calls Tryz.prog 55 #[.pointer (some ⟨M, 0, none⟩), .pointer (some ⟨b, o, none⟩)] w fun e w' => e = .returned (.tuple #[]) ∧ MachIn B C w' M SB v (m.put a (Hx.outcome v q (m.slots.getD x 0) (m.slots.getD c 0))) ∧ Below B w w' := by
  have HP : Hid (∀ o n, MachIn B C (((w.alloc o).drewN n).setCell ⟨SB, a, none⟩ (.int .i64 (Hx.outcome v q (m.slots.getD x 0) (m.slots.getD c 0)))) M SB v (m.put a (Hx.outcome v q (m.slots.getD x 0) (m.slots.getD c 0))) ∧
    Below B w (((w.alloc o).drewN n).setCell ⟨SB, a, none⟩ (.int .i64 (Hx.outcome v q (m.slots.getD x 0) (m.slots.getD c 0))))) := fun o n => put_one hm ha hin o n
  have HV : Hid (∀ o n, ViewIn B ((w.alloc o).drewN n) M v ∧ Tab64 ((w.alloc o).drewN n)) := fun o n => ⟨((hm.alloc o).drewN n).view, ((hm.alloc o).drewN n).tab⟩
  have hxm : m.slots.getD x 0 ≤ 9223372036854775807 := (hm.inSlots x).2
  have ca := hm.slot a ha
  have fa := hm.slotF a ha
  have cx := hm.slot x hx
  have cc := hm.slot c hc
  have hs := hm.slots
  have h0 := hm.size
  have h1 := hm.cS
  have h2 := hm.cM
  have h3 := hm.bM
  have n1 : ¬ SB = w.heap.size := by omega
  have n3 : ¬ SB = M := fun e => hm.ne e.symm
  have n2 : ¬ M = w.heap.size := by omega
  have n4 : ¬ b = w.heap.size := by omega
  have hSB : SB < w.heap.size := by omega
  have hM : M < w.heap.size := by omega
  have hbs : b < w.heap.size := by omega
  obtain ⟨s0, s1, s2, s3, s4, s5, s6⟩ := hst
  simp only at s0 s1 s2 s3 s4
  clear hm h0 h1 h2 h3 s5 s6 hin
  generalize m.slots.getD a 0 = xa at *
  generalize m.slots.getD x 0 = xx at *
  generalize m.slots.getD c 0 = xc at *
  generalize hy : Hx.outcome v q xx xc = y at HP ⊢
  have HY : Hid (Hx.outcome v q xx xc = y) := hy
  clear hy
  generalize m.slots.length = len at *
  have i1 : (0 : Int) ≤ (a : Int) := by omega
  have j1 : (a : Int) < (len : Int) := by omega
  have i2 : (0 : Int) ≤ (x : Int) := by omega
  have j2 : (x : Int) < (len : Int) := by omega
  have i3 : (0 : Int) ≤ (c : Int) := by omega
  have j3 : (c : Int) < (len : Int) := by omega
  go_enter Tryz.func55, Tryz.ntmps55
  go_wp2_with fail
  refine wp_quiet_tail 29 (by kernel_rfl) (by kernel_rfl) ?_
  simp only [List.take_succ_cons, List.take_zero, List.drop_succ_cons, List.drop_zero]
  repeat (go_big_quiet_step ((go_at_call 100; exact Calls.quiet_of (outcome_any B M q xx xc v _ (HV.out _ _).1 (HV.out _ _).2 hxm))))
  refine wpQuiet_nil ?_
  intro _ hw'
  obtain ⟨nq, hw''⟩ := hw'
  subst hw''
  rw [HY.out]
  go_wp2
  go_end0
  exact ⟨rfl, HP.out _ _⟩

theorem work_any (hm : MachIn B C w M SB v m) (b o : Nat) (s : St) (hb : b < B) (hst : StepAt w b o s) (hs : s.worksIn m.slots.length) :
    Calls Tryz.prog 55 #[.pointer (some ⟨M, 0, none⟩), .pointer (some ⟨b, o, none⟩)] w fun e w' => e = .returned (.tuple #[]) ∧ MachIn B C w' M SB v (Hx.work v s m) ∧ Below B w w' := by
  obtain ⟨q, a, x, c, d, dp, t⟩ := s
  obtain ⟨h1, ⟨ha0, ha⟩, hs⟩ := hs
  simp only at h1 ha0 ha hs
  obtain ⟨a, rfl⟩ := Int.eq_ofNat_of_zero_le ha0
  have ha' : a < m.slots.length := by omega
  by_cases q1 : q = 6
  · subst q1
    refine (work_number hm b o a x c d dp t hb hst ha' h1).mono ?_
    rintro e w' ⟨rfl, h2, h3⟩
    exact ⟨rfl, by simpa [Hx.work] using h2, h3⟩
  by_cases q2 : q = 21
  · subst q2
    refine (work_all hm b o a x c d dp t hb hst ha').mono ?_
    rintro e w' ⟨rfl, h2, h3⟩
    exact ⟨rfl, by simpa [Hx.work] using h2, h3⟩
  obtain ⟨⟨hx0, hx⟩, hs2⟩ := (hs.resolve_left q1).resolve_left q2
  clear hs
  obtain ⟨x, rfl⟩ := Int.eq_ofNat_of_zero_le hx0
  have hx' : x < m.slots.length := by omega
  by_cases q3 : q = 22
  · subst q3
    refine (work_keep hm b o a x c d dp t hb hst ha' hx').mono ?_
    rintro e w' ⟨rfl, h2, h3⟩
    exact ⟨rfl, by simpa [Hx.work, Hx.Mc.get] using h2, h3⟩
  obtain ⟨⟨hc0, hc⟩, hs3⟩ := hs2.resolve_left q3
  clear hs2
  obtain ⟨c, rfl⟩ := Int.eq_ofNat_of_zero_le hc0
  have hc' : c < m.slots.length := by omega
  by_cases q4 : q = 25
  · subst q4
    obtain ⟨hd0, hd⟩ := hs3 (Or.inl rfl)
    obtain ⟨d, rfl⟩ := Int.eq_ofNat_of_zero_le hd0
    refine (work_least hm b o a x c d dp t hb hst ha' hx' hc' (by omega)).mono ?_
    rintro e w' ⟨rfl, h2, h3⟩
    exact ⟨rfl, by simpa [Hx.work, Hx.choose, Hx.Mc.get] using h2, h3⟩
  by_cases q5 : q = 26
  · subst q5
    obtain ⟨hd0, hd⟩ := hs3 (Or.inr rfl)
    obtain ⟨d, rfl⟩ := Int.eq_ofNat_of_zero_le hd0
    refine (work_most hm b o a x c d dp t hb hst ha' hx' hc' (by omega)).mono ?_
    rintro e w' ⟨rfl, h2, h3⟩
    exact ⟨rfl, by simpa [Hx.work, Hx.choose, Hx.Mc.get] using h2, h3⟩
  refine (work_other hm b o q a x c d dp t hb hst ha' hx' hc' (by simpa using q1) (by simpa using q2) (by simpa using q3) (by simpa using q4) (by simpa using q5) (Hx.in_outcome hm.view.rng _ _ _ (hm.inSlots x))).mono ?_
  rintro e w' ⟨rfl, h2, h3⟩
  exact ⟨rfl, by simpa [Hx.work, Hx.Mc.get, q1, q2, q3, q4, q5] using h2, h3⟩
end Go.Proofs.YthllhabjfchgiaaGreatDoor

/- isView. -/
namespace Go.Proofs.YthllhabjfchgiaaGreatDoor
open Go.RowKit
open Hx (Rd Pk Vw St Mc In64)

def idsOk : Int → List Rd → Bool
  | _, [] => true
  | seen, r :: rs => if r.id < 0 ∨ 8 ≤ r.id ∨ Hx.hasBit seen r.id = true then false else idsOk (bits .or .i64 seen (wrap64 (2 ^ r.id.toNat))) rs

def viewOk (v : Vw) : Bool := decide (v.roads.length ≤ 8) && decide (v.fresh.length ≤ 16) && decide (v.again.length ≤ 16) && idsOk 0 v.roads

theorem idsOk_ids : ∀ (rs : List Rd) (seen : Int), idsOk seen rs = true → ∀ r ∈ rs, 0 ≤ r.id ∧ r.id < 8
  | [], _, _, r, hr => by cases hr
  | q :: rs, seen, h, r, hr => by
    unfold idsOk at h
    split at h
    · cases h
    · rename_i hq
      rcases List.mem_cons.1 hr with rfl | hr
      · omega
      · exact idsOk_ids rs _ h r hr

theorem viewOk_good {v : Vw} (h : viewOk v = true) : Good v := by
  simp only [viewOk, Bool.and_eq_true, decide_eq_true_eq] at h
  exact ⟨h.1.1.1, h.1.1.2, h.1.2, idsOk_ids _ _ h.2⟩

set_option maxRecDepth 100000 in
set_option maxHeartbeats 1000000 in
theorem isView_long (ar af aa : Option Addr) (nr cr nf cf na ca : Nat) (w : World) (hl : 8 < nr ∨ 16 < nf ∨ 16 < na) :
    Calls Tryz.prog 50 #[.agg #[.slice ar nr cr, .slice af nf cf, .slice aa na ca]] w fun e w' => e = .returned (.bool false) ∧ Below w.heap.size w w' := by
  by_cases h1 : 8 < nr
  · have d1 : decide ((8 : Int) < (nr : Int)) = true := by simp; omega
    go_enter Tryz.func50, Tryz.ntmps50
    go_wp2
    go_ret
    exact ⟨rfl, (Below.refl _ _).alloc (Nat.le_refl _) _⟩
  · have d1 : decide ((8 : Int) < (nr : Int)) = false := by simp; omega
    by_cases h2 : 16 < nf
    · have d2 : decide ((16 : Int) < (nf : Int)) = true := by simp; omega
      go_enter Tryz.func50, Tryz.ntmps50
      go_wp2
      go_ret
      exact ⟨rfl, (Below.refl _ _).alloc (Nat.le_refl _) _⟩
    · have d2 : decide ((16 : Int) < (nf : Int)) = false := by simp; omega
      have d3 : decide ((16 : Int) < (na : Int)) = true := by simp; omega
      go_enter Tryz.func50, Tryz.ntmps50
      go_wp2
      go_ret
      exact ⟨rfl, (Below.refl _ _).alloc (Nat.le_refl _) _⟩

set_option maxRecDepth 100000 in
set_option maxHeartbeats 1000000 in
theorem isView_short (ar af aa : Option Addr) (nr cr nf cf na ca : Nat) (rs : List Rd) (w : World) (hn : nr = rs.length) (h1 : nr ≤ 8) (h2 : nf ≤ 16) (h3 : na ≤ 16) (hr : RoadsAt w.heap.size w ar rs) :
    Calls Tryz.prog 50 #[.agg #[.slice ar nr cr, .slice af nf cf, .slice aa na ca]] w fun e w' => e = .returned (.bool (idsOk 0 rs)) ∧ Below w.heap.size w w' := by
  have d1 : decide ((8 : Int) < (nr : Int)) = false := by simp; omega
  have d2 : decide ((16 : Int) < (nf : Int)) = false := by simp; omega
  have d3 : decide ((16 : Int) < (na : Int)) = false := by simp; omega
  have HN : Hid (nr = rs.length) := hn
  clear hn
  go_enter Tryz.func50, Tryz.ntmps50
  go_wp2
  go_loopw [3, 25] (fun sn i wr => ∃ (k : Nat) (seen : Int), k ≤ nr ∧ i = .int .i64 k ∧ sn = .int .i64 seen ∧ Hid (idsOk 0 rs = idsOk seen (rs.drop k)) ∧ Below w.heap.size w wr ∧ Hid (w.heap.size < wr.heap.size)) (fun _ i _ => nr - (intOf i).toNat)
  case atStart => exact ⟨0, 0, Nat.zero_le _, rfl, rfl, rfl, (Below.refl _ _).alloc (Nat.le_refl _) _, by show _ < _; simp⟩
  case round =>
    obtain ⟨k, seen, hk, rfl, rfl, HE, hb, HS⟩ := hrel
    by_cases hlt : k < nr
    · have hkl : k < rs.length := by have := HN.out; omega
      have hget : rs[k]? = some rs[k] := by simp
      obtain ⟨b, o, rfl, hbb, b', o', e, c1, c2, c3, c4, c5⟩ := hr k _ hget
      obtain ⟨rfl, rfl⟩ : b = b' ∧ o + k * 5 = o' := by simpa using e
      have HD : Hid (rs.drop k = rs[k] :: rs.drop (k + 1)) := List.drop_eq_getElem_cons (by omega)
      generalize rs[k] = r at *
      have w1 : wr.cell? ⟨b, o + k * 5, none⟩ = some (.int .i64 r.id) := (hb.cell (p := ⟨b, o + k * 5, none⟩) hbb).trans c1
      have w2 : wr.cell? ⟨b, o + k * 5 + 1, none⟩ = some (.int .i64 r.rtt) := (hb.cell (p := ⟨b, o + k * 5 + 1, none⟩) hbb).trans c2
      have w3 : wr.cell? ⟨b, o + k * 5 + 2, none⟩ = some (.int .i64 r.cwnd) := (hb.cell (p := ⟨b, o + k * 5 + 2, none⟩) hbb).trans c3
      have w4 : wr.cell? ⟨b, o + k * 5 + 3, none⟩ = some (.int .i64 r.out) := (hb.cell (p := ⟨b, o + k * 5 + 3, none⟩) hbb).trans c4
      have w5 : wr.cell? ⟨b, o + k * 5 + 4, none⟩ = some (.bool r.lossy) := (hb.cell (p := ⟨b, o + k * 5 + 4, none⟩) hbb).trans c5
      have HB : Hid (∀ o, Below w.heap.size w (wr.alloc o)) := fun o => hb.alloc (by have := HS.out; omega) o
      have i1 : (0 : Int) ≤ (k : Int) := by omega
      have j1 : (k : Int) < (nr : Int) := by omega
      clear hr hget e c1 c2 c3 c4 c5 hb hkl
      by_cases t1 : r.id < 0
      · have t1' : decide (r.id < 0) = true := by simpa using t1
        have HF : Hid (idsOk 0 rs = false) := by
          show idsOk 0 rs = false
          rw [HE.out, HD.out]; unfold idsOk; rw [if_pos (Or.inl t1)]
        clear t1
        go_wp2
        go_ret
        exact ⟨ret_bool HF.out.symm, HB.out _⟩
      · have t1' : decide (r.id < 0) = false := by simpa using t1
        by_cases t2 : 8 ≤ r.id
        · have t2' : decide (8 ≤ r.id) = true := by simpa using t2
          have HF : Hid (idsOk 0 rs = false) := by
            show idsOk 0 rs = false
            rw [HE.out, HD.out]; unfold idsOk; rw [if_pos (Or.inr (Or.inl t2))]
          clear t1 t2
          go_wp2
          go_ret
          exact ⟨ret_bool HF.out.symm, HB.out _⟩
        · have t2' : decide (8 ≤ r.id) = false := by simpa using t2
          have k0 : 0 ≤ r.id := by omega
          have k8 : r.id < 8 := by omega
          cases hbit : Hx.hasBit seen r.id with
          | true =>
            have HF : Hid (idsOk 0 rs = false) := by
              show idsOk 0 rs = false
              rw [HE.out, HD.out]; unfold idsOk; rw [if_pos (Or.inr (Or.inr hbit))]
            have HC : Hid (∀ w, Calls Tryz.prog 94 #[.int .i64 seen, .int .i64 r.id] w fun e w' => e = .returned (.bool true) ∧ w' = w) := fun w => by rw [← hbit]; exact hasBit_any seen r.id w k0 k8
            clear t1 t2 hbit
            go_wp2_with (go_at_call 94; refine (HC.out _).mono ?_; rintro e w' ⟨rfl, rfl⟩)
            go_ret
            exact ⟨ret_bool HF.out.symm, HB.out _⟩
          | false =>
            have HF : Hid (idsOk 0 rs = idsOk (bits .or .i64 seen (wrap64 (2 ^ r.id.toNat))) (rs.drop (k + 1))) := by
              show idsOk 0 rs = _
              rw [HE.out, HD.out]; conv => lhs; unfold idsOk
              rw [if_neg (by rw [hbit]; simp; omega)]
            have HC : Hid (∀ w, Calls Tryz.prog 94 #[.int .i64 seen, .int .i64 r.id] w fun e w' => e = .returned (.bool false) ∧ w' = w) := fun w => by rw [← hbit]; exact hasBit_any seen r.id w k0 k8
            clear t1 t2 hbit
            go_wp2_with (go_at_call 94; refine (HC.out _).mono ?_; rintro e w' ⟨rfl, rfl⟩)
            go_roundw
            case rel => exact ⟨k + 1, _, by omega, by go_num, rfl, HF, HB.out _, by have := HS.out; show _ < _; simp; omega⟩
            case measure => simp [intOf]; omega
    · have HF : Hid (idsOk 0 rs = true) := by
        show idsOk 0 rs = true
        rw [HE.out, List.drop_eq_nil_of_le (by have := HN.out; omega)]; rfl
      clear hr
      go_wp2
      go_ret
      exact ⟨ret_bool HF.out.symm, hb⟩

theorem RoadsAt.mono {B B' : Nat} {w : World} {a : Option Addr} {rs : List Rd} (h : RoadsAt B w a rs) (hB : B ≤ B') : RoadsAt B' w a rs := fun i r hr => by
  obtain ⟨b, o, e, hb, hp⟩ := h i r hr
  exact ⟨b, o, e, by omega, hp⟩

theorem isView_any {B : Nat} {w : World} {ar af aa : Option Addr} {nr nf na : Nat} {v : Vw} (cr cf ca : Nat) (hv : ViewV B w ar af aa nr nf na v) (hB : B ≤ w.heap.size) :
    Calls Tryz.prog 50 #[.agg #[.slice ar nr cr, .slice af nf cf, .slice aa na ca]] w fun e w' => e = .returned (.bool (viewOk v)) ∧ Below w.heap.size w w' := by
  have e1 := hv.lenR
  have e2 := hv.lenF
  have e3 := hv.lenA
  by_cases hl : 8 < nr ∨ 16 < nf ∨ 16 < na
  · refine (isView_long ar af aa nr cr nf cf na ca w hl).mono ?_
    rintro e w' ⟨rfl, h⟩
    refine ⟨ret_bool ?_, h⟩
    unfold viewOk
    rw [← e1, ← e2, ← e3]
    rcases hl with hl | hl | hl
    · rw [decide_eq_false (show ¬ nr ≤ 8 by omega)]; rfl
    · rw [decide_eq_false (show ¬ nf ≤ 16 by omega)]; simp
    · rw [decide_eq_false (show ¬ na ≤ 16 by omega)]; simp
  · refine (isView_short ar af aa nr cr nf cf na ca v.roads w e1 (by omega) (by omega) (by omega) (hv.roads.mono hB)).mono ?_
    rintro e w' ⟨rfl, h⟩
    refine ⟨ret_bool ?_, h⟩
    unfold viewOk
    rw [← e1, ← e2, ← e3, decide_eq_true (show nr ≤ 8 by omega), decide_eq_true (show nf ≤ 16 by omega), decide_eq_true (show na ≤ 16 by omega)]
    rfl
end Go.Proofs.YthllhabjfchgiaaGreatDoor
