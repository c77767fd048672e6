import Derived.Test.YthllhabjfchgiaaGreatDoorHy11
import Derived.Deep.AppendLies
import Derived.OwnWalk
import Derived.Maps.AppendAt
/- Package lang: an expr that is no operation. -/
namespace Go.Proofs.YthllhabjfchgiaaGreatDoor
open Go.RowKit
open Hx (Tk)
attribute [local go_sem ↓] Go.wp_at_zero Go.wp_at_succ
attribute [local go_sem] setCell_drewN'
variable {w : World} {P : Nat} {s : ByteArray} {k k' : Tk} {dp en ea : Int} {E : World → Nat → Value → Prop}

/-- a method of the parser that reads an expr: from token k up to token k' -/
def Reads (fn : FuncId) (more : List Value) (P : Nat) (s : ByteArray) (k k' : Tk) (dp en ea : Int) (E : World → Nat → Value → Prop) : Prop :=
  ∀ x : World, PrIn x P s k dp en ea → Calls Tryz.prog fn (.pointer (some ⟨P, 0, none⟩) :: more).toArray x fun e w' => ∃ v, e = .returned v ∧ E w' x.heap.size v ∧ PrIn w' P s k' dp en ea ∧ x.grownBy w' (some P)

/-- what is asked of a set, as an expr -/
def AskE (at' of : Int) (base what : ByteArray) (w : World) (B : Nat) (v : Value) : Prop :=
  ∃ A S, v = .iface 410 (.pointer (some ⟨A, 0, none⟩)) ∧ B ≤ A ∧ B ≤ S ∧ AskAt w A S at' 2 of what ∧ SetAt w S at' base of

set_option maxRecDepth 100000 in
set_option maxHeartbeats 1000000 in
theorem question_first (hs : s.size ≤ 4000) (k1 k2 : Tk) (of : Int) (hk : TokOk s k) (hof : setOf k.text.toList = some of) (hk1 : nxt s k = k1) (hok1 : TokOk s k1) (ht1 : (k1.text.toList == [46]) = true) (hk2 : nxt s k1 = k2) (hok2 : TokOk s k2) (ht2 : k2.text.toList = [102, 105, 114, 115, 116]) (hk3 : nxt s k2 = k') :
    Reads 275 [] P s k k' dp en ea (AskE k.at' of k.text k2.text) := by
  intro w h
  have hL := h.lt
  have HS : Hid (Calls Tryz.prog 243 #[.pointer (some ⟨P, 0, none⟩)] w fun e w' => ∃ S, e = .returned (.tuple #[.pointer (some ⟨S, 0, none⟩), .bool true]) ∧ w.heap.size ≤ S ∧ SetAt w' S k.at' k.text of ∧ PrIn w' P s k2 dp en ea ∧ w.grownBy w' (some P)) :=
    set_asked h hs k1 k2 of hk hof hk1 hok1 ht1 hk2 (by rw [ht2]; decide)
  have t1 : (k2.text.toList == [99, 111, 117, 110, 116]) = false := by rw [ht2]; decide
  have t2 : (k2.text.toList == [102, 105, 114, 115, 116]) = true := by rw [ht2]; decide
  clear h ht2
  show Calls Tryz.prog 275 #[.pointer (some ⟨P, 0, none⟩)] w _
  go_enter Tryz.func275, Tryz.ntmps275
  go_wp2_with fail
  refine HS.out.mono ?_
  rintro e w1 ⟨S, rfl, hS, s1, p1, q1⟩
  have c2 := p1.c2
  have o2 : w1.cell? ⟨S, 3, none⟩ = some (.int .i64 of) := cell_at s1
  have HA : Hid (Calls Tryz.prog 277 #[.pointer (some ⟨P, 0, none⟩), .pointer (some ⟨S, 0, none⟩), .int .i64 of] w1 fun e w' => ∃ A, e = .returned (.iface 410 (.pointer (some ⟨A, 0, none⟩))) ∧ w1.heap.size ≤ A ∧ AskAt w' A S k.at' 2 of k2.text ∧ SetAt w' S k.at' k.text of ∧ PrIn w' P s k' dp en ea ∧ w1.grownBy w' (some P)) := by
    rw [← hk3]
    exact asking_ok p1 hs hok2 S k.at' k.text of of s1 (by omega)
  have HQ1 : Hid (w.grownBy w1 (some P)) := q1
  clear p1 q1 s1 HS
  go_wp2_with fail
  refine HA.out.mono ?_
  rintro e w2 ⟨A, rfl, hA, a2, s2, p2, q2⟩
  have HQ : Hid (AskE k.at' of k.text k2.text w2 w.heap.size (.iface 410 (.pointer (some ⟨A, 0, none⟩))) ∧ PrIn w2 P s k' dp en ea ∧ w.grownBy w2 (some P)) := ⟨⟨A, S, rfl, by have := HQ1.out.size; omega, hS, a2, s2⟩, p2, HQ1.out.trans q2⟩
  clear a2 s2 p2 q2 HA HQ1
  go_wp2_with fail
  go_ret
  exact ⟨_, rfl, HQ.out⟩

set_option maxRecDepth 100000 in
set_option maxHeartbeats 1000000 in
theorem basic_set (hq : Reads 275 [] P s k k' dp en ea E) (hk : k.kind = 5) (of : Int) (hof : setOf k.text.toList = some of) :
    Reads 270 [] P s k k' dp en ea E := by
  intro w h
  have HQ : Hid (Calls Tryz.prog 275 #[.pointer (some ⟨P, 0, none⟩)] w fun e w' => ∃ v, e = .returned v ∧ E w' w.heap.size v ∧ PrIn w' P s k' dp en ea ∧ w.grownBy w' (some P)) := hq w h
  have c1 := h.c1
  have c2 := h.c2
  have c3 := h.c3
  rw [hk] at c1
  have hcs : k.text.toList = [82, 79, 65, 68, 83] ∨ k.text.toList = [70, 82, 69, 83, 72] ∨ k.text.toList = [65, 71, 65, 73, 78] := by
    unfold setOf at hof
    split at hof
    · rename_i h1; exact Or.inl (by simpa using h1)
    · split at hof
      · rename_i h1; simp only [Bool.or_eq_true, beq_iff_eq] at h1; exact Or.inr h1
      · cases hof
  clear h hof hq
  show Calls Tryz.prog 270 #[.pointer (some ⟨P, 0, none⟩)] w _
  rcases hcs with ht | ht | ht
  all_goals
    have t1 : (k.text.toList == [116, 114, 117, 101]) = false := by rw [ht]; decide
    have t2 : (k.text.toList == [102, 97, 108, 115, 101]) = false := by rw [ht]; decide
    have t3 : (k.text.toList == [40]) = false := by rw [ht]; decide
    have t4 : (k.text.toList == [105, 115, 110, 111, 110, 101]) = false := by rw [ht]; decide
    clear hk
  · have t5 : (k.text.toList == [82, 79, 65, 68, 83]) = true := by rw [ht]; decide
    clear ht
    go_enter Tryz.func270, Tryz.ntmps270
    go_wp2_with fail
    refine HQ.out.mono ?_
    rintro e w2 ⟨v, rfl, h1⟩
    have HH : Hid (E w2 w.heap.size v ∧ PrIn w2 P s k' dp en ea ∧ w.grownBy w2 (some P)) := h1
    clear h1 HQ
    go_wp2_with fail
    go_ret
    exact ⟨_, rfl, HH.out⟩
  · have t5 : (k.text.toList == [82, 79, 65, 68, 83]) = false := by rw [ht]; decide
    have t6 : (k.text.toList == [70, 82, 69, 83, 72]) = true := by rw [ht]; decide
    clear ht
    go_enter Tryz.func270, Tryz.ntmps270
    go_wp2_with fail
    refine HQ.out.mono ?_
    rintro e w2 ⟨v, rfl, h1⟩
    have HH : Hid (E w2 w.heap.size v ∧ PrIn w2 P s k' dp en ea ∧ w.grownBy w2 (some P)) := h1
    clear h1 HQ
    go_wp2_with fail
    go_ret
    exact ⟨_, rfl, HH.out⟩
  · have t5 : (k.text.toList == [82, 79, 65, 68, 83]) = false := by rw [ht]; decide
    have t6 : (k.text.toList == [70, 82, 69, 83, 72]) = false := by rw [ht]; decide
    have t7 : (k.text.toList == [65, 71, 65, 73, 78]) = true := by rw [ht]; decide
    clear ht
    go_enter Tryz.func270, Tryz.ntmps270
    go_wp2_with fail
    refine HQ.out.mono ?_
    rintro e w2 ⟨v, rfl, h1⟩
    have HH : Hid (E w2 w.heap.size v ∧ PrIn w2 P s k' dp en ea ∧ w.grownBy w2 (some P)) := h1
    clear h1 HQ
    go_wp2_with fail
    go_ret
    exact ⟨_, rfl, HH.out⟩

set_option maxRecDepth 100000 in
set_option maxHeartbeats 1000000 in
theorem behind_pass (hq : Reads 270 [] P s k k' dp en ea E) (hd : (k'.text.toList == [46]) = false) : Reads 269 [] P s k k' dp en ea E := by
  intro w h
  have HQ : Hid (Calls Tryz.prog 270 #[.pointer (some ⟨P, 0, none⟩)] w fun e w' => ∃ v, e = .returned v ∧ E w' w.heap.size v ∧ PrIn w' P s k' dp en ea ∧ w.grownBy w' (some P)) := hq w h
  have c3 := h.c3
  clear h hq
  show Calls Tryz.prog 269 #[.pointer (some ⟨P, 0, none⟩)] w _
  go_enter Tryz.func269, Tryz.ntmps269
  go_wp2_with fail
  refine HQ.out.mono ?_
  rintro e w2 ⟨v, rfl, h1, p1, q1⟩
  have HI : Hid (Calls Tryz.prog 242 #[.pointer (some ⟨P, 0, none⟩), .string ⟨#[46]⟩] w2 fun e w' => e = .returned (.bool false) ∧ w' = w2) := is_lit p1 [46] false hd
  have HH : Hid (E w2 w.heap.size v ∧ PrIn w2 P s k' dp en ea ∧ w.grownBy w2 (some P)) := ⟨h1, p1, q1⟩
  clear h1 p1 q1 HQ
  go_wp2_with fail
  refine wp_loop_rounds 1 ?_
  rw [rounds_succ]
  go_wp2_with fail
  refine HI.out.mono ?_
  rintro e w3 ⟨rfl, rfl⟩
  go_wp2_with fail
  go_ret
  exact ⟨_, rfl, HH.out⟩

set_option maxRecDepth 100000 in
set_option maxHeartbeats 1000000 in
theorem minus_pass (hq : Reads 269 [] P s k k' dp en ea E) (h1 : (k.text.toList == [45]) = false) (h2 : (k.text.toList == [33]) = false) : Reads 265 [] P s k k' dp en ea E := by
  intro w h
  have HQ : Hid (∀ n, Calls Tryz.prog 269 #[.pointer (some ⟨P, 0, none⟩)] (w.drewN n) fun e w' => ∃ v, e = .returned v ∧ E w' w.heap.size v ∧ PrIn w' P s k' dp en ea ∧ w.grownBy w' (some P)) := fun n => by
    refine (hq (w.drewN n) (h.grow (grown_drewN _ n))).mono ?_
    rintro e w' ⟨v, e1, e2, e3, e4⟩
    exact ⟨v, e1, e2, e3, ((grown_drewN w n).but _).trans e4⟩
  have c2 := h.c2
  have c3 := h.c3
  clear h hq
  show Calls Tryz.prog 265 #[.pointer (some ⟨P, 0, none⟩)] w _
  go_enter Tryz.func265, Tryz.ntmps265
  go_wp2_with fail
  go_quiet (fail)
  go_wp2_with fail
  refine (HQ.out _).mono ?_
  rintro e w2 ⟨v, rfl, h3⟩
  have HH : Hid (E w2 w.heap.size v ∧ PrIn w2 P s k' dp en ea ∧ w.grownBy w2 (some P)) := h3
  clear h3 HQ
  go_wp2_with fail
  go_ret
  exact ⟨_, rfl, HH.out⟩

set_option maxRecDepth 100000 in
set_option maxHeartbeats 1000000 in
theorem operation_last (hq : Reads 265 [] P s k k' dp en ea E) : Reads 256 [.int .i64 6] P s k k' dp en ea E := by
  intro w h
  have HQ : Hid (Calls Tryz.prog 265 #[.pointer (some ⟨P, 0, none⟩)] w fun e w' => ∃ v, e = .returned v ∧ E w' w.heap.size v ∧ PrIn w' P s k' dp en ea ∧ w.grownBy w' (some P)) := hq w h
  clear h hq
  show Calls Tryz.prog 256 #[.pointer (some ⟨P, 0, none⟩), .int .i64 6] w _
  go_enter Tryz.func256, Tryz.ntmps256
  go_wp2_with fail
  refine HQ.out.mono ?_
  rintro e w2 ⟨v, rfl, h3⟩
  have HH : Hid (E w2 w.heap.size v ∧ PrIn w2 P s k' dp en ea ∧ w.grownBy w2 (some P)) := h3
  clear h3 HQ
  go_wp2_with fail
  go_ret
  exact ⟨_, rfl, HH.out⟩

set_option maxRecDepth 100000 in
set_option maxHeartbeats 1000000 in
theorem operation_next (of : Int) (h0 : 0 ≤ of) (h5 : of ≤ 5) (hq : Reads 256 [.int .i64 (of + 1)] P s k k' dp en ea E) (hl : Hx.isSign k'.text.toList = false) : Reads 256 [.int .i64 of] P s k k' dp en ea E := by
  intro w h
  have HQ : Hid (Calls Tryz.prog 256 #[.pointer (some ⟨P, 0, none⟩), .int .i64 (of + 1)] w fun e w' => ∃ v, e = .returned v ∧ E w' w.heap.size v ∧ PrIn w' P s k' dp en ea ∧ w.grownBy w' (some P)) := hq w h
  have HL : Hid (∀ w, Calls Tryz.prog 266 #[.string k'.text] w fun e w' => e = .returned (.int .i64 6) ∧ w' = w) := fun w => level_none _ hl w
  have c3 := h.c3
  have d6 : (of == 6) = false := by simp; omega
  have d7 : ((6 : Int) == of) = false := by simp; omega
  clear h hq hl
  show Calls Tryz.prog 256 #[.pointer (some ⟨P, 0, none⟩), .int .i64 of] w _
  go_enter Tryz.func256, Tryz.ntmps256
  go_wp2_with fail
  refine HQ.out.mono ?_
  rintro e w2 ⟨v, rfl, h3, p3, q3⟩
  have c2 := p3.c2
  have HH : Hid (E w2 w.heap.size v ∧ PrIn w2 P s k' dp en ea ∧ w.grownBy w2 (some P)) := ⟨h3, p3, q3⟩
  clear h3 p3 q3 HQ
  go_wp2_with fail
  refine wp_loop_rounds 1 ?_
  rw [rounds_succ]
  go_wp2_with fail
  refine (HL.out _).mono ?_
  rintro e w3 ⟨rfl, rfl⟩
  go_wp2_with fail
  go_ret
  exact ⟨_, rfl, HH.out⟩

/-- an expr that begins with no sign, and behind which none stands -/
theorem expr_pass (hq : Reads 270 [] P s k k' dp en ea E) (h1 : (k.text.toList == [45]) = false) (h2 : (k.text.toList == [33]) = false) (hd : (k'.text.toList == [46]) = false) (hl : Hx.isSign k'.text.toList = false) : Reads 238 [] P s k k' dp en ea E := by
  have o6 := operation_last (minus_pass (behind_pass hq hd) h1 h2)
  have o5 := operation_next 5 (by omega) (by omega) o6 hl
  have o4 := operation_next 4 (by omega) (by omega) o5 hl
  have o3 := operation_next 3 (by omega) (by omega) o4 hl
  have o2 := operation_next 2 (by omega) (by omega) o3 hl
  have o1 := operation_next 1 (by omega) (by omega) o2 hl
  have o0 := operation_next 0 (by omega) (by omega) o1 hl
  intro w h
  have HQ : Hid (Calls Tryz.prog 256 #[.pointer (some ⟨P, 0, none⟩), .int .i64 0] w fun e w' => ∃ v, e = .returned v ∧ E w' w.heap.size v ∧ PrIn w' P s k' dp en ea ∧ w.grownBy w' (some P)) := o0 w h
  clear h hq o0 o1 o2 o3 o4 o5 o6
  show Calls Tryz.prog 238 #[.pointer (some ⟨P, 0, none⟩)] w _
  go_enter Tryz.func238, Tryz.ntmps238
  go_wp2_with fail
  refine HQ.out.mono ?_
  rintro e w2 ⟨v, rfl, h3⟩
  have HH : Hid (E w2 w.heap.size v ∧ PrIn w2 P s k' dp en ea ∧ w.grownBy w2 (some P)) := h3
  clear h3 HQ
  go_wp2_with fail
  go_ret
  exact ⟨_, rfl, HH.out⟩
end Go.Proofs.YthllhabjfchgiaaGreatDoor

/- Package lang: numbers, registers, given. -/
namespace Go.Proofs.YthllhabjfchgiaaGreatDoor
open Go.RowKit
open Hx (Tk)
attribute [local go_sem ↓] Go.wp_at_zero Go.wp_at_succ
attribute [local go_sem] setCell_drewN'
variable {w : World} {P : Nat} {s : ByteArray} {k k' : Tk} {dp en ea : Int} {E : World → Nat → Value → Prop}

/-- a literal -/
def NumE (at' n : Int) (w : World) (B : Nat) (v : Value) : Prop :=
  ∃ A, v = .iface 405 (.pointer (some ⟨A, 0, none⟩)) ∧ B ≤ A ∧ w.heap[A]? = some (.cells #[.int .i64 at', .int .i64 1, .int .i64 1, .int .i64 n] 407)

theorem grown_bytes (w : World) (e : TypeId) (t : ByteArray) : w.grownBy (Lib.bytesWorld w e t) none := ⟨rfl, rfl, rfl, by rw [Lib.bytesWorld_size]; omega, fun j hj _ => Lib.bytesWorld_at_old w e t j hj⟩

set_option maxRecDepth 100000 in
set_option maxHeartbeats 1000000 in
theorem number_ok (hs : s.size ≤ 4000) (hk : TokOk s k) (n : Int) (hsz : k.text.size ≤ 18) (ha : Lib.atoi k.text.data.toList = some n) (hk3 : nxt s k = k') :
    Reads 273 [] P s k k' dp en ea (NumE k.at' n) := by
  intro w h
  have HN : Hid (Calls Tryz.prog 236 #[.pointer (some ⟨P, 0, none⟩)] w fun e w' => e = .returned (tkV k) ∧ PrIn w' P s k' dp en ea ∧ w.grownBy w' (some P)) := by
    rw [← hk3]; exact next_ok h hk hs
  have HA : Hid (∀ w, Calls Tryz.prog 276 #[.string k.text] w fun e w' => e = .returned (.tuple #[.int .i64 n, .nilIface]) ∧ w.grownBy w' none) := fun w => by
    refine (Tryz.strconv_Atoi k.text n hsz ha w).mono ?_
    rintro e w' ⟨h1, t, rfl⟩
    exact ⟨h1, grown_bytes _ _ _⟩
  clear h ha
  show Calls Tryz.prog 273 #[.pointer (some ⟨P, 0, none⟩)] w _
  go_enter Tryz.func273, Tryz.ntmps273
  go_wp2_with fail
  refine HN.out.mono ?_
  rintro e w1 ⟨rfl, p1, q1⟩
  have HP1 : Hid (PrIn w1 P s k' dp en ea ∧ w.grownBy w1 (some P)) := ⟨p1, q1⟩
  clear p1 q1 HN
  unfold tkV
  go_wp2_with fail
  refine (HA.out _).mono ?_
  rintro e w2 ⟨rfl, g2⟩
  have hb2 : w2.heap[w1.heap.size]? = some (.cells #[.int .i64 k.kind, .string k.text, .int .i64 k.at'] 249) := (g2.block _ (by simp) (by simp)).trans (heap_alloc_new w1 _)
  have b2 : w2.cell? ⟨w1.heap.size, 2, none⟩ = some (.int .i64 k.at') := cell_at hb2
  have HG2 : Hid (w1.grownBy w2 none) := (World.grownBy_alloc w1 _ none).trans g2
  clear hb2 g2 HA
  go_wp2_with fail
  refine (newPart_any k.at' (.slice none 0 0) [] ⟨fun _ h => (List.not_mem_nil h).elim, by simp, Or.inl ⟨rfl, rfl⟩⟩).mono ?_
  rintro e w3 ⟨rfl, g3⟩
  have HG3 : Hid (w1.grownBy w3 none) := HG2.out.trans g3
  have hpc : partCost [] = 1 := by decide
  rw [hpc]
  clear g3 HG2 b2
  have HF : Hid (∀ o, o = Obj.cells #[.int .i64 k.at', .int .i64 1, .int .i64 1, .int .i64 n] 407 → NumE k.at' n (w3.alloc o) w.heap.size (.iface 405 (.pointer (some ⟨w3.heap.size, 0, none⟩))) ∧ PrIn (w3.alloc o) P s k' dp en ea ∧ w.grownBy (w3.alloc o) (some P)) := by
    intro o ho
    subst ho
    have hg := HG3.out.trans (World.grownBy_alloc w3 (Obj.cells #[.int .i64 k.at', .int .i64 1, .int .i64 1, .int .i64 n] 407) none)
    exact ⟨⟨w3.heap.size, rfl, by have := HP1.out.2.size; have := HG3.out.size; omega, heap_alloc_new _ _⟩, HP1.out.1.grow hg, HP1.out.2.trans (hg.but _)⟩
  go_wp2_with fail
  go_ret
  exact ⟨_, rfl, HF.out _ rfl⟩

set_option maxRecDepth 100000 in
set_option maxHeartbeats 1000000 in
theorem basic_number (hq : Reads 273 [] P s k k' dp en ea E) (hk : k.kind = 3) : Reads 270 [] P s k k' dp en ea E := by
  intro w h
  have HQ : Hid (Calls Tryz.prog 273 #[.pointer (some ⟨P, 0, none⟩)] w fun e w' => ∃ v, e = .returned v ∧ E w' w.heap.size v ∧ PrIn w' P s k' dp en ea ∧ w.grownBy w' (some P)) := hq w h
  have c1 := h.c1
  have c2 := h.c2
  have c3 := h.c3
  rw [hk] at c1
  clear h hq
  show Calls Tryz.prog 270 #[.pointer (some ⟨P, 0, none⟩)] w _
  go_enter Tryz.func270, Tryz.ntmps270
  go_wp2_with fail
  refine HQ.out.mono ?_
  rintro e w2 ⟨v, rfl, h1⟩
  have HH : Hid (E w2 w.heap.size v ∧ PrIn w2 P s k' dp en ea ∧ w.grownBy w2 (some P)) := h1
  clear h1 HQ
  go_wp2_with fail
  go_ret
  exact ⟨_, rfl, HH.out⟩

set_option maxRecDepth 100000 in
set_option maxHeartbeats 1000000 in
theorem register_ok (h : PrIn w P s k dp en ea) (hs : s.size ≤ 4000) (hk : TokOk s k) (c : Int) (hsz : 1 < k.text.size) (hc : (k.text[1].toNat : Int) = 48 + c) (h0 : 0 ≤ c) (h1 : c ≤ 7) :
    Calls Tryz.prog 235 #[.pointer (some ⟨P, 0, none⟩)] w fun e w' => e = .returned (.int .i64 c) ∧ PrIn w' P s (nxt s k) dp en ea ∧ w.grownBy w' (some P) := by
  have HN : Hid (Calls Tryz.prog 236 #[.pointer (some ⟨P, 0, none⟩)] w fun e w' => e = .returned (tkV k) ∧ PrIn w' P s (nxt s k) dp en ea ∧ w.grownBy w' (some P)) := next_ok h hk hs
  have hft := field_text k.kind k.at' k.text
  have i1 : (1 : Int) < (k.text.size : Int) := by omega
  clear h
  go_enter Tryz.func235, Tryz.ntmps235
  go_wp2_with fail
  refine HN.out.mono ?_
  rintro e w1 ⟨rfl, p1, q1⟩
  have HP1 : Hid (PrIn w1 P s (nxt s k) dp en ea ∧ w.grownBy w1 (some P)) := ⟨p1, q1⟩
  clear p1 q1 HN
  unfold tkV
  go_wp2_with fail
  go_ret
  exact ⟨ret_int (by omega), HP1.out⟩
end Go.Proofs.YthllhabjfchgiaaGreatDoor

/- Package lang: given, storing. -/
namespace Go.Proofs.YthllhabjfchgiaaGreatDoor
open Go.RowKit
open Hx (Tk)
attribute [local go_sem ↓] Go.wp_at_zero Go.wp_at_succ
attribute [local go_sem] setCell_drewN'
variable {w : World} {P : Nat} {s : ByteArray} {k k' : Tk} {dp en ea : Int} {E : World → Nat → Value → Prop}

/-- what is said of an expr stays so while the parser goes on -/
structure Stays (P : Nat) (E : World → Nat → Value → Prop) : Prop where
  keep : ∀ w w' B v, P < B → E w B v → w.grownBy w' (some P) → E w' B v
  down : ∀ w B B' v, B' ≤ B → E w B v → E w B' v

theorem ask_stays (P : Nat) (at' of : Int) (base what : ByteArray) : Stays P (AskE at' of base what) := by
  constructor
  · rintro w w' B v hB ⟨A, S, h1, h2, h3, h4, h5⟩ hg
    exact ⟨A, S, h1, h2, h3, (hg.block A (lt_of_some h4) (by simp; omega)).trans h4, h5.grow hg (by omega)⟩
  · rintro w B B' v hB ⟨A, S, h1, h2, h3, h4, h5⟩
    exact ⟨A, S, h1, by omega, by omega, h4, h5⟩

theorem num_stays (P : Nat) (at' n : Int) : Stays P (NumE at' n) := by
  constructor
  · rintro w w' B v hB ⟨A, h1, h2, h3⟩ hg
    exact ⟨A, h1, h2, (hg.block A (lt_of_some h3) (by simp; omega)).trans h3⟩
  · rintro w B B' v hB ⟨A, h1, h2, h3⟩
    exact ⟨A, h1, by omega, h3⟩

theorem lit_list (l : List UInt8) : (⟨l.toArray⟩ : ByteArray).toList = l := ByteArray.toList_mk l

theorem expect_lit (h : PrIn w P s k dp en ea) (hk : TokOk s k) (hs : s.size ≤ 4000) (l : List UInt8) (hl : k.text.toList = l) (hn : nxt s k = k') :
    Calls Tryz.prog 239 #[.pointer (some ⟨P, 0, none⟩), .string ⟨l.toArray⟩] w fun e w' => e = .returned (.tuple #[]) ∧ PrIn w' P s k' dp en ea ∧ w.grownBy w' (some P) := by
  rw [← hn]
  exact expect_ok h hk hs ⟨l.toArray⟩ (by rw [hl, lit_list]; simp)

set_option maxRecDepth 100000 in
set_option maxHeartbeats 1000000 in
theorem given_ok (hs : s.size ≤ 4000) (k1 k2 : Tk) (hE : Stays P E) (hok : TokOk s k) (ht : k.text.toList = [61]) (hk1 : nxt s k = k1) (hq : Reads 238 [] P s k1 k2 dp en ea E) (hok2 : TokOk s k2) (ht2 : k2.text.toList = [59]) (hk2 : nxt s k2 = k') :
    Reads 233 [] P s k k' dp en ea E := by
  intro w h
  have hL := h.lt
  have H1 : Hid (Calls Tryz.prog 239 #[.pointer (some ⟨P, 0, none⟩), .string ⟨#[61]⟩] w fun e w' => e = .returned (.tuple #[]) ∧ PrIn w' P s k1 dp en ea ∧ w.grownBy w' (some P)) := expect_lit h hok hs [61] ht hk1
  have H2 : Hid (∀ x, PrIn x P s k1 dp en ea → Calls Tryz.prog 238 #[.pointer (some ⟨P, 0, none⟩)] x fun e w' => ∃ v, e = .returned v ∧ E w' x.heap.size v ∧ PrIn w' P s k2 dp en ea ∧ x.grownBy w' (some P)) := hq
  have H3 : Hid (∀ x, PrIn x P s k2 dp en ea → Calls Tryz.prog 239 #[.pointer (some ⟨P, 0, none⟩), .string ⟨#[59]⟩] x fun e w' => e = .returned (.tuple #[]) ∧ PrIn w' P s k' dp en ea ∧ x.grownBy w' (some P)) := fun x hx => expect_lit hx hok2 hs [59] ht2 hk2
  clear h hq
  show Calls Tryz.prog 233 #[.pointer (some ⟨P, 0, none⟩)] w _
  go_enter Tryz.func233, Tryz.ntmps233
  go_wp2_with fail
  refine H1.out.mono ?_
  rintro e w1 ⟨rfl, p1, q1⟩
  have HP1 : Hid (PrIn w1 P s k1 dp en ea ∧ w.grownBy w1 (some P)) := ⟨p1, q1⟩
  clear p1 q1 H1
  go_wp2_with fail
  refine (H2.out _ HP1.out.1).mono ?_
  rintro e w2 ⟨v, rfl, e2, p2, q2⟩
  have HP2 : Hid (E w2 w1.heap.size v ∧ PrIn w2 P s k2 dp en ea ∧ w1.grownBy w2 (some P)) := ⟨e2, p2, q2⟩
  clear e2 p2 q2 H2
  go_wp2_with fail
  refine (H3.out _ HP2.out.2.1).mono ?_
  rintro e w3 ⟨rfl, p3, q3⟩
  have HF : Hid (E w3 w1.heap.size v ∧ PrIn w3 P s k' dp en ea ∧ w.grownBy w3 (some P) ∧ w.heap.size ≤ w1.heap.size) := ⟨hE.keep _ _ _ _ (by have := HP1.out.2.size; omega) HP2.out.1 q3, p3, (HP1.out.2.trans HP2.out.2.2).trans q3, HP1.out.2.size⟩
  clear p3 q3 H3 HP1 HP2
  go_wp2_with fail
  go_ret
  exact ⟨v, rfl, hE.down _ _ _ _ HF.out.2.2.2 HF.out.1, HF.out.2.1, HF.out.2.2.1⟩

theorem number_price (A : Nat) (w : World) : (method 576 405 (.pointer (some ⟨A, 0, none⟩)) "helm/lang.price").run Tryz.prog w = .ok (244, .pointer (some ⟨A, 0, none⟩)) w := by kernel_rfl

/-- a register that is given a literal -/
def StoreE (at' reg at2 n : Int) (w : World) (B : Nat) (v : Value) : Prop :=
  ∃ A u, v = .iface 327 (.pointer (some ⟨A, 0, none⟩)) ∧ B ≤ A ∧ w.heap[A]? = some (.cells #[.int .i64 at', .int .i64 2, .int .i64 reg, u] 329) ∧ NumE at2 n w B u

theorem one_cost (w : World) (T : TypeId) (c : Int) (h0 : 0 ≤ c) (h1 : c ≤ 1000001) : Costs (w.alloc (.cells #[.int .i64 c] T)) (.slice (some ⟨w.heap.size, 0, none⟩) 1 1) [c] := by
  refine ⟨by simp; omega, by simp, Or.inr ⟨_, _, rfl, fun i y hy => ?_⟩⟩
  match i, hy with
  | 0, hy =>
    cases hy
    exact cell_at (heap_alloc_new w _)

theorem part_one : partCost [1] = 2 := by decide

set_option maxRecDepth 100000 in
set_option maxHeartbeats 1000000 in
theorem storing_num (hs : s.size ≤ 4000) (k1 : Tk) (hok : TokOk s k) (c at2 n : Int) (hsz : 1 < k.text.size) (hc : (k.text[1].toNat : Int) = 48 + c) (h0 : 0 ≤ c) (h1 : c ≤ 7) (hk1 : nxt s k = k1) (hq : Reads 233 [] P s k1 k' dp en ea (NumE at2 n)) :
    Reads 221 [] P s k k' dp en ea (StoreE k.at' c at2 n) := by
  intro w h
  have hL := h.lt
  have c3 := h.c3
  have H1 : Hid (Calls Tryz.prog 235 #[.pointer (some ⟨P, 0, none⟩)] w fun e w' => e = .returned (.int .i64 c) ∧ PrIn w' P s k1 dp en ea ∧ w.grownBy w' (some P)) := by
    rw [← hk1]; exact register_ok h hs hok c hsz hc h0 h1
  have H2 : Hid (∀ x, PrIn x P s k1 dp en ea → Calls Tryz.prog 233 #[.pointer (some ⟨P, 0, none⟩)] x fun e w' => ∃ v, e = .returned v ∧ NumE at2 n w' x.heap.size v ∧ PrIn w' P s k' dp en ea ∧ x.grownBy w' (some P)) := hq
  clear h hq hc
  show Calls Tryz.prog 221 #[.pointer (some ⟨P, 0, none⟩)] w _
  go_enter Tryz.func221, Tryz.ntmps221
  go_wp2_with fail
  refine H1.out.mono ?_
  rintro e w1 ⟨rfl, p1, q1⟩
  have HP1 : Hid (PrIn w1 P s k1 dp en ea ∧ w.grownBy w1 (some P)) := ⟨p1, q1⟩
  clear p1 q1 H1
  go_wp2_with fail
  refine (H2.out _ HP1.out.1).mono ?_
  rintro e w2 ⟨v, rfl, ⟨A, rfl, hA, hN⟩, p2, q2⟩
  have a1 : w2.cell? ⟨A, 1, none⟩ = some (.int .i64 1) := cell_at hN
  have HP2 : Hid (NumE at2 n w2 w1.heap.size (.iface 405 (.pointer (some ⟨A, 0, none⟩))) ∧ PrIn w2 P s k' dp en ea ∧ w1.grownBy w2 (some P)) := ⟨⟨A, rfl, hA, hN⟩, p2, q2⟩
  clear hN p2 q2 H2
  have hmp := number_price A
  have HPr : Hid (Calls Tryz.prog 244 #[.pointer (some ⟨A, 0, none⟩)] w2 fun e w' => e = .returned (.int .i64 1) ∧ w' = w2) := price_at A 0 1 a1
  go_wp2_with fail
  refine HPr.out.mono ?_
  rintro e w3 ⟨rfl, rfl⟩
  go_wp2_with fail
  refine (newPart_any k.at' _ [1] (one_cost w3 _ 1 (by omega) (by omega))).mono ?_
  rintro e w4 ⟨rfl, g4⟩
  rw [part_one]
  have HG4 : Hid (w3.grownBy w4 none) := (World.grownBy_alloc w3 _ none).trans g4
  clear g4
  have HF : Hid (∀ o, o = Obj.cells #[.int .i64 k.at', .int .i64 2, .int .i64 c, .iface 405 (.pointer (some ⟨A, 0, none⟩))] 329 → StoreE k.at' c at2 n (w4.alloc o) w.heap.size (.iface 327 (.pointer (some ⟨w4.heap.size, 0, none⟩))) ∧ PrIn (w4.alloc o) P s k' dp en ea ∧ w.grownBy (w4.alloc o) (some P)) := by
    intro o ho
    subst ho
    have hg := HG4.out.trans (World.grownBy_alloc w4 (Obj.cells #[.int .i64 k.at', .int .i64 2, .int .i64 c, .iface 405 (.pointer (some ⟨A, 0, none⟩))] 329) none)
    have s1 := HP1.out.2.size
    have s2 := HP2.out.2.2.size
    have s3 := HG4.out.size
    refine ⟨⟨w4.heap.size, _, rfl, by omega, heap_alloc_new _ _, ?_⟩, HP2.out.2.1.grow hg, (HP1.out.2.trans HP2.out.2.2).trans (hg.but _)⟩
    exact (num_stays P at2 n).down _ _ _ _ s1 ((num_stays P at2 n).keep _ _ _ _ (by omega) HP2.out.1 (hg.but _))
  go_wp2_with fail
  go_ret
  exact ⟨_, rfl, HF.out _ rfl⟩
end Go.Proofs.YthllhabjfchgiaaGreatDoor

/- Package lang: pushing, statement. -/
namespace Go.Proofs.YthllhabjfchgiaaGreatDoor
open Go.RowKit
open Hx (Tk)
attribute [local go_sem ↓] Go.wp_at_zero Go.wp_at_succ
attribute [local go_sem] setCell_drewN'
variable {w : World} {P : Nat} {s : ByteArray} {k k' : Tk} {dp en ea : Int} {E : World → Nat → Value → Prop}

/-- a push of what is asked of two sets -/
def PushE (at' at1 of1 : Int) (base1 what1 : ByteArray) (at2 of2 : Int) (base2 what2 : ByteArray) (w : World) (B : Nat) (v : Value) : Prop :=
  ∃ A u1 u2, v = .iface 333 (.pointer (some ⟨A, 0, none⟩)) ∧ B ≤ A ∧ w.heap[A]? = some (.cells #[.int .i64 at', .int .i64 5, u1, u2] 335) ∧ AskE at1 of1 base1 what1 w B u1 ∧ AskE at2 of2 base2 what2 w B u2

theorem asking_price (A : Nat) (w : World) : (method 576 410 (.pointer (some ⟨A, 0, none⟩)) "helm/lang.price").run Tryz.prog w = .ok (244, .pointer (some ⟨A, 0, none⟩)) w := by kernel_rfl

theorem two_costs (w : World) (T : TypeId) (c d : Int) (h0 : 0 ≤ c) (h1 : c ≤ 1000001) (h2 : 0 ≤ d) (h3 : d ≤ 1000001) : Costs (w.alloc (.cells #[.int .i64 c, .int .i64 d] T)) (.slice (some ⟨w.heap.size, 0, none⟩) 2 2) [c, d] := by
  refine ⟨by simp; omega, by simp, Or.inr ⟨_, _, rfl, fun i y hy => ?_⟩⟩
  match i, hy with
  | 0, hy => cases hy; exact cell_at (heap_alloc_new w _)
  | 1, hy => cases hy; exact cell_at (heap_alloc_new w _)

theorem part_two : partCost [2, 2] = 5 := by decide

theorem close_lit (h : PrIn w P s k dp en ea) (hk : TokOk s k) (hs : s.size ≤ 4000) (hdb : 0 ≤ dp) (hdc : dp ≤ 21) (l : List UInt8) (hl : k.text.toList = l) (hn : nxt s k = k') :
    Calls Tryz.prog 240 #[.pointer (some ⟨P, 0, none⟩), .string ⟨l.toArray⟩] w fun e w' => e = .returned (.tuple #[]) ∧ PrIn w' P s k' (dp - 1) en ea ∧ w.grownBy w' (some P) := by
  rw [← hn]
  exact close_ok h hk hs hdb hdc ⟨l.toArray⟩ (by rw [hl, lit_list]; simp)

theorem open_lit (h : PrIn w P s k dp en ea) (hk : TokOk s k) (hs : s.size ≤ 4000) (hd : (dp == 20) = false) (hdb : 0 ≤ dp) (hdc : dp ≤ 20) (l : List UInt8) (hl : k.text.toList = l) (hn : nxt s k = k') :
    Calls Tryz.prog 237 #[.pointer (some ⟨P, 0, none⟩), .string ⟨l.toArray⟩] w fun e w' => e = .returned (.tuple #[]) ∧ PrIn w' P s k' (dp + 1) en ea ∧ w.grownBy w' (some P) := by
  rw [← hn]
  exact open_ok h hk hs hd hdb hdc ⟨l.toArray⟩ (by rw [hl, lit_list]; simp)

set_option maxRecDepth 100000 in
set_option maxHeartbeats 1000000 in
theorem pushing_ok (hs : s.size ≤ 4000) (k1 k2 k3 k4 k5 k6 : Tk) (at1 of1 at2 of2 : Int) (base1 what1 base2 what2 : ByteArray) (hd : (dp == 20) = false) (hdb : 0 ≤ dp) (hdc : dp ≤ 20)
    (o0 : TokOk s k) (n0 : nxt s k = k1) (o1 : TokOk s k1) (t1 : k1.text.toList = [40]) (n1 : nxt s k1 = k2) (q1 : Reads 238 [] P s k2 k3 (dp + 1) en ea (AskE at1 of1 base1 what1))
    (o3 : TokOk s k3) (t3 : k3.text.toList = [44]) (n3 : nxt s k3 = k4) (q2 : Reads 238 [] P s k4 k5 (dp + 1) en ea (AskE at2 of2 base2 what2))
    (o5 : TokOk s k5) (t5 : k5.text.toList = [41]) (n5 : nxt s k5 = k6) (o6 : TokOk s k6) (t6 : k6.text.toList = [59]) (n6 : nxt s k6 = k') :
    Reads 223 [] P s k k' dp en ea (PushE k.at' at1 of1 base1 what1 at2 of2 base2 what2) := by
  intro w h
  have hL := h.lt
  have H0 : Hid (Calls Tryz.prog 236 #[.pointer (some ⟨P, 0, none⟩)] w fun e w' => e = .returned (tkV k) ∧ PrIn w' P s k1 dp en ea ∧ w.grownBy w' (some P)) := by rw [← n0]; exact next_ok h o0 hs
  have H1 : Hid (∀ x, PrIn x P s k1 dp en ea → Calls Tryz.prog 237 #[.pointer (some ⟨P, 0, none⟩), .string ⟨#[40]⟩] x fun e w' => e = .returned (.tuple #[]) ∧ PrIn w' P s k2 (dp + 1) en ea ∧ x.grownBy w' (some P)) := fun x hx => open_lit hx o1 hs hd hdb hdc [40] t1 n1
  have H2 : Hid (∀ x, PrIn x P s k2 (dp + 1) en ea → Calls Tryz.prog 238 #[.pointer (some ⟨P, 0, none⟩)] x fun e w' => ∃ v, e = .returned v ∧ AskE at1 of1 base1 what1 w' x.heap.size v ∧ PrIn w' P s k3 (dp + 1) en ea ∧ x.grownBy w' (some P)) := q1
  have H3 : Hid (∀ x, PrIn x P s k3 (dp + 1) en ea → Calls Tryz.prog 239 #[.pointer (some ⟨P, 0, none⟩), .string ⟨#[44]⟩] x fun e w' => e = .returned (.tuple #[]) ∧ PrIn w' P s k4 (dp + 1) en ea ∧ x.grownBy w' (some P)) := fun x hx => expect_lit hx o3 hs [44] t3 n3
  have H4 : Hid (∀ x, PrIn x P s k4 (dp + 1) en ea → Calls Tryz.prog 238 #[.pointer (some ⟨P, 0, none⟩)] x fun e w' => ∃ v, e = .returned v ∧ AskE at2 of2 base2 what2 w' x.heap.size v ∧ PrIn w' P s k5 (dp + 1) en ea ∧ x.grownBy w' (some P)) := q2
  have H5 : Hid (∀ x, PrIn x P s k5 (dp + 1) en ea → Calls Tryz.prog 240 #[.pointer (some ⟨P, 0, none⟩), .string ⟨#[41]⟩] x fun e w' => e = .returned (.tuple #[]) ∧ PrIn w' P s k6 dp en ea ∧ x.grownBy w' (some P)) := fun x hx => by
    have := close_lit hx o5 hs (by omega) (by omega) [41] t5 n5
    rw [show dp + 1 - 1 = dp by omega] at this
    exact this
  have H6 : Hid (∀ x, PrIn x P s k6 dp en ea → Calls Tryz.prog 239 #[.pointer (some ⟨P, 0, none⟩), .string ⟨#[59]⟩] x fun e w' => e = .returned (.tuple #[]) ∧ PrIn w' P s k' dp en ea ∧ x.grownBy w' (some P)) := fun x hx => expect_lit hx o6 hs [59] t6 n6
  have hft := field_at k.kind k.at' k.text
  clear h q1 q2 o0 o1 o3 o5 o6 t1 t3 t5 t6 n0 n1 n3 n5 n6
  show Calls Tryz.prog 223 #[.pointer (some ⟨P, 0, none⟩)] w _
  go_enter Tryz.func223, Tryz.ntmps223
  go_wp2_with fail
  refine H0.out.mono ?_
  rintro e w1 ⟨rfl, p1, g1⟩
  have HP1 : Hid (PrIn w1 P s k1 dp en ea ∧ w.grownBy w1 (some P)) := ⟨p1, g1⟩
  clear p1 g1 H0
  unfold tkV
  go_wp2_with fail
  refine (H1.out _ HP1.out.1).mono ?_
  rintro e w2 ⟨rfl, p2, g2⟩
  have HP2 : Hid (PrIn w2 P s k2 (dp + 1) en ea ∧ w.grownBy w2 (some P)) := ⟨p2, HP1.out.2.trans g2⟩
  clear p2 g2 H1 HP1
  go_wp2_with fail
  refine (H2.out _ HP2.out.1).mono ?_
  rintro e w3 ⟨v1, rfl, ⟨A1, S1, rfl, a1, a2, a3, a4⟩, p3, g3⟩
  have HE1 : Hid (AskE at1 of1 base1 what1 w3 w.heap.size (.iface 410 (.pointer (some ⟨A1, 0, none⟩)))) := (ask_stays P _ _ _ _).down _ _ _ _ HP2.out.2.size ⟨A1, S1, rfl, a1, a2, a3, a4⟩
  have hA1 : w.heap.size ≤ A1 := Nat.le_trans HP2.out.2.size a1
  have HA1 : Hid (AskAt w3 A1 S1 at1 2 of1 what1) := a3
  have HP3 : Hid (PrIn w3 P s k3 (dp + 1) en ea ∧ w.grownBy w3 (some P)) := ⟨p3, HP2.out.2.trans g3⟩
  clear a1 a2 a3 a4 p3 g3 H2 HP2
  go_wp2_with fail
  refine (H3.out _ HP3.out.1).mono ?_
  rintro e w4 ⟨rfl, p4, g4⟩
  have HE1b : Hid (AskE at1 of1 base1 what1 w4 w.heap.size (.iface 410 (.pointer (some ⟨A1, 0, none⟩)))) := (ask_stays P _ _ _ _).keep _ _ _ _ hL HE1.out g4
  have HA1b : Hid (AskAt w4 A1 S1 at1 2 of1 what1) := (g4.block A1 (lt_of_some HA1.out) (by simp; omega)).trans HA1.out
  have HP4 : Hid (PrIn w4 P s k4 (dp + 1) en ea ∧ w.grownBy w4 (some P)) := ⟨p4, HP3.out.2.trans g4⟩
  clear p4 g4 H3 HP3 HE1 HA1
  go_wp2_with fail
  refine (H4.out _ HP4.out.1).mono ?_
  rintro e w5 ⟨v2, rfl, ⟨A2, S2, rfl, a1, a2, a3, a4⟩, p5, g5⟩
  have HE2 : Hid (AskE at2 of2 base2 what2 w5 w.heap.size (.iface 410 (.pointer (some ⟨A2, 0, none⟩)))) := (ask_stays P _ _ _ _).down _ _ _ _ HP4.out.2.size ⟨A2, S2, rfl, a1, a2, a3, a4⟩
  have hA2 : w.heap.size ≤ A2 := Nat.le_trans HP4.out.2.size a1
  have HA2 : Hid (AskAt w5 A2 S2 at2 2 of2 what2) := a3
  have HE1 : Hid (AskE at1 of1 base1 what1 w5 w.heap.size (.iface 410 (.pointer (some ⟨A1, 0, none⟩)))) := (ask_stays P _ _ _ _).keep _ _ _ _ hL HE1b.out g5
  have HA1 : Hid (AskAt w5 A1 S1 at1 2 of1 what1) := (g5.block A1 (lt_of_some HA1b.out) (by simp; omega)).trans HA1b.out
  have HP5 : Hid (PrIn w5 P s k5 (dp + 1) en ea ∧ w.grownBy w5 (some P)) := ⟨p5, HP4.out.2.trans g5⟩
  clear a1 a2 a3 a4 p5 g5 H4 HP4 HE1b HA1b
  go_wp2_with fail
  refine (H5.out _ HP5.out.1).mono ?_
  rintro e w6 ⟨rfl, p6, g6⟩
  have HP6 : Hid (PrIn w6 P s k6 dp en ea ∧ w5.grownBy w6 (some P)) := ⟨p6, g6⟩
  clear p6 g6 H5
  go_wp2_with fail
  refine (H6.out _ HP6.out.1).mono ?_
  rintro e w7 ⟨rfl, p7, g7⟩
  have g57 := HP6.out.2.trans g7
  have HE1b : Hid (AskE at1 of1 base1 what1 w7 w.heap.size (.iface 410 (.pointer (some ⟨A1, 0, none⟩)))) := (ask_stays P _ _ _ _).keep _ _ _ _ hL HE1.out g57
  have HE2b : Hid (AskE at2 of2 base2 what2 w7 w.heap.size (.iface 410 (.pointer (some ⟨A2, 0, none⟩)))) := (ask_stays P _ _ _ _).keep _ _ _ _ hL HE2.out g57
  have c1 : w7.cell? ⟨A1, 0 + 1, none⟩ = some (.int .i64 2) := cell_at ((g57.block A1 (lt_of_some HA1.out) (by simp; omega)).trans HA1.out)
  have c2 : w7.cell? ⟨A2, 0 + 1, none⟩ = some (.int .i64 2) := cell_at ((g57.block A2 (lt_of_some HA2.out) (by simp; omega)).trans HA2.out)
  have HP7 : Hid (PrIn w7 P s k' dp en ea ∧ w.grownBy w7 (some P)) := ⟨p7, HP5.out.2.trans g57⟩
  have Hc1 : Hid (Calls Tryz.prog 244 #[.pointer (some ⟨A1, 0, none⟩)] w7 fun e w' => e = .returned (.int .i64 2) ∧ w' = w7) := price_at A1 0 2 c1
  have Hc2 : Hid (Calls Tryz.prog 244 #[.pointer (some ⟨A2, 0, none⟩)] w7 fun e w' => e = .returned (.int .i64 2) ∧ w' = w7) := price_at A2 0 2 c2
  clear p7 g7 g57 H6 HP5 HP6 HE1 HE2 HA1 HA2 c1 c2
  have m1 := asking_price A1
  have m2 := asking_price A2
  go_wp2_with fail
  refine Hc1.out.mono ?_
  rintro e w8 ⟨rfl, rfl⟩
  go_wp2_with fail
  refine Hc2.out.mono ?_
  rintro e w9 ⟨rfl, rfl⟩
  go_wp2_with fail
  refine (newPart_any k.at' _ [2, 2] (two_costs w9 _ 2 2 (by omega) (by omega) (by omega) (by omega))).mono ?_
  rintro e w10 ⟨rfl, g10⟩
  rw [part_two]
  have HG : Hid (w9.grownBy w10 none) := (World.grownBy_alloc w9 _ none).trans g10
  clear g10
  have HF : Hid (∀ o, o = Obj.cells #[.int .i64 k.at', .int .i64 5, .iface 410 (.pointer (some ⟨A1, 0, none⟩)), .iface 410 (.pointer (some ⟨A2, 0, none⟩))] 335 → PushE k.at' at1 of1 base1 what1 at2 of2 base2 what2 (w10.alloc o) w.heap.size (.iface 333 (.pointer (some ⟨w10.heap.size, 0, none⟩))) ∧ PrIn (w10.alloc o) P s k' dp en ea ∧ w.grownBy (w10.alloc o) (some P)) := by
    intro o ho
    subst ho
    have hg := HG.out.trans (World.grownBy_alloc w10 (Obj.cells #[.int .i64 k.at', .int .i64 5, .iface 410 (.pointer (some ⟨A1, 0, none⟩)), .iface 410 (.pointer (some ⟨A2, 0, none⟩))] 335) none)
    have s1 := HP7.out.2.size
    have s2 := HG.out.size
    exact ⟨⟨w10.heap.size, _, _, rfl, by omega, heap_alloc_new _ _, (ask_stays P _ _ _ _).keep _ _ _ _ hL HE1b.out (hg.but _), (ask_stays P _ _ _ _).keep _ _ _ _ hL HE2b.out (hg.but _)⟩, HP7.out.1.grow hg, HP7.out.2.trans (hg.but _)⟩
  go_wp2_with fail
  go_ret
  exact ⟨_, rfl, HF.out _ rfl⟩
end Go.Proofs.YthllhabjfchgiaaGreatDoor

/- Package lang: statement, statements. -/
namespace Go.Proofs.YthllhabjfchgiaaGreatDoor
open Go.RowKit
open Hx (Tk)
attribute [local go_sem ↓] Go.wp_at_zero Go.wp_at_succ
attribute [local go_sem] setCell_drewN'
variable {w : World} {P : Nat} {s : ByteArray} {k k' : Tk} {dp en ea : Int} {E E1 E2 : World → Nat → Value → Prop}

/-- it hangs on the blocks from B on that are there -/
def Local (E : World → Nat → Value → Prop) : Prop := ∀ w w' B v, E w B v → (∀ k, B ≤ k → k < w.heap.size → w'.heap[k]? = w.heap[k]?) → E w' B v

theorem ask_local (at' of : Int) (base what : ByteArray) : Local (AskE at' of base what) := by
  rintro w w' B v ⟨A, S, h1, h2, h3, h4, h5⟩ hk
  exact ⟨A, S, h1, h2, h3, (hk A h2 (lt_of_some h4)).trans h4, (hk S h3 (lt_of_some h5)).trans h5⟩

theorem num_local (at' n : Int) : Local (NumE at' n) := by
  rintro w w' B v ⟨A, h1, h2, h3⟩ hk
  exact ⟨A, h1, h2, (hk A h2 (lt_of_some h3)).trans h3⟩

theorem store_local (at' reg at2 n : Int) : Local (StoreE at' reg at2 n) := by
  rintro w w' B v ⟨A, u, h1, h2, h3, h4⟩ hk
  exact ⟨A, u, h1, h2, (hk A h2 (lt_of_some h3)).trans h3, num_local _ _ _ _ _ _ h4 hk⟩

theorem push_local (at' at1 of1 : Int) (base1 what1 : ByteArray) (at2 of2 : Int) (base2 what2 : ByteArray) : Local (PushE at' at1 of1 base1 what1 at2 of2 base2 what2) := by
  rintro w w' B v ⟨A, u1, u2, h1, h2, h3, h4, h5⟩ hk
  exact ⟨A, u1, u2, h1, h2, (hk A h2 (lt_of_some h3)).trans h3, ask_local _ _ _ _ _ _ _ _ h4 hk, ask_local _ _ _ _ _ _ _ _ h5 hk⟩

set_option maxRecDepth 100000 in
theorem statement_push (hq : Reads 223 [] P s k k' dp en ea E) (hk : k.kind = 5) (ht : k.text.toList = [112, 117, 115, 104]) : Reads 191 [] P s k k' dp en ea E := by
  intro w h
  have HQ : Hid (Calls Tryz.prog 223 #[.pointer (some ⟨P, 0, none⟩)] w fun e w' => ∃ v, e = .returned v ∧ E w' w.heap.size v ∧ PrIn w' P s k' dp en ea ∧ w.grownBy w' (some P)) := hq w h
  have c1 := h.c1
  have c2 := h.c2
  rw [hk] at c1
  have t1 : (k.text.toList == [118, 97, 114]) = false := by rw [ht]; decide
  have t2 : (k.text.toList == [112, 117, 115, 104]) = true := by rw [ht]; decide
  clear h hq ht
  show Calls Tryz.prog 191 #[.pointer (some ⟨P, 0, none⟩)] w _
  go_enter Tryz.func191, Tryz.ntmps191
  go_wp2_with fail
  refine HQ.out.mono ?_
  rintro e w2 ⟨v, rfl, h1⟩
  have HH : Hid (E w2 w.heap.size v ∧ PrIn w2 P s k' dp en ea ∧ w.grownBy w2 (some P)) := h1
  clear h1 HQ
  go_wp2_with fail
  go_ret
  exact ⟨_, rfl, HH.out⟩

set_option maxRecDepth 100000 in
theorem statement_store (hq : Reads 221 [] P s k k' dp en ea E) (hk : k.kind = 4) : Reads 191 [] P s k k' dp en ea E := by
  intro w h
  have HQ : Hid (Calls Tryz.prog 221 #[.pointer (some ⟨P, 0, none⟩)] w fun e w' => ∃ v, e = .returned v ∧ E w' w.heap.size v ∧ PrIn w' P s k' dp en ea ∧ w.grownBy w' (some P)) := hq w h
  have c1 := h.c1
  have c2 := h.c2
  rw [hk] at c1
  clear h hq
  show Calls Tryz.prog 191 #[.pointer (some ⟨P, 0, none⟩)] w _
  go_enter Tryz.func191, Tryz.ntmps191
  go_wp2_with fail
  refine HQ.out.mono ?_
  rintro e w2 ⟨v, rfl, h1⟩
  have HH : Hid (E w2 w.heap.size v ∧ PrIn w2 P s k' dp en ea ∧ w.grownBy w2 (some P)) := h1
  clear h1 HQ
  go_wp2_with fail
  go_ret
  exact ⟨_, rfl, HH.out⟩

set_option maxRecDepth 100000 in
theorem statement_end (h : PrIn w P s k dp en ea) (hk : k.kind = 1) (ht : k.text.toList = []) : Calls Tryz.prog 191 #[.pointer (some ⟨P, 0, none⟩)] w fun e w' => e = .returned .nilIface ∧ w' = w := by
  have c1 := h.c1
  have c2 := h.c2
  rw [hk] at c1
  have t1 : (k.text.toList == [118, 97, 114]) = false := by rw [ht]; decide
  have t2 : (k.text.toList == [112, 117, 115, 104]) = false := by rw [ht]; decide
  have t3 : (k.text.toList == [114, 101, 116, 117, 114, 110]) = false := by rw [ht]; decide
  have t4 : (k.text.toList == [105, 102]) = false := by rw [ht]; decide
  have t5 : (k.text.toList == [101, 97, 99, 104]) = false := by rw [ht]; decide
  clear h ht
  go_enter Tryz.func191, Tryz.ntmps191
  go_wp2_with fail
  go_ret
  exact ⟨rfl, rfl⟩

theorem info_stmt : (Tryz.prog.info? 192).map (fun i => (i.zero, i.size, i.bytes)) = some (some .nilIface, 1, 16) := by kernel_rfl

/-- statements of two, in memory -/
def TwoE (E1 E2 : World → Nat → Value → Prop) (w : World) (B : Nat) (v : Value) : Prop :=
  ∃ B2 u1 u2, B ≤ B2 ∧ w.ownsRow B 192 1 v 2 [u1, u2] ∧ E1 w B u1 ∧ E2 w B2 u2

set_option maxRecDepth 100000 in
set_option maxHeartbeats 1000000 in
theorem statements_two (k1 k2 : Tk) (T1 T2 : TypeId) (l1 : Local E1) (l2 : Local E2) (f1 : ∀ w B v, E1 w B v → ∃ a, v = .iface T1 (.pointer (some a))) (f2 : ∀ w B v, E2 w B v → ∃ a, v = .iface T2 (.pointer (some a)))
    (q1 : Reads 191 [] P s k k1 dp en ea E1) (q2 : Reads 191 [] P s k1 k2 dp en ea E2) (hk : k2.kind = 1) (ht : k2.text.toList = []) :
    Reads 141 [] P s k k2 dp en ea (TwoE E1 E2) := by
  intro w h
  have hL := h.lt
  obtain ⟨i0, hi, hz0, hz1, hz2⟩ := info_parts info_stmt
  have H1 : Hid (Calls Tryz.prog 191 #[.pointer (some ⟨P, 0, none⟩)] w fun e w' => ∃ v, e = .returned v ∧ E1 w' w.heap.size v ∧ PrIn w' P s k1 dp en ea ∧ w.grownBy w' (some P)) := q1 w h
  have H2 : Hid (∀ x, PrIn x P s k1 dp en ea → Calls Tryz.prog 191 #[.pointer (some ⟨P, 0, none⟩)] x fun e w' => ∃ v, e = .returned v ∧ E2 w' x.heap.size v ∧ PrIn w' P s k2 dp en ea ∧ x.grownBy w' (some P)) := q2
  have H3 : Hid (∀ x, PrIn x P s k2 dp en ea → Calls Tryz.prog 191 #[.pointer (some ⟨P, 0, none⟩)] x fun e w' => e = .returned .nilIface ∧ w' = x) := fun x hx => statement_end hx hk ht
  clear h q1 q2
  show Calls Tryz.prog 141 #[.pointer (some ⟨P, 0, none⟩)] w _
  go_enter Tryz.func141, Tryz.ntmps141
  go_wp2_with fail
  refine H1.out.mono ?_
  rintro e w1 ⟨v1, rfl, e1, p1, g1⟩
  obtain ⟨a1, rfl⟩ := f1 _ _ _ e1
  have HP1 : Hid (E1 w1 w.heap.size (.iface T1 (.pointer (some a1))) ∧ PrIn w1 P s k1 dp en ea ∧ w.grownBy w1 (some P)) := ⟨e1, p1, g1⟩
  clear e1 p1 g1 H1
  go_wp2_with fail
  refine wp_loop_rounds 3 ?_
  rw [rounds_succ]
  go_wp2_with (at_builtin; refine wpList_append_lies _ rfl _ _ 105 rfl w.heap.size 192 i0 .nilIface 1 16 Tryz.underlying105 hi hz0 hz1 hz2 rfl (by decide) (.slice none 0 0) 0 [] rfl (World.ownsRow_nil _ _ _ _) ⟨w1.heap.size, 0, none⟩ 1 1 [.iface T1 (.pointer (some a1))] rfl rfl (cell_one_new _ _ _) (by simp [Value.oneCell']) (by decide) (by unfold maxLen; omega) (by omega) (by have := HP1.out.2.2.size; simp; omega) (w1.heap.size + 1) (by simp) ?_; intro gg cap w2 hown hgr hat hlt)
  have HGG : Hid (gg = w1.heap.size + 1) := by
    rcases hat with h | h
    · cases h
    · exact h
  have ga : w1.grownBy w2 none := (World.grownBy_alloc w1 _ none).trans hgr
  have HP2 : Hid (PrIn w2 P s k1 dp en ea ∧ w1.grownBy w2 none ∧ w2.ownsRow w.heap.size 192 1 (.slice (some ⟨gg, 0, none⟩) 1 cap) 1 [.iface T1 (.pointer (some a1))]) := ⟨HP1.out.2.1.grow ga, ga, hown⟩
  clear hown hgr hat ga
  refine (H2.out _ HP2.out.1).mono ?_
  rintro e w3 ⟨v2, rfl, e2, p3, g3⟩
  obtain ⟨a2, rfl⟩ := f2 _ _ _ e2
  have s1 := HP1.out.2.2.size
  have s2 := HP2.out.2.1.size
  have HP3 : Hid (E2 w3 w2.heap.size (.iface T2 (.pointer (some a2))) ∧ PrIn w3 P s k2 dp en ea ∧ w2.grownBy w3 (some P)) := ⟨e2, p3, g3⟩
  have HO3 : Hid (∀ o, (w3.alloc o).ownsRow w.heap.size 192 1 (.slice (some ⟨gg, 0, none⟩) 1 cap) 1 [.iface T1 (.pointer (some a1))]) := fun o => (HP2.out.2.2.kept g3 (Or.inr (by have := HGG.out; simp [Value.ownBlock]; omega))).alloc o
  clear e2 p3 g3 H2
  go_wp2_with fail
  rw [rounds_succ]
  go_wp2_with (at_builtin; refine wpList_append_lies _ rfl _ _ 105 rfl w.heap.size 192 i0 .nilIface 1 16 Tryz.underlying105 hi hz0 hz1 hz2 rfl (by decide) (.slice (some ⟨gg, 0, none⟩) 1 cap) 1 [.iface T1 (.pointer (some a1))] rfl (HO3.out _) ⟨w3.heap.size, 0, none⟩ 1 1 [.iface T2 (.pointer (some a2))] rfl rfl (cell_one_new _ _ _) (by simp [Value.oneCell']) (by decide) (by unfold maxLen; omega) (by omega) (by have := HP3.out.2.2.size; simp; omega) (w3.heap.size + 1) (by simp) ?_; intro g2 cap2 w4 hown hgr hat hlt)
  have s3 := HP3.out.2.2.size
  have hgg := HGG.out
  have gal : w3.grownBy w4 (some gg) := (World.grownBy_alloc w3 _ _).trans hgr
  have HF : Hid (TwoE E1 E2 w4 w.heap.size (.slice (some ⟨g2, 0, none⟩) 2 cap2) ∧ PrIn w4 P s k2 dp en ea ∧ w.grownBy w4 (some P)) := by
    refine ⟨⟨w2.heap.size, _, _, by omega, hown, l1 _ _ _ _ HP1.out.1 fun j hj1 hj2 => ?_, l2 _ _ _ _ HP3.out.1 fun j hj1 hj2 => ?_⟩, HP3.out.2.1.far gal (by omega), ?_⟩
    · rw [gal.block j (by omega) (by simp; omega), HP3.out.2.2.block j (by omega) (by simp; omega), HP2.out.2.1.block j (by omega) (by simp)]
    · exact gal.block j hj2 (by simp; omega)
    · have g13 : w.grownBy w3 (some P) := (HP1.out.2.2.trans (HP2.out.2.1.but _)).trans HP3.out.2.2
      exact g13.andThen gal (fun j e => by cases e; exact Or.inl (by omega))
  clear hown hgr hat gal HO3 hgg
  refine (H3.out _ HF.out.2.1).mono ?_
  rintro e w5 ⟨rfl, rfl⟩
  go_wp2_with fail
  rw [rounds_succ]
  go_wp2_with fail
  go_ret
  exact ⟨_, rfl, HF.out⟩
end Go.Proofs.YthllhabjfchgiaaGreatDoor
