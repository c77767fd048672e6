import Derived.Test.YthllhabjfchgiaaGreatDoorHy01
import Derived.WalkKit
import Derived.WalkSpells
import Derived.WalkLawsBesides
import Derived.Deep.QuietTactic
import Derived.BigQuiet
import Derived.Deep.CutBlock
import Derived.Deep.DeepCutAuto
import Derived.Test.YthllhabjfchgiaaGreatDoorHy02
/- Package lang: tokens. -/
namespace Go.Proofs.YthllhabjfchgiaaGreatDoor.Hx
open Go.RowKit

def isLet (c : Int) : Bool := decide (97 ≤ c) && decide (c ≤ 122)
def isDig (c : Int) : Bool := decide (48 ≤ c) && decide (c ≤ 57)
def isBlank (c : Int) : Bool := c == 32 || c == 10
def isAlnum (c : Int) : Bool := isLet c || isDig c

/-- how many bytes at the beginning are such -/
def span (p : Int → Bool) (l : List UInt8) : Nat := (l.takeWhile fun c => p c.toNat).length

theorem span_nil (p : Int → Bool) (l : List UInt8) (k : Nat) (h : l.length ≤ k) : span p (l.drop k) = 0 := by
  rw [List.drop_of_length_le h]; rfl

theorem span_yes (p : Int → Bool) (l : List UInt8) (k : Nat) (h : k < l.length) (hp : p (l[k]'h).toNat = true) : span p (l.drop k) = 1 + span p (l.drop (k + 1)) := by
  unfold span
  rw [List.drop_eq_getElem_cons h, List.takeWhile_cons_of_pos (by exact hp), List.length_cons]
  omega

theorem span_no (p : Int → Bool) (l : List UInt8) (k : Nat) (h : k < l.length) (hp : p (l[k]'h).toNat = false) : span p (l.drop k) = 0 := by
  unfold span
  rw [List.drop_eq_getElem_cons h, List.takeWhile_cons_of_neg (by rw [hp]; simp)]
  rfl

/-- beginNumber, by how many digits there are -/
def numberOf (n : Nat) : Int × Int := if 18 < n then (0, 0) else (3, n)
def beginNumber (t : ByteArray) : Int × Int := numberOf (1 + span isDig (t.data.toList.drop 1))

def isWord (u : List UInt8) : Bool := u == [105, 102] || u == [101, 108, 115, 101] || u == [101, 97, 99, 104] || u == [105, 110] || u == [112, 117, 115, 104] || u == [118, 97, 114] || u == [114, 101, 116, 117, 114, 110] || u == [116, 114, 117, 101] || u == [102, 97, 108, 115, 101] || u == [105, 115, 110, 111, 110, 101]
def wordOf (t : ByteArray) (n : Nat) : Int × Int := if 12 < n then (0, 0) else if isWord (t.extract 0 n).toList then (5, n) else (2, n)
def beginWord (t : ByteArray) : Int × Int := wordOf t (1 + span isAlnum (t.data.toList.drop 1))

theorem span_le (p : Int → Bool) (l : List UInt8) : span p l ≤ l.length := List.Sublist.length_le (List.takeWhile_sublist _)
end Go.Proofs.YthllhabjfchgiaaGreatDoor.Hx

namespace Go.Proofs.YthllhabjfchgiaaGreatDoor
open Go.RowKit

theorem isLetter_any (c : Int) (w : World) : Calls Tryz.prog 214 #[.int .u8 c] w fun e w' => e = .returned (.bool (Hx.isLet c)) ∧ w' = w := by
  by_cases h : 97 ≤ c
  · have d1 : decide (97 ≤ c) = true := by simpa using h
    go_enter Tryz.func214, Tryz.ntmps214
    go_wp2
    go_ret
    exact ⟨ret_bool (by simp only [Hx.isLet, d1]; simp), rfl⟩
  · have d1 : decide (97 ≤ c) = false := by simpa using h
    go_enter Tryz.func214, Tryz.ntmps214
    go_wp2
    go_ret
    exact ⟨ret_bool (by simp only [Hx.isLet, d1]; simp), rfl⟩

theorem isDigit_any (c : Int) (w : World) : Calls Tryz.prog 216 #[.int .u8 c] w fun e w' => e = .returned (.bool (Hx.isDig c)) ∧ w' = w := by
  by_cases h : 48 ≤ c
  · have d1 : decide (48 ≤ c) = true := by simpa using h
    go_enter Tryz.func216, Tryz.ntmps216
    go_wp2
    go_ret
    exact ⟨ret_bool (by simp only [Hx.isDig, d1]; simp), rfl⟩
  · have d1 : decide (48 ≤ c) = false := by simpa using h
    go_enter Tryz.func216, Tryz.ntmps216
    go_wp2
    go_ret
    exact ⟨ret_bool (by simp only [Hx.isDig, d1]; simp), rfl⟩


/-- a loop that counts bytes: where it stands -/
structure Spans (p : Int → Bool) (t : ByteArray) (n k : Nat) : Prop where
  eq : k + Hx.span p (t.data.toList.drop k) = n

theorem Spans.yes {p : Int → Bool} {t : ByteArray} {n k : Nat} (h : Spans p t n k) (hk : k < t.size) (hp : p (t[k]'hk).toNat = true) : Spans p t n (k + 1) := by
  have := Hx.span_yes p t.data.toList k (by simpa using hk) hp
  exact ⟨by have := h.eq; omega⟩

theorem Spans.no {p : Int → Bool} {t : ByteArray} {n k : Nat} (h : Spans p t n k) (hk : k < t.size) (hp : p (t[k]'hk).toNat = false) : n = k := by
  have := Hx.span_no p t.data.toList k (by simpa using hk) hp
  have := h.eq
  omega

theorem Spans.off {p : Int → Bool} {t : ByteArray} {n k : Nat} (h : Spans p t n k) (hk : t.size ≤ k) : n = k := by
  have := Hx.span_nil p t.data.toList k (by simpa using hk)
  have := h.eq
  omega

theorem spans_first (p : Int → Bool) (t : ByteArray) (k : Nat) (hk : k ≤ t.size) : ∃ n, k + Hx.span p (t.data.toList.drop k) = n ∧ n ≤ t.size ∧ Spans p t n k := by
  refine ⟨_, rfl, ?_, ⟨rfl⟩⟩
  have := Hx.span_le p (t.data.toList.drop k)
  rw [List.length_drop] at this
  have h2 : t.data.toList.length = t.size := by simp
  omega

set_option maxRecDepth 100000 in
set_option maxHeartbeats 1000000 in
theorem beginNumber_any (t : ByteArray) (w : World) (ht : t.size ≤ 4000) (h1 : 1 ≤ t.size) :
    Calls Tryz.prog 217 #[.string t] w fun e w' => e = .returned (.tuple #[.int .i64 (Hx.beginNumber t).1, .int .i64 (Hx.beginNumber t).2]) ∧ w' = w := by
  unfold Hx.beginNumber
  obtain ⟨n, hn, hnb, HN⟩ := spans_first Hx.isDig t 1 h1
  rw [hn]
  clear hn
  generalize hr : Hx.numberOf n = r
  have HR : Hid (Hx.numberOf n = r) := hr
  clear hr
  go_enter Tryz.func217, Tryz.ntmps217
  go_wp2
  go_loop [4] (fun i => ∃ k : Nat, 1 ≤ k ∧ k ≤ t.size ∧ i = .int .i64 k ∧ Spans Hx.isDig t n k) (fun i => t.size - (intOf i).toNat)
  case atStart => exact ⟨1, by omega, by omega, rfl, HN⟩
  case round =>
    obtain ⟨k, hk1, hk, rfl, HK⟩ := hrel
    clear HN
    by_cases hlt : k < t.size
    · have i0 : (0 : Int) ≤ (k : Int) := by omega
      have i1 : (k : Int) < (t.size : Int) := by omega
      cases hd : Hx.isDig t[k].toNat with
      | true =>
        have HE := HK.yes hlt hd
        clear HK
        go_wp2_with (go_at_call 216; refine (isDigit_any _ _).mono ?_; rintro e w' ⟨rfl, rfl⟩; rw [hd])
        refine ⟨⟨k + 1, by omega, by omega, by go_num, HE⟩, ?_⟩
        simp [intOf]; omega
      | false =>
        have h5 := HK.no hlt hd
        subst h5
        clear HK
        by_cases h18 : 18 < n
        · have d2 : decide ((18 : Int) < (n : Int)) = true := by simp; omega
          have e : r = (0, 0) := by rw [← HR.out, Hx.numberOf, if_pos h18]
          subst e
          go_wp2_with (go_at_call 216; refine (isDigit_any _ _).mono ?_; rintro e w' ⟨rfl, rfl⟩; rw [hd])
          go_ret2
          exact ⟨rfl, rfl⟩
        · have d2 : decide ((18 : Int) < (n : Int)) = false := by simp; omega
          have e : r = (3, (n : Int)) := by rw [← HR.out, Hx.numberOf, if_neg h18]
          subst e
          go_wp2_with (go_at_call 216; refine (isDigit_any _ _).mono ?_; rintro e w' ⟨rfl, rfl⟩; rw [hd])
          go_ret2
          exact ⟨rfl, rfl⟩
    · have h5 := HK.off (by omega)
      have i1 : decide ((k : Int) < (t.size : Int)) = false := by simp; omega
      subst h5
      clear HK
      by_cases h18 : 18 < n
      · have d2 : decide ((18 : Int) < (n : Int)) = true := by simp; omega
        have e : r = (0, 0) := by rw [← HR.out, Hx.numberOf, if_pos h18]
        subst e
        go_wp2
        go_ret2
        exact ⟨rfl, rfl⟩
      · have d2 : decide ((18 : Int) < (n : Int)) = false := by simp; omega
        have e : r = (3, (n : Int)) := by rw [← HR.out, Hx.numberOf, if_neg h18]
        subst e
        go_wp2
        go_ret2
        exact ⟨rfl, rfl⟩

set_option maxRecDepth 100000 in
set_option maxHeartbeats 2000000 in
theorem beginWord_any (t : ByteArray) (w : World) (ht : t.size ≤ 4000) (h1 : 1 ≤ t.size) :
    Calls Tryz.prog 215 #[.string t] w fun e w' => e = .returned (.tuple #[.int .i64 (Hx.beginWord t).1, .int .i64 (Hx.beginWord t).2]) ∧ w' = w := by
  unfold Hx.beginWord
  obtain ⟨n, hn, hnb, HN⟩ := spans_first Hx.isAlnum t 1 h1
  rw [hn]
  clear hn
  generalize hr : Hx.wordOf t n = r
  have HR : Hid (Hx.wordOf t n = r) := hr
  clear hr
  go_enter Tryz.func215, Tryz.ntmps215
  go_upto_block 0 with fail
  go_cut [4] (fun i wx => w = wx ∧ i = .int .i64 n)
  case first =>
    go_wp2_with fail
    go_loop [4] (fun i => ∃ k : Nat, 1 ≤ k ∧ k ≤ t.size ∧ i = .int .i64 k ∧ Spans Hx.isAlnum t n k) (fun i => t.size - (intOf i).toNat)
    case atStart => exact ⟨1, by omega, by omega, rfl, HN⟩
    case round =>
      obtain ⟨k, hk1, hk, rfl, HK⟩ := hrel
      clear HN
      by_cases hlt : k < t.size
      · have i0 : (0 : Int) ≤ (k : Int) := by omega
        have i1 : (k : Int) < (t.size : Int) := by omega
        cases hl : Hx.isLet t[k].toNat with
        | true =>
          have HE := HK.yes hlt (by simp [Hx.isAlnum, hl])
          clear HK
          go_wp2_with (go_at_call 214; refine (isLetter_any _ _).mono ?_; rintro e w' ⟨rfl, rfl⟩; rw [hl])
          refine ⟨⟨k + 1, by omega, by omega, by go_num, HE⟩, ?_⟩
          simp [intOf]; omega
        | false =>
          cases hd : Hx.isDig t[k].toNat with
          | true =>
            have HE := HK.yes hlt (by simp [Hx.isAlnum, hl, hd])
            clear HK
            go_wp2_with (first | (go_at_call 214; refine (isLetter_any _ _).mono ?_; rintro e w' ⟨rfl, rfl⟩; rw [hl]) | (go_at_call 216; refine (isDigit_any _ _).mono ?_; rintro e w' ⟨rfl, rfl⟩; rw [hd]))
            refine ⟨⟨k + 1, by omega, by omega, by go_num, HE⟩, ?_⟩
            simp [intOf]; omega
          | false =>
            have h5 := HK.no hlt (by simp [Hx.isAlnum, hl, hd])
            subst h5
            clear HK
            go_wp2_with (first | (go_at_call 214; refine (isLetter_any _ _).mono ?_; rintro e w' ⟨rfl, rfl⟩; rw [hl]) | (go_at_call 216; refine (isDigit_any _ _).mono ?_; rintro e w' ⟨rfl, rfl⟩; rw [hd]))
            go_meet
            exact ⟨rfl, rfl⟩
      · have h5 := HK.off (by omega)
        have i1 : decide ((k : Int) < (t.size : Int)) = false := by simp; omega
        subst h5
        clear HK
        go_wp2
        go_meet
        exact ⟨rfl, rfl⟩
  case rest =>
    obtain ⟨rfl, rfl⟩ := hcut
    by_cases h12 : 12 < n
    · have d2 : decide ((12 : Int) < (n : Int)) = true := by simp; omega
      have e : r = (0, 0) := by rw [← HR.out, Hx.wordOf, if_pos h12]
      subst e
      go_wp2
      go_ret2
      exact ⟨rfl, rfl⟩
    · have d2 : decide ((12 : Int) < (n : Int)) = false := by simp; omega
      have i1 : (n : Int) ≤ (t.size : Int) := by omega
      have i2 : (0 : Int) ≤ (n : Int) := by omega
      have HW : Hid (∀ b, Hx.isWord (t.extract 0 n).toList = b → r = if b then (5, (n : Int)) else (2, (n : Int))) := fun b hb => by
        rw [← HR.out, Hx.wordOf, if_neg h12, hb]
      clear HR HN
      go_wp2
      all_goals first
        | (rename_i a b; exact absurd (a.symm.trans b) (by decide))
        | (have e := HW.out true (by simp only [Hx.isWord, *, Bool.or_true, Bool.true_or])
           rw [if_pos rfl] at e
           subst e
           go_ret2
           exact ⟨rfl, rfl⟩)
        | (have e := HW.out false (by simp only [Hx.isWord, *, Bool.or_false])
           rw [if_neg (by decide)] at e
           subst e
           go_ret2
           exact ⟨rfl, rfl⟩)

def Hx.isSet (u : List UInt8) : Bool := u == [82, 79, 65, 68, 83] || u == [70, 82, 69, 83, 72] || u == [65, 71, 65, 73, 78]
def Hx.isReg (x y : Int) : Bool := x == 82 && decide (48 ≤ y) && decide (y ≤ 55)
def Hx.beginCapital (t : ByteArray) : Int × Int :=
  if decide (1 < t.size) && Hx.isReg (t.data.toList.getD 0 0).toNat (t.data.toList.getD 1 0).toNat then (4, 2)
  else if t.size < 5 then (0, 0) else if Hx.isSet (t.extract 0 5).toList then (5, 5) else (0, 0)

theorem getD_byte (t : ByteArray) (k : Nat) (h : k < t.size) : t.data.toList.getD k 0 = t[k] := by
  have : k < t.data.toList.length := by simpa using h
  rw [List.getD_eq_getElem?_getD, List.getElem?_eq_getElem this]
  rfl

set_option maxRecDepth 100000 in
set_option maxHeartbeats 2000000 in
theorem beginCapital_any (t : ByteArray) (w : World) (ht : t.size ≤ 4000) (h1 : 1 ≤ t.size) :
    Calls Tryz.prog 218 #[.string t] w fun e w' => e = .returned (.tuple #[.int .i64 (Hx.beginCapital t).1, .int .i64 (Hx.beginCapital t).2]) ∧ w' = w := by
  generalize hr : Hx.beginCapital t = r
  have i0 : (0 : Int) < (t.size : Int) := by omega
  by_cases h2 : 1 < t.size
  · have i1 : (1 : Int) < (t.size : Int) := by omega
    have e0 := getD_byte t 0 (by omega)
    have e1 := getD_byte t 1 h2
    unfold Hx.beginCapital at hr
    rw [e0, e1, decide_eq_true h2, Bool.true_and] at hr
    have HR : Hid ((if Hx.isReg t[0].toNat t[1].toNat = true then ((4 : Int), (2 : Int)) else if t.size < 5 then (0, 0) else if Hx.isSet (t.extract 0 5).toList = true then (5, 5) else (0, 0)) = r) := hr
    clear hr e0 e1
    cases hg : Hx.isReg t[0].toNat t[1].toNat with
    | true =>
      have e : r = (4, 2) := by rw [← HR.out, if_pos hg]
      subst e
      simp only [Hx.isReg, Bool.and_eq_true] at hg
      obtain ⟨⟨g1, g2⟩, g3⟩ := hg
      clear HR
      go_enter Tryz.func218, Tryz.ntmps218
      go_wp2
      go_ret2
      exact ⟨rfl, rfl⟩
    | false =>
      have HG : Hid (Hx.isReg t[0].toNat t[1].toNat = false) := hg
      have HQ : Hid ((if t.size < 5 then ((0 : Int), (0 : Int)) else if Hx.isSet (t.extract 0 5).toList = true then (5, 5) else (0, 0)) = r) := by
        have h9 := HR.out
        rw [if_neg (show ¬ Hx.isReg t[0].toNat t[1].toNat = true by rw [hg]; decide)] at h9
        exact h9
      clear HR hg
      by_cases h5 : t.size < 5
      · have d5 : decide ((t.size : Int) < 5) = true := by simp; omega
        have e : r = (0, 0) := by rw [← HQ.out, if_pos h5]
        subst e
        go_enter Tryz.func218, Tryz.ntmps218
        go_wp2
        all_goals first
          | (go_ret2; exact ⟨rfl, rfl⟩)
          | (exfalso; have := HG.out; simp only [Hx.isReg, *] at this; exact absurd this (by decide))
      · have d5 : decide ((t.size : Int) < 5) = false := by simp; omega
        have i5 : (5 : Int) ≤ (t.size : Int) := by omega
        have HW : Hid (∀ b, Hx.isSet (t.extract 0 5).toList = b → r = if b then (5, 5) else (0, 0)) := fun b hb => by
          rw [← HQ.out, if_neg h5, hb]
        clear HQ
        go_enter Tryz.func218, Tryz.ntmps218
        go_wp2
        all_goals first
          | (rename_i a b; exact absurd (a.symm.trans b) (by decide))
          | (rename_i a b _; exact absurd (a.symm.trans b) (by decide))
          | (exfalso; have := HG.out; simp only [Hx.isReg, *] at this; exact absurd this (by decide))
          | (have e := HW.out true (by simp only [Hx.isSet, *, Bool.or_true, Bool.true_or])
             rw [if_pos rfl] at e
             subst e
             go_ret2
             exact ⟨rfl, rfl⟩)
          | (have e := HW.out false (by simp only [Hx.isSet, *, Bool.or_false])
             rw [if_neg (by decide)] at e
             subst e
             go_ret2
             exact ⟨rfl, rfl⟩)
  · have hs : t.size = 1 := by omega
    have i1 : decide ((1 : Int) < (t.size : Int)) = false := by simp; omega
    have d5 : decide ((t.size : Int) < 5) = true := by simp; omega
    have e : r = (0, 0) := by
      rw [← hr]; simp [Hx.beginCapital, hs]
    subst e
    clear hr
    go_enter Tryz.func218, Tryz.ntmps218
    go_wp2
    go_ret2
    exact ⟨rfl, rfl⟩
end Go.Proofs.YthllhabjfchgiaaGreatDoor

/- PLAIN FUNCTIONS: runs of code. -/
namespace Go.Proofs.YthllhabjfchgiaaGreatDoor.Hx
open Go.RowKit

/-- (*machine).push: nothing, if there is no room -/
def push (v : Vw) (i j : Int) (m : Mc) : Option Mc :=
  match v.road i, v.packet j with
  | some r, some p => if m.acts.length = 256 then none else some { m with acts := m.acts ++ [(r.id, p.seq)] }
  | _, _ => some m

end Go.Proofs.YthllhabjfchgiaaGreatDoor.Hx

/- PLAIN FUNCTIONS: a run of steps. -/
namespace Go.Proofs.YthllhabjfchgiaaGreatDoor.Hx
open Go.RowKit

structure Out where
  status : Int
  regs : List Int
  acts : List (Int × Int)

/-- one step: the machine and the step that is next, or how the run ends -/
def step (v : Vw) (steps : List St) (regs : List Int) (k : Nat) (s : St) (m : Mc) : Out ⊕ (Int × Mc) :=
  if s.op = 1 then .inl ⟨0, m.slots, m.acts⟩
  else if s.op = 2 then .inr (if m.get s.a = 0 then s.to else k + 1, m)
  else if s.op = 3 then .inr (s.to, m)
  else if s.op = 4 then .inr ((turn s k (begins v s m)).2, (turn s k (begins v s m)).1)
  else if s.op = 5 then (if m.get s.a = 0 then match steps[s.to.toNat]? with
      | some l => .inr ((turn l s.to m).2, (turn l s.to m).1)
      | none => .inl ⟨2, regs, []⟩
    else .inr (k + 1, m))
  else if s.op = 0 then match steps[s.to.toNat]? with
    | some l => .inr ((turn l s.to m).2, (turn l s.to m).1)
    | none => .inl ⟨2, regs, []⟩
  else if s.op = 36 then match push v (m.get s.a) (m.get s.b) m with
    | none => .inl ⟨1, regs, []⟩
    | some m' => .inr (k + 1, m')
  else .inr (k + 1, work v s m)

def runs (v : Vw) (steps : List St) (regs : List Int) : Nat → Int → Mc → Out
  | 0, _, _ => ⟨2, regs, []⟩
  | f + 1, k, m => match steps[k.toNat]? with
    | none => ⟨2, regs, []⟩
    | some s => match step v steps regs k.toNat s m with
      | .inl o => o
      | .inr (k', m') => runs v steps regs f k' m'

def isLoop (steps : List St) (n : Nat) (x : Int) : Prop :=
  ∃ l, 0 ≤ x ∧ steps[x.toNat]? = some l ∧ x + 1 < steps.length ∧ 0 ≤ l.to ∧ l.to < steps.length ∧ St.slot n l.b ∧ 0 ≤ l.depth ∧ l.depth < 8

/-- a step that leads to steps that there are, with slots that there are -/
structure St.fits (steps : List St) (n : Nat) (k : Nat) (s : St) : Prop where
  u8 : 0 ≤ s.op ∧ s.op ≤ 255
  next : ¬ s.op = 1 → ¬ s.op = 3 → ¬ s.op = 0 → k + 1 < steps.length
  ifs : s.op = 2 → St.slot n s.a ∧ 0 ≤ s.to ∧ s.to < steps.length
  elses : s.op = 3 → 0 ≤ s.to ∧ s.to < steps.length
  loops : s.op = 4 → 0 ≤ s.to ∧ s.to < steps.length ∧ St.slot n s.b ∧ St.slot n s.c ∧ 0 ≤ s.depth ∧ s.depth < 8
  skips : s.op = 5 → St.slot n s.a ∧ isLoop steps n s.to
  ends : s.op = 0 → isLoop steps n s.to
  pushes : s.op = 36 → St.slot n s.a ∧ St.slot n s.b
  works : ¬ s.op = 1 → ¬ s.op = 2 → ¬ s.op = 3 → ¬ s.op = 4 → ¬ s.op = 5 → ¬ s.op = 0 → ¬ s.op = 36 → s.worksIn n

/-- code that was looked over -/
structure Fits (steps : List St) (n : Nat) : Prop where
  pos : 0 < steps.length
  len : steps.length ≤ 1000000
  each : ∀ (k : Nat) (s : St), steps[k]? = some s → s.fits steps n k
end Go.Proofs.YthllhabjfchgiaaGreatDoor.Hx

/- PLAIN FUNCTIONS: how code is read and looked over. -/
namespace Go.Proofs.YthllhabjfchgiaaGreatDoor.Hx
open Go.RowKit

/-- op.Shape: the letters of an instruction's numbers -/
def shape (o : Int) : List UInt8 :=
  if o = 0 ∨ o = 1 ∨ o = 3 then [] else if o = 2 ∨ o = 5 then [115] else if o = 6 then [115, 110] else if o = 21 then [115, 108]
  else if o = 7 ∨ o = 8 ∨ o = 9 ∨ o = 22 ∨ o = 23 ∨ o = 24 ∨ o = 27 ∨ o = 28 ∨ o = 29 ∨ o = 30 ∨ o = 31 ∨ o = 32 ∨ o = 33 ∨ o = 34 ∨ o = 36 then [115, 115]
  else if o = 4 then [108, 115, 115]
  else if o = 10 ∨ o = 11 ∨ o = 12 ∨ o = 13 ∨ o = 14 ∨ o = 15 ∨ o = 16 ∨ o = 17 ∨ o = 18 ∨ o = 19 ∨ o = 20 ∨ o = 35 then [115, 115, 115]
  else if o = 25 ∨ o = 26 then [115, 115, 115, 115] else []

def isOp (o : Int) : Bool := decide (0 ≤ o ∧ o ≤ 36)

/-- op.signed -/
def signed (x : Int) : Int := if bits .and .u64 x 1 == 1 then bits .xor .i64 (-1) (x / 2) else x / 2

/-- op.Read: r rounds more, the i-th byte next -/
def readGo (s : List UInt8) (p : Nat) : Nat → Nat → Int → Int × Int
  | 0, _, _ => (0, 0)
  | r + 1, i, acc =>
    if i = 9 ∧ 1 < (s.getD (p + i) 0).toNat then (0, 0)
    else if (s.getD (p + i) 0).toNat < 128 then (signed (bits .or .u64 acc (IntKind.u64.wrap (((s.getD (p + i) 0).toNat % 128 : Nat) * 2 ^ (i * 7)))), i + 1)
    else readGo s p r (i + 1) (bits .or .u64 acc (IntKind.u64.wrap (((s.getD (p + i) 0).toNat % 128 : Nat) * 2 ^ (i * 7))))

def read (s : List UInt8) (p : Nat) : Int × Int := readGo s p (min (s.length - p) 10) 0 0

def listSize (l : Int) : Int := if l = 0 then 8 else 16

structure Bk where
  opener : Int
  other : Int
  need : Int
  before : Int

structure Ls where
  pos : Int
  steps : List St
  blocks : List Bk
  loops : List Int
  slots : Int
  need : Int
  bad : Bool

def Ls.top (l : Ls) : Bk := l.blocks.getLastD ⟨0, 0, 0, 0⟩

/-- (*loader).count -/
def Ls.count (l : Ls) (more : Int) : Ls :=
  { l with blocks := l.blocks.dropLast ++ [{ l.top with need := wrap64 (l.top.need + more) }], bad := l.bad || decide (40000040 < wrap64 (l.top.need + more)) }

/-- (*loader).take -/
def Ls.take (l : Ls) (letter n : Int) : Ls × Bool :=
  if letter = 115 then (if n < 0 ∨ 2008 ≤ n then (l, false) else ({ l with slots := max l.slots (n + 1) }, true))
  else if letter = 108 then (l, decide (0 ≤ n ∧ n < 3)) else (l, true)
end Go.Proofs.YthllhabjfchgiaaGreatDoor.Hx

namespace Go.Proofs.YthllhabjfchgiaaGreatDoor
open Go.RowKit
open Hx (St Bk Ls In64)

/-- (*loader).add, on plain data -/
def addStep (l : Ls) (st : St) : Ls := Hx.Ls.count { l with steps := l.steps ++ [st] } 1

/-- (*loader).open -/
def openStep (l : Ls) (st : St) : Ls := { addStep l st with blocks := (addStep l st).blocks ++ [⟨l.steps.length, 0, 0, 0⟩] }

theorem addStep_steps (l : Ls) (st : St) : (addStep l st).steps = l.steps ++ [st] := rfl
theorem addStep_loops (l : Ls) (st : St) : (addStep l st).loops = l.loops := rfl
theorem addStep_blocks (l : Ls) (st : St) (hne : l.blocks ≠ []) : (addStep l st).blocks.length = l.blocks.length := by
  have : 0 < l.blocks.length := List.length_pos_iff.2 hne
  simp [addStep, Hx.Ls.count]; omega

/-- (*loader).skip -/
def skipStep (l : Ls) (st : St) : Ls := if l.loops = [] then { l with bad := true } else addStep l { st with to := l.loops.getLastD 0 }

/-- (*loader).openLoop, where there is room for one more -/
def loopStep (l : Ls) (st : St) : Ls := { openStep l { st with depth := l.loops.length } with loops := l.loops ++ [(l.steps.length : Int)] }

/-- (*loader).endIf: the step that passes over leads behind; the block is off, its need is in the block around it -/
def endIfAt (l : Ls) (p : Nat) (st : St) (init : List Bk) (b : Bk) : Ls := Hx.Ls.count { l with steps := l.steps.set p { st with to := l.steps.length }, blocks := init } (max b.need b.before)

/-- (*loader).endCode -/
def endCodeAt (l : Ls) : Ls := { addStep l ⟨1, 0, 0, 0, 0, 0, 0⟩ with need := (addStep l ⟨1, 0, 0, 0, 0, 0, 0⟩).top.need, blocks := [] }

/-- (*loader).endLoop, with what add leaves -/
def endLoopOf (l1 : Ls) (p : Nat) (sp : St) : Ls :=
  Hx.Ls.count { l1 with blocks := l1.blocks.dropLast, loops := l1.loops.dropLast, steps := l1.steps.set p { sp with to := l1.steps.length } } (wrap64 (Hx.listSize sp.a * l1.top.need))

def endLoopAt (l : Ls) (st : St) (p : Nat) (sp : St) : Ls := endLoopOf (addStep l { st with to := p }) p sp

/-- (*loader).divide, with what add leaves -/
def divideOf (l1 : Ls) (ns p : Nat) (sp : St) : Ls :=
  { l1 with blocks := l1.blocks.dropLast ++ [⟨l1.top.opener, ns, 0, l1.top.need⟩], steps := l1.steps.set p { sp with to := l1.steps.length } }

def divideAt (l : Ls) (st : St) (p : Nat) (sp : St) : Ls := divideOf (addStep l st) l.steps.length p sp

theorem addStep_top (l : Ls) (st : St) : (addStep l st).top = { l.top with need := wrap64 (l.top.need + 1) } := by
  simp [addStep, Hx.Ls.count, Hx.Ls.top]
theorem addStep_init (l : Ls) (st : St) : (addStep l st).blocks.dropLast = l.blocks.dropLast := by
  simp [addStep, Hx.Ls.count]

/-- what an instruction that was read does to the loader -/
def instr (l : Ls) (s : St) : Ls :=
  if s.op = 2 then openStep l s
  else if s.op = 4 then (if l.loops.length = 8 then { l with bad := true } else loopStep l s)
  else if s.op = 3 then
    (if l.blocks.length = 1 ∨ 0 < l.top.other then { l with bad := true } else match l.steps[l.top.opener.toNat]? with
      | none => { l with bad := true }
      | some sp => if sp.op = 2 then divideAt l s l.top.opener.toNat sp else { l with bad := true })
  else if s.op = 0 then
    (if l.blocks.length = 1 then endCodeAt l else match l.steps[l.top.opener.toNat]? with
      | none => { l with bad := true }
      | some sp =>
        if sp.op = 4 then endLoopAt l s l.top.opener.toNat sp
        else if 0 < l.top.other then match l.steps[l.top.other.toNat]? with
          | none => { l with bad := true }
          | some sr => endIfAt l l.top.other.toNat sr l.blocks.dropLast l.top
        else endIfAt l l.top.opener.toNat sp l.blocks.dropLast l.top)
  else if s.op = 5 then skipStep l s
  else addStep l s

/-- the numbers of an instruction: they, the place behind them, and how many slots there are -/
def readNums (bs : List UInt8) : List UInt8 → Nat → Int → Option (List Int × Nat × Int)
  | [], p, sl => some ([], p, sl)
  | c :: cs, p, sl =>
    if (Hx.read bs p).2 = 0 then none
    else if c = 115 ∧ ((Hx.read bs p).1 < 0 ∨ 2008 ≤ (Hx.read bs p).1) then none
    else if c = 108 ∧ ¬ (0 ≤ (Hx.read bs p).1 ∧ (Hx.read bs p).1 < 3) then none
    else (readNums bs cs (p + (Hx.read bs p).2.toNat) (if c = 115 then max sl ((Hx.read bs p).1 + 1) else sl)).map fun r => ((Hx.read bs p).1 :: r.1, r.2)

/-- (*loader).read -/
def readStep (bs : List UInt8) (l : Ls) : Option (St × Ls) :=
  match bs[l.pos.toNat]? with
  | none => none
  | some o => if Hx.isOp o.toNat then match readNums bs (Hx.shape o.toNat) (l.pos.toNat + 1) l.slots with
      | none => none
      | some (ns, p, sl) => some (⟨o.toNat, ns.getD 0 0, ns.getD 1 0, ns.getD 2 0, ns.getD 3 0, 0, 0⟩, { l with pos := p, slots := sl })
    else none

def firstLs : Ls := ⟨0, [], [⟨0, 0, 0, 0⟩], [], 8, 0, false⟩

def loadGo (bs : List UInt8) : Nat → Ls → Ls
  | 0, l => l
  | f + 1, l => if l.blocks = [] ∨ l.bad = true then l else match readStep bs l with
    | none => { l with bad := true }
    | some (s, l') => loadGo bs f (instr l' s)

/-- vm.Load: the loader at its end -/
def loaded (bs : List UInt8) : Ls := loadGo bs (bs.length + 1) firstLs

/-- whether Load takes it -/
def takes (bs : List UInt8) : Bool := decide (bs.length ≤ 100000) && !(loaded bs).bad && decide ((loaded bs).pos = bs.length)

end Go.Proofs.YthllhabjfchgiaaGreatDoor

/- Package op: how instructions and numbers are read. -/
namespace Go.Proofs.YthllhabjfchgiaaGreatDoor.Hx
open Go.RowKit

end Go.Proofs.YthllhabjfchgiaaGreatDoor.Hx

namespace Go.Proofs.YthllhabjfchgiaaGreatDoor
open Go.RowKit

theorem ret_two {a a' b b' : Value} (h1 : a = a') (h2 : b = b') : Ending.returned (.tuple #[a, b]) = .returned (.tuple #[a', b']) := by rw [h1, h2]

theorem listSize_any (l : Int) (w : World) :
    Calls Tryz.prog 210 #[.int .i64 l] w fun e w' => e = .returned (.int .i64 (Hx.listSize l)) ∧ w' = w := by
  by_cases h : l = 0
  · subst h
    go_enter Tryz.func210, Tryz.ntmps210
    go_wp2
    go_ret
    exact ⟨rfl, rfl⟩
  · have h' : (l == 0) = false := by simpa using h
    go_enter Tryz.func210, Tryz.ntmps210
    go_wp2
    go_ret
    exact ⟨ret_int (by simp [Hx.listSize, h]), rfl⟩

set_option maxHeartbeats 1000000 in
theorem shape_any (o : Int) (w : World) (h0 : 0 ≤ o) :
    Calls Tryz.prog 165 #[.int .u8 o] w fun e w' => e = .returned (.tuple #[.string ⟨(Hx.shape o).toArray⟩, .bool (Hx.isOp o)]) ∧ w' = w := by
  go_enter Tryz.func165, Tryz.ntmps165
  go_wp2
  all_goals (go_ret2; refine ⟨ret_two ?_ ?_, rfl⟩)
  all_goals (simp only [beq_iff_eq, beq_eq_false_iff_ne, ne_eq] at *)
  all_goals first | (subst_vars; rfl) | skip
  · simp [Hx.shape, *]
  · have e : Hx.isOp o = false := by
      simp only [Hx.isOp, decide_eq_false_iff_not]
      omega
    rw [e]
    rfl

theorem signed_any (x : Int) (w : World) (h0 : 0 ≤ x) (h1 : x < 18446744073709551616) :
    Calls Tryz.prog 209 #[.int .u64 x] w fun e w' => e = .returned (.int .i64 (Hx.signed x)) ∧ w' = w := by
  unfold Hx.signed
  generalize hz : (bits .and .u64 x 1 == 1) = z
  cases z with
  | false =>
    go_enter Tryz.func209, Tryz.ntmps209
    go_wp2
    go_ret
    exact ⟨rfl, rfl⟩
  | true =>
    go_enter Tryz.func209, Tryz.ntmps209
    go_wp2
    go_ret
    exact ⟨rfl, rfl⟩

theorem or_u64 (x y : Int) : 0 ≤ bits .or .u64 x y ∧ bits .or .u64 x y < 18446744073709551616 := ⟨bits_lo_u64 _ _ _, by have := bits_hi_u64 .or x y; omega⟩

set_option maxRecDepth 100000 in
set_option maxHeartbeats 1000000 in
theorem read_short (s : ByteArray) (p r : Nat) (out : Int × Int) (w : World) (hs : s.size ≤ 100000) (a1 : (r : Int) ≤ (s.size : Int) - (p : Int)) (a2 : (s.size : Int) - (p : Int) ≤ (r : Int)) (a3 : (s.size : Int) - (p : Int) ≤ 10)
    (HR : Hid (out = Hx.readGo s.data.toList p r 0 0)) :
    Calls Tryz.prog 166 #[.string s, .int .i64 p] w fun e w' => e = .returned (.tuple #[.int .i64 out.1, .int .i64 out.2]) ∧ w' = w := by
  go_enter Tryz.func166, Tryz.ntmps166
  go_wp2
  go_loop [6, 14] (fun acc i => ∃ (k : Nat) (x : Int), k ≤ r ∧ i = .int .i64 k ∧ acc = .int .u64 x ∧ 0 ≤ x ∧ x < 18446744073709551616 ∧ Hid (out = Hx.readGo s.data.toList p (r - k) k x)) (fun _ i => r - (intOf i).toNat)
  case atStart => exact ⟨0, 0, Nat.zero_le _, rfl, rfl, by omega, by omega, HR⟩
  case round =>
    obtain ⟨k, x, hk, rfl, rfl, hx0, hx1, HE⟩ := hrel
    clear HR
    by_cases hlt : k < r
    · obtain ⟨q, hqe⟩ : ∃ q, p + k = q := ⟨_, rfl⟩
      have hq : q < s.size := by omega
      have hpk : (p : Int) + (k : Int) = (q : Int) := by omega
      have hq0 : (0 : Int) ≤ (q : Int) := by omega
      have hq1 : (q : Int) < (s.size : Int) := by omega
      have HN : Hid (out = if k = 9 ∧ 1 < s[q].toNat then (0, 0)
          else if s[q].toNat < 128 then (Hx.signed (bits .or .u64 x (IntKind.u64.wrap ((s[q].toNat % 128 : Nat) * 2 ^ (k * 7)))), (k : Int) + 1)
          else Hx.readGo s.data.toList p (r - (k + 1)) (k + 1) (bits .or .u64 x (IntKind.u64.wrap ((s[q].toNat % 128 : Nat) * 2 ^ (k * 7))))) := by
        show out = _
        have hb : s.data.toList.getD (p + k) 0 = s[q] := by
          subst hqe
          have : (p + k) < s.data.toList.length := by simpa using hq
          rw [List.getD_eq_getElem?_getD, List.getElem?_eq_getElem this]
          rfl
        obtain ⟨r', hr'⟩ : ∃ r', r - k = r' + 1 := ⟨r - k - 1, by omega⟩
        rw [HE.out, hr', Hx.readGo, hb, show r - (k + 1) = r' by omega]
      clear HE hqe
      have hdk : decide ((k : Int) < (s.size : Int) - (p : Int)) = true := by simp; omega
      go_wp2_with fail
      · have e1 : out = (0, 0) := by
          rw [HN.out, if_pos ⟨by omega, by omega⟩]
        go_ret2
        exact ⟨ret_two (by rw [e1]; rfl) (by rw [e1]; rfl), rfl⟩
      · have k9 : k = 9 := by omega
        have e1 : out = (Hx.signed (bits .or .u64 x ((s[q].toNat : Int) % 128 * 9223372036854775808)), 10) := by
          rw [HN.out, if_neg (by omega), if_pos (by omega)]
          have e2 : IntKind.u64.wrap (((s[q].toNat % 128 : Nat) : Int) * 2 ^ (k * 7)) = (s[q].toNat : Int) % 128 * 9223372036854775808 := by
            rw [k9, IntKind.wrap_u64]
            omega
          rw [e2, k9]
          rfl
        refine (signed_any _ _ (or_u64 _ _).1 (or_u64 _ _).2).mono ?_
        rintro e w' ⟨rfl, rfl⟩
        go_wp2
        go_ret2
        exact ⟨ret_two (by rw [e1]; rfl) (by rw [e1]; rfl), rfl⟩
      · have e1 : out = (Hx.signed (bits .or .u64 x (IntKind.u64.wrap ((s[q].toNat : Int) % 128 * 2 ^ (k * 7)))), (k : Int) + 1) := by
          rw [HN.out, if_neg (by omega), if_pos (by omega)]
          rfl
        refine (signed_any _ _ (or_u64 _ _).1 (or_u64 _ _).2).mono ?_
        rintro e w' ⟨rfl, rfl⟩
        go_wp2
        go_ret2
        exact ⟨ret_two (by rw [e1]; rfl) (by rw [e1]; rfl), rfl⟩
      · have HE2 : Hid (out = Hx.readGo s.data.toList p (r - (k + 1)) (k + 1) (bits .or .u64 x (IntKind.u64.wrap ((s[q].toNat : Int) % 128 * 2 ^ (k * 7))))) := by
          show out = _
          rw [HN.out, if_neg (by omega), if_neg (by omega)]
          rfl
        refine ⟨⟨k + 1, _, by omega, by go_num, rfl, (or_u64 _ _).1, (or_u64 _ _).2, HE2⟩, ?_⟩
        simp [intOf]; omega
    · have HF : Hid (out = (0, 0)) := by
        show out = _
        rw [HE.out, show r - k = 0 by omega]; rfl
      have hdk : decide ((k : Int) < (s.size : Int) - (p : Int)) = false := by simp; omega
      clear HE
      go_wp2
      go_ret2
      exact ⟨ret_two (by rw [HF.out]; rfl) (by rw [HF.out]; rfl), rfl⟩

set_option maxRecDepth 100000 in
set_option maxHeartbeats 1000000 in
theorem read_long (s : ByteArray) (p : Nat) (out : Int × Int) (w : World) (hs : s.size ≤ 100000) (a1 : 10 < (s.size : Int) - (p : Int))
    (HR : Hid (out = Hx.readGo s.data.toList p 10 0 0)) :
    Calls Tryz.prog 166 #[.string s, .int .i64 p] w fun e w' => e = .returned (.tuple #[.int .i64 out.1, .int .i64 out.2]) ∧ w' = w := by
  go_enter Tryz.func166, Tryz.ntmps166
  go_wp2
  go_loop [6, 14] (fun acc i => ∃ (k : Nat) (x : Int), k ≤ 10 ∧ i = .int .i64 k ∧ acc = .int .u64 x ∧ 0 ≤ x ∧ x < 18446744073709551616 ∧ Hid (out = Hx.readGo s.data.toList p (10 - k) k x)) (fun _ i => 10 - (intOf i).toNat)
  case atStart => exact ⟨0, 0, Nat.zero_le _, rfl, rfl, by omega, by omega, HR⟩
  case round =>
    obtain ⟨k, x, hk, rfl, rfl, hx0, hx1, HE⟩ := hrel
    clear HR
    by_cases hlt : k < 10
    · obtain ⟨q, hqe⟩ : ∃ q, p + k = q := ⟨_, rfl⟩
      have hq : q < s.size := by omega
      have hpk : (p : Int) + (k : Int) = (q : Int) := by omega
      have hq0 : (0 : Int) ≤ (q : Int) := by omega
      have hq1 : (q : Int) < (s.size : Int) := by omega
      have HN : Hid (out = if k = 9 ∧ 1 < s[q].toNat then (0, 0)
          else if s[q].toNat < 128 then (Hx.signed (bits .or .u64 x (IntKind.u64.wrap ((s[q].toNat % 128 : Nat) * 2 ^ (k * 7)))), (k : Int) + 1)
          else Hx.readGo s.data.toList p (10 - (k + 1)) (k + 1) (bits .or .u64 x (IntKind.u64.wrap ((s[q].toNat % 128 : Nat) * 2 ^ (k * 7))))) := by
        show out = _
        have hb : s.data.toList.getD (p + k) 0 = s[q] := by
          subst hqe
          have : (p + k) < s.data.toList.length := by simpa using hq
          rw [List.getD_eq_getElem?_getD, List.getElem?_eq_getElem this]
          rfl
        obtain ⟨r', hr'⟩ : ∃ r', 10 - k = r' + 1 := ⟨10 - k - 1, by omega⟩
        rw [HE.out, hr', Hx.readGo, hb, show 10 - (k + 1) = r' by omega]
      clear HE hqe
      have hdk : decide ((k : Int) < 10) = true := by simp; omega
      go_wp2_with fail
      · have e1 : out = (0, 0) := by
          rw [HN.out, if_pos ⟨by omega, by omega⟩]
        go_ret2
        exact ⟨ret_two (by rw [e1]; rfl) (by rw [e1]; rfl), rfl⟩
      · have k9 : k = 9 := by omega
        have e1 : out = (Hx.signed (bits .or .u64 x ((s[q].toNat : Int) % 128 * 9223372036854775808)), 10) := by
          rw [HN.out, if_neg (by omega), if_pos (by omega)]
          have e2 : IntKind.u64.wrap (((s[q].toNat % 128 : Nat) : Int) * 2 ^ (k * 7)) = (s[q].toNat : Int) % 128 * 9223372036854775808 := by
            rw [k9, IntKind.wrap_u64]
            omega
          rw [e2, k9]
          rfl
        refine (signed_any _ _ (or_u64 _ _).1 (or_u64 _ _).2).mono ?_
        rintro e w' ⟨rfl, rfl⟩
        go_wp2
        go_ret2
        exact ⟨ret_two (by rw [e1]; rfl) (by rw [e1]; rfl), rfl⟩
      · have e1 : out = (Hx.signed (bits .or .u64 x (IntKind.u64.wrap ((s[q].toNat : Int) % 128 * 2 ^ (k * 7)))), (k : Int) + 1) := by
          rw [HN.out, if_neg (by omega), if_pos (by omega)]
          rfl
        refine (signed_any _ _ (or_u64 _ _).1 (or_u64 _ _).2).mono ?_
        rintro e w' ⟨rfl, rfl⟩
        go_wp2
        go_ret2
        exact ⟨ret_two (by rw [e1]; rfl) (by rw [e1]; rfl), rfl⟩
      · have HE2 : Hid (out = Hx.readGo s.data.toList p (10 - (k + 1)) (k + 1) (bits .or .u64 x (IntKind.u64.wrap ((s[q].toNat : Int) % 128 * 2 ^ (k * 7))))) := by
          show out = _
          rw [HN.out, if_neg (by omega), if_neg (by omega)]
          rfl
        refine ⟨⟨k + 1, _, by omega, by go_num, rfl, (or_u64 _ _).1, (or_u64 _ _).2, HE2⟩, ?_⟩
        simp [intOf]; omega
    · have HF : Hid (out = (0, 0)) := by
        show out = _
        rw [HE.out, show 10 - k = 0 by omega]; rfl
      have hdk : decide ((k : Int) < 10) = false := by simp; omega
      clear HE
      go_wp2
      go_ret2
      exact ⟨ret_two (by rw [HF.out]; rfl) (by rw [HF.out]; rfl), rfl⟩

theorem read_any (s : ByteArray) (p : Nat) (w : World) (hs : s.size ≤ 100000) (hp : p ≤ s.size) :
    Calls Tryz.prog 166 #[.string s, .int .i64 p] w fun e w' => e = .returned (.tuple #[.int .i64 (Hx.read s.data.toList p).1, .int .i64 (Hx.read s.data.toList p).2]) ∧ w' = w := by
  have hlen : s.data.toList.length = s.size := by simp
  by_cases h10 : s.size - p ≤ 10
  · exact read_short s p (s.size - p) _ w hs (by omega) (by omega) (by omega) (by show _ = _; unfold Hx.read; rw [hlen, Nat.min_eq_left h10])
  · exact read_long s p _ w hs (by omega) (by show _ = _; unfold Hx.read; rw [hlen, Nat.min_eq_right (by omega)])
end Go.Proofs.YthllhabjfchgiaaGreatDoor

/- The loader in memory. -/
namespace Go.Proofs.YthllhabjfchgiaaGreatDoor.Hx
open Go.RowKit

end Go.Proofs.YthllhabjfchgiaaGreatDoor.Hx

namespace Go.Proofs.YthllhabjfchgiaaGreatDoor
open Go.RowKit
open Hx (St Bk Ls In64)

def stepCells (s : St) : List Value := [.int .u8 s.op, .int .i64 s.a, .int .i64 s.b, .int .i64 s.c, .int .i64 s.d, .int .i64 s.depth, .int .i64 s.to]
def bkCells (b : Bk) : List Value := [.int .i64 b.opener, .int .i64 b.other, .int .i64 b.need, .int .i64 b.before]

/-- the loader in block L, its three rows from block B on, each in a block of its own -/
structure LoadIn (B : Nat) (w : World) (L : Nat) (s : ByteArray) (l : Ls) (vs vb vl : Value) : Prop where
  bL : B ≤ L
  c0 : w.cell? ⟨L, 0, none⟩ = some (.string s)
  c1 : w.cell? ⟨L, 1, none⟩ = some (.int .i64 l.pos)
  c2 : w.cell? ⟨L, 2, none⟩ = some vs
  c3 : w.cell? ⟨L, 3, none⟩ = some vb
  c4 : w.cell? ⟨L, 4, none⟩ = some vl
  c5 : w.cell? ⟨L, 5, none⟩ = some (.int .i64 l.slots)
  c6 : w.cell? ⟨L, 6, none⟩ = some (.int .i64 l.need)
  c7 : w.cell? ⟨L, 7, none⟩ = some (.bool l.bad)
  fr : ∀ j, w.frozen? ⟨L, j, none⟩ = false
  steps : w.ownsRow B 125 7 vs l.steps.length (l.steps.flatMap stepCells)
  blocks : w.ownsRow B 226 4 vb l.blocks.length (l.blocks.flatMap bkCells)
  loops : w.ownsRow B 3 1 vl l.loops.length (l.loops.map (Value.int .i64))
  ns : vs.ownBlock ≠ some L
  nb : vb.ownBlock ≠ some L
  nl : vl.ownBlock ≠ some L
  sb : vs.ownBlock = none ∨ vs.ownBlock ≠ vb.ownBlock
  sl : vs.ownBlock = none ∨ vs.ownBlock ≠ vl.ownBlock
  bl : vb.ownBlock = none ∨ vb.ownBlock ≠ vl.ownBlock

/-- nothing has turned but the loader and its rows; a row lies where it lay, or in a new block -/
structure Moves (L : Nat) (w : World) (vs vb vl : Value) (w' : World) (vs' vb' vl' : Value) : Prop where
  os : w'.os = w.os
  tape : w'.tape = w.tape
  output : w'.output = w.output
  size : w.heap.size ≤ w'.heap.size
  block : ∀ k, k < w.heap.size → k ≠ L → some k ≠ vs.ownBlock → some k ≠ vb.ownBlock → some k ≠ vl.ownBlock → w'.heap[k]? = w.heap[k]?
  fs : ∀ g, vs'.ownBlock = some g → vs.ownBlock = some g ∨ w.heap.size ≤ g
  fb : ∀ g, vb'.ownBlock = some g → vb.ownBlock = some g ∨ w.heap.size ≤ g
  fl : ∀ g, vl'.ownBlock = some g → vl.ownBlock = some g ∨ w.heap.size ≤ g

theorem Moves.refl (L : Nat) (w : World) (vs vb vl : Value) : Moves L w vs vb vl w vs vb vl :=
  ⟨rfl, rfl, rfl, Nat.le_refl _, fun _ _ _ _ _ _ => rfl, fun _ h => Or.inl h, fun _ h => Or.inl h, fun _ h => Or.inl h⟩

theorem Moves.trans {L : Nat} {w w1 w2 : World} {vs vb vl vs1 vb1 vl1 vs2 vb2 vl2 : Value} (h : Moves L w vs vb vl w1 vs1 vb1 vl1) (k : Moves L w1 vs1 vb1 vl1 w2 vs2 vb2 vl2) : Moves L w vs vb vl w2 vs2 vb2 vl2 := by
  have aux : ∀ {v v1 : Value}, (∀ g, v1.ownBlock = some g → v.ownBlock = some g ∨ w.heap.size ≤ g) → ∀ j, j < w.heap.size → some j ≠ v.ownBlock → some j ≠ v1.ownBlock := fun hf j hj hn e => by
    rcases hf j e.symm with h1 | h1
    · exact hn h1.symm
    · omega
  have aux2 : ∀ {v v1 v2 : Value}, (∀ g, v1.ownBlock = some g → v.ownBlock = some g ∨ w.heap.size ≤ g) → (∀ g, v2.ownBlock = some g → v1.ownBlock = some g ∨ w1.heap.size ≤ g) → ∀ g, v2.ownBlock = some g → v.ownBlock = some g ∨ w.heap.size ≤ g := fun h1 h2 g hg => by
    rcases h2 g hg with h3 | h3
    · exact h1 g h3
    · exact Or.inr (Nat.le_trans h.size h3)
  refine ⟨k.os.trans h.os, k.tape.trans h.tape, k.output.trans h.output, Nat.le_trans h.size k.size, fun j hj hL h1 h2 h3 => ?_, aux2 h.fs k.fs, aux2 h.fb k.fb, aux2 h.fl k.fl⟩
  rw [k.block j (Nat.lt_of_lt_of_le hj h.size) hL (aux h.fs j hj h1) (aux h.fb j hj h2) (aux h.fl j hj h3)]
  exact h.block j hj hL h1 h2 h3

variable {B : Nat} {w : World} {L : Nat} {s : ByteArray} {l : Ls} {vs vb vl : Value}

theorem LoadIn.lt (h : LoadIn B w L s l vs vb vl) : L < w.heap.size := World.block_lt_of_cell? w _ h.c0

/-- behind new blocks and draws -/
theorem LoadIn.grow (h : LoadIn B w L s l vs vb vl) {w' : World} (hg : w.grownBy w' none) : LoadIn B w' L s l vs vb vl := by
  have hb : w'.heap[L]? = w.heap[L]? := hg.block L h.lt (by simp)
  have hc : ∀ j, w'.cell? ⟨L, j, none⟩ = w.cell? ⟨L, j, none⟩ := fun j => World.cell?_of_block hb
  have hf : ∀ j, w'.frozen? ⟨L, j, none⟩ = w.frozen? ⟨L, j, none⟩ := fun j => World.frozen?_of_block hb
  have hk : ∀ v : Value, v.ownBlock = none ∨ v.ownBlock ≠ none := fun v => by cases v.ownBlock <;> simp
  exact ⟨h.bL, by rw [hc]; exact h.c0, by rw [hc]; exact h.c1, by rw [hc]; exact h.c2, by rw [hc]; exact h.c3, by rw [hc]; exact h.c4, by rw [hc]; exact h.c5, by rw [hc]; exact h.c6, by rw [hc]; exact h.c7,
    fun j => by rw [hf]; exact h.fr j, h.steps.kept hg (hk vs), h.blocks.kept hg (hk vb), h.loops.kept hg (hk vl), h.ns, h.nb, h.nl, h.sb, h.sl, h.bl⟩

theorem LoadIn.alloc (h : LoadIn B w L s l vs vb vl) (o : Obj) : LoadIn B (w.alloc o) L s l vs vb vl := h.grow (World.grownBy_alloc w o none)
theorem LoadIn.drewN (h : LoadIn B w L s l vs vb vl) (n : Nat) : LoadIn B (w.drewN n) L s l vs vb vl := h.grow ⟨rfl, rfl, rfl, Nat.le_refl _, fun _ _ _ => rfl⟩

theorem Moves.grow (L : Nat) (w : World) (vs vb vl : Value) {w' : World} (hg : w.grownBy w' none) : Moves L w vs vb vl w' vs vb vl :=
  ⟨hg.os, hg.tape, hg.output, hg.size, fun k hk _ _ _ _ => hg.block k hk (by simp), fun _ h => Or.inl h, fun _ h => Or.inl h, fun _ h => Or.inl h⟩

/-- a store into the loader's own block: what its fields hold then, field by field -/
theorem LoadIn.put (h : LoadIn B w L s l vs vb vl) (j : Nat) (u : Value) (l' : Ls) (vs' vb' vl' : Value)
    (h1 : (w.setCell ⟨L, j, none⟩ u).cell? ⟨L, 1, none⟩ = some (.int .i64 l'.pos)) (h2 : (w.setCell ⟨L, j, none⟩ u).cell? ⟨L, 2, none⟩ = some vs') (h3 : (w.setCell ⟨L, j, none⟩ u).cell? ⟨L, 3, none⟩ = some vb')
    (h4 : (w.setCell ⟨L, j, none⟩ u).cell? ⟨L, 4, none⟩ = some vl') (h5 : (w.setCell ⟨L, j, none⟩ u).cell? ⟨L, 5, none⟩ = some (.int .i64 l'.slots)) (h6 : (w.setCell ⟨L, j, none⟩ u).cell? ⟨L, 6, none⟩ = some (.int .i64 l'.need))
    (h7 : (w.setCell ⟨L, j, none⟩ u).cell? ⟨L, 7, none⟩ = some (.bool l'.bad)) (h0 : ¬ j = 0)
    (hs : w.ownsRow B 125 7 vs' l'.steps.length (l'.steps.flatMap stepCells)) (hb : w.ownsRow B 226 4 vb' l'.blocks.length (l'.blocks.flatMap bkCells)) (hl : w.ownsRow B 3 1 vl' l'.loops.length (l'.loops.map (Value.int .i64)))
    (ns : vs'.ownBlock ≠ some L) (nb : vb'.ownBlock ≠ some L) (nl : vl'.ownBlock ≠ some L) (sb : vs'.ownBlock = none ∨ vs'.ownBlock ≠ vb'.ownBlock) (sl : vs'.ownBlock = none ∨ vs'.ownBlock ≠ vl'.ownBlock) (bl : vb'.ownBlock = none ∨ vb'.ownBlock ≠ vl'.ownBlock) :
    LoadIn B (w.setCell ⟨L, j, none⟩ u) L s l' vs' vb' vl' := by
  have hg := grownBy_setCell w ⟨L, j, none⟩ u
  exact ⟨h.bL, by rw [World.cell?_setCell_other _ _ _ _ (by intro e; cases e; exact h0 rfl)]; exact h.c0, h1, h2, h3, h4, h5, h6, h7, fun j' => by rw [World.frozen?_setCell]; exact h.fr j',
    hs.kept hg (Or.inr ns), hb.kept hg (Or.inr nb), hl.kept hg (Or.inr nl), ns, nb, nl, sb, sl, bl⟩

theorem Moves.own (L : Nat) (w : World) (vs vb vl : Value) (j : Nat) (u : Value) : Moves L w vs vb vl (w.setCell ⟨L, j, none⟩ u) vs vb vl :=
  ⟨rfl, rfl, rfl, by simp, fun k _ hL _ _ _ => Below.heap_setCell _ _ _ _ hL, fun _ h => Or.inl h, fun _ h => Or.inl h, fun _ h => Or.inl h⟩
end Go.Proofs.YthllhabjfchgiaaGreatDoor
