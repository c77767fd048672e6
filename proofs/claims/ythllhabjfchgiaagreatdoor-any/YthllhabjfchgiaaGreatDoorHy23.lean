import Derived.Test.YthllhabjfchgiaaGreatDoorHy01
import Derived.WalkKit
import Derived.WalkSpells
import Derived.WalkLawsBesides
import Derived.Deep.QuietTactic
import Derived.BigQuiet
import Derived.Deep.CutBlock
import Derived.Deep.DeepCutAuto
import Derived.Test.YthllhabjfchgiaaGreatDoorShelf
import Derived.Test.YthllhabjfchgiaaGreatDoorHy02
import Derived.Test.YthllhabjfchgiaaGreatDoorHy09
/- Package lang: tokens. -/
namespace Go.Proofs.YthllhabjfchgiaaGreatDoor.Hx
open Go.RowKit

def isLet (c : Int) : Bool := decide (97 ≤ c) && decide (c ≤ 122)
def isDig (c : Int) : Bool := decide (48 ≤ c) && decide (c ≤ 57)
def isBlank (c : Int) : Bool := c == 32 || c == 10
def isAlnum (c : Int) : Bool := isLet c || isDig c

/-- how many bytes at the beginning are such -/
def span (p : Int → Bool) (l : List UInt8) : Nat := (l.takeWhile fun c => p c.toNat).length

theorem span_nil (p : Int → Bool) (l : List UInt8) (k : Nat) (h : l.length ≤ k) : span p (l.drop k) = 0 := by
  rw [List.drop_of_length_le h]; rfl

theorem span_yes (p : Int → Bool) (l : List UInt8) (k : Nat) (h : k < l.length) (hp : p (l[k]'h).toNat = true) : span p (l.drop k) = 1 + span p (l.drop (k + 1)) := by
  unfold span
  rw [List.drop_eq_getElem_cons h, List.takeWhile_cons_of_pos (by exact hp), List.length_cons]
  omega

theorem span_no (p : Int → Bool) (l : List UInt8) (k : Nat) (h : k < l.length) (hp : p (l[k]'h).toNat = false) : span p (l.drop k) = 0 := by
  unfold span
  rw [List.drop_eq_getElem_cons h, List.takeWhile_cons_of_neg (by rw [hp]; simp)]
  rfl

/-- beginNumber, by how many digits there are -/
def numberOf (n : Nat) : Int × Int := if 18 < n then (0, 0) else (3, n)
def beginNumber (t : ByteArray) : Int × Int := numberOf (1 + span isDig (t.data.toList.drop 1))

def isWord (u : List UInt8) : Bool := u == [105, 102] || u == [101, 108, 115, 101] || u == [101, 97, 99, 104] || u == [105, 110] || u == [112, 117, 115, 104] || u == [118, 97, 114] || u == [114, 101, 116, 117, 114, 110] || u == [116, 114, 117, 101] || u == [102, 97, 108, 115, 101] || u == [105, 115, 110, 111, 110, 101]
def wordOf (t : ByteArray) (n : Nat) : Int × Int := if 12 < n then (0, 0) else if isWord (t.extract 0 n).toList then (5, n) else (2, n)
def beginWord (t : ByteArray) : Int × Int := wordOf t (1 + span isAlnum (t.data.toList.drop 1))

theorem span_le (p : Int → Bool) (l : List UInt8) : span p l ≤ l.length := List.Sublist.length_le (List.takeWhile_sublist _)
end Go.Proofs.YthllhabjfchgiaaGreatDoor.Hx

namespace Go.Proofs.YthllhabjfchgiaaGreatDoor
open Go.RowKit

theorem isLetter_any (c : Int) (w : World) : Calls Tryz.prog 214 #[.int .u8 c] w fun e w' => e = .returned (.bool (Hx.isLet c)) ∧ w' = w := by
  by_cases h : 97 ≤ c
  · have d1 : decide (97 ≤ c) = true := by simpa using h
    go_enter Tryz.func214, Tryz.ntmps214
    go_wp2
    go_ret
    exact ⟨ret_bool (by simp only [Hx.isLet, d1]; simp), rfl⟩
  · have d1 : decide (97 ≤ c) = false := by simpa using h
    go_enter Tryz.func214, Tryz.ntmps214
    go_wp2
    go_ret
    exact ⟨ret_bool (by simp only [Hx.isLet, d1]; simp), rfl⟩

theorem isDigit_any (c : Int) (w : World) : Calls Tryz.prog 216 #[.int .u8 c] w fun e w' => e = .returned (.bool (Hx.isDig c)) ∧ w' = w := by
  by_cases h : 48 ≤ c
  · have d1 : decide (48 ≤ c) = true := by simpa using h
    go_enter Tryz.func216, Tryz.ntmps216
    go_wp2
    go_ret
    exact ⟨ret_bool (by simp only [Hx.isDig, d1]; simp), rfl⟩
  · have d1 : decide (48 ≤ c) = false := by simpa using h
    go_enter Tryz.func216, Tryz.ntmps216
    go_wp2
    go_ret
    exact ⟨ret_bool (by simp only [Hx.isDig, d1]; simp), rfl⟩


/-- a loop that counts bytes: where it stands -/
structure Spans (p : Int → Bool) (t : ByteArray) (n k : Nat) : Prop where
  eq : k + Hx.span p (t.data.toList.drop k) = n

theorem Spans.yes {p : Int → Bool} {t : ByteArray} {n k : Nat} (h : Spans p t n k) (hk : k < t.size) (hp : p (t[k]'hk).toNat = true) : Spans p t n (k + 1) := by
  have := Hx.span_yes p t.data.toList k (by simpa using hk) hp
  exact ⟨by have := h.eq; omega⟩

theorem Spans.no {p : Int → Bool} {t : ByteArray} {n k : Nat} (h : Spans p t n k) (hk : k < t.size) (hp : p (t[k]'hk).toNat = false) : n = k := by
  have := Hx.span_no p t.data.toList k (by simpa using hk) hp
  have := h.eq
  omega

theorem Spans.off {p : Int → Bool} {t : ByteArray} {n k : Nat} (h : Spans p t n k) (hk : t.size ≤ k) : n = k := by
  have := Hx.span_nil p t.data.toList k (by simpa using hk)
  have := h.eq
  omega

theorem spans_first (p : Int → Bool) (t : ByteArray) (k : Nat) (hk : k ≤ t.size) : ∃ n, k + Hx.span p (t.data.toList.drop k) = n ∧ n ≤ t.size ∧ Spans p t n k := by
  refine ⟨_, rfl, ?_, ⟨rfl⟩⟩
  have := Hx.span_le p (t.data.toList.drop k)
  rw [List.length_drop] at this
  have h2 : t.data.toList.length = t.size := by simp
  omega

set_option maxRecDepth 100000 in
set_option maxHeartbeats 1000000 in
theorem beginNumber_any (t : ByteArray) (w : World) (ht : t.size ≤ 4000) (h1 : 1 ≤ t.size) :
    Calls Tryz.prog 217 #[.string t] w fun e w' => e = .returned (.tuple #[.int .i64 (Hx.beginNumber t).1, .int .i64 (Hx.beginNumber t).2]) ∧ w' = w := by
  unfold Hx.beginNumber
  obtain ⟨n, hn, hnb, HN⟩ := spans_first Hx.isDig t 1 h1
  rw [hn]
  clear hn
  generalize hr : Hx.numberOf n = r
  have HR : Hid (Hx.numberOf n = r) := hr
  clear hr
  go_enter Tryz.func217, Tryz.ntmps217
  go_wp2
  go_loop [4] (fun i => ∃ k : Nat, 1 ≤ k ∧ k ≤ t.size ∧ i = .int .i64 k ∧ Spans Hx.isDig t n k) (fun i => t.size - (intOf i).toNat)
  case atStart => exact ⟨1, by omega, by omega, rfl, HN⟩
  case round =>
    obtain ⟨k, hk1, hk, rfl, HK⟩ := hrel
    clear HN
    by_cases hlt : k < t.size
    · have i0 : (0 : Int) ≤ (k : Int) := by omega
      have i1 : (k : Int) < (t.size : Int) := by omega
      cases hd : Hx.isDig t[k].toNat with
      | true =>
        have HE := HK.yes hlt hd
        clear HK
        go_wp2_with (go_at_call 216; refine (isDigit_any _ _).mono ?_; rintro e w' ⟨rfl, rfl⟩; rw [hd])
        refine ⟨⟨k + 1, by omega, by omega, by go_num, HE⟩, ?_⟩
        simp [intOf]; omega
      | false =>
        have h5 := HK.no hlt hd
        subst h5
        clear HK
        by_cases h18 : 18 < n
        · have d2 : decide ((18 : Int) < (n : Int)) = true := by simp; omega
          have e : r = (0, 0) := by rw [← HR.out, Hx.numberOf, if_pos h18]
          subst e
          go_wp2_with (go_at_call 216; refine (isDigit_any _ _).mono ?_; rintro e w' ⟨rfl, rfl⟩; rw [hd])
          go_ret2
          exact ⟨rfl, rfl⟩
        · have d2 : decide ((18 : Int) < (n : Int)) = false := by simp; omega
          have e : r = (3, (n : Int)) := by rw [← HR.out, Hx.numberOf, if_neg h18]
          subst e
          go_wp2_with (go_at_call 216; refine (isDigit_any _ _).mono ?_; rintro e w' ⟨rfl, rfl⟩; rw [hd])
          go_ret2
          exact ⟨rfl, rfl⟩
    · have h5 := HK.off (by omega)
      have i1 : decide ((k : Int) < (t.size : Int)) = false := by simp; omega
      subst h5
      clear HK
      by_cases h18 : 18 < n
      · have d2 : decide ((18 : Int) < (n : Int)) = true := by simp; omega
        have e : r = (0, 0) := by rw [← HR.out, Hx.numberOf, if_pos h18]
        subst e
        go_wp2
        go_ret2
        exact ⟨rfl, rfl⟩
      · have d2 : decide ((18 : Int) < (n : Int)) = false := by simp; omega
        have e : r = (3, (n : Int)) := by rw [← HR.out, Hx.numberOf, if_neg h18]
        subst e
        go_wp2
        go_ret2
        exact ⟨rfl, rfl⟩

set_option maxRecDepth 100000 in
set_option maxHeartbeats 2000000 in
theorem beginWord_any (t : ByteArray) (w : World) (ht : t.size ≤ 4000) (h1 : 1 ≤ t.size) :
    Calls Tryz.prog 215 #[.string t] w fun e w' => e = .returned (.tuple #[.int .i64 (Hx.beginWord t).1, .int .i64 (Hx.beginWord t).2]) ∧ w' = w := by
  unfold Hx.beginWord
  obtain ⟨n, hn, hnb, HN⟩ := spans_first Hx.isAlnum t 1 h1
  rw [hn]
  clear hn
  generalize hr : Hx.wordOf t n = r
  have HR : Hid (Hx.wordOf t n = r) := hr
  clear hr
  go_enter Tryz.func215, Tryz.ntmps215
  go_upto_block 0 with fail
  go_cut [4] (fun i wx => w = wx ∧ i = .int .i64 n)
  case first =>
    go_wp2_with fail
    go_loop [4] (fun i => ∃ k : Nat, 1 ≤ k ∧ k ≤ t.size ∧ i = .int .i64 k ∧ Spans Hx.isAlnum t n k) (fun i => t.size - (intOf i).toNat)
    case atStart => exact ⟨1, by omega, by omega, rfl, HN⟩
    case round =>
      obtain ⟨k, hk1, hk, rfl, HK⟩ := hrel
      clear HN
      by_cases hlt : k < t.size
      · have i0 : (0 : Int) ≤ (k : Int) := by omega
        have i1 : (k : Int) < (t.size : Int) := by omega
        cases hl : Hx.isLet t[k].toNat with
        | true =>
          have HE := HK.yes hlt (by simp [Hx.isAlnum, hl])
          clear HK
          go_wp2_with (go_at_call 214; refine (isLetter_any _ _).mono ?_; rintro e w' ⟨rfl, rfl⟩; rw [hl])
          refine ⟨⟨k + 1, by omega, by omega, by go_num, HE⟩, ?_⟩
          simp [intOf]; omega
        | false =>
          cases hd : Hx.isDig t[k].toNat with
          | true =>
            have HE := HK.yes hlt (by simp [Hx.isAlnum, hl, hd])
            clear HK
            go_wp2_with (first | (go_at_call 214; refine (isLetter_any _ _).mono ?_; rintro e w' ⟨rfl, rfl⟩; rw [hl]) | (go_at_call 216; refine (isDigit_any _ _).mono ?_; rintro e w' ⟨rfl, rfl⟩; rw [hd]))
            refine ⟨⟨k + 1, by omega, by omega, by go_num, HE⟩, ?_⟩
            simp [intOf]; omega
          | false =>
            have h5 := HK.no hlt (by simp [Hx.isAlnum, hl, hd])
            subst h5
            clear HK
            go_wp2_with (first | (go_at_call 214; refine (isLetter_any _ _).mono ?_; rintro e w' ⟨rfl, rfl⟩; rw [hl]) | (go_at_call 216; refine (isDigit_any _ _).mono ?_; rintro e w' ⟨rfl, rfl⟩; rw [hd]))
            go_meet
            exact ⟨rfl, rfl⟩
      · have h5 := HK.off (by omega)
        have i1 : decide ((k : Int) < (t.size : Int)) = false := by simp; omega
        subst h5
        clear HK
        go_wp2
        go_meet
        exact ⟨rfl, rfl⟩
  case rest =>
    obtain ⟨rfl, rfl⟩ := hcut
    by_cases h12 : 12 < n
    · have d2 : decide ((12 : Int) < (n : Int)) = true := by simp; omega
      have e : r = (0, 0) := by rw [← HR.out, Hx.wordOf, if_pos h12]
      subst e
      go_wp2
      go_ret2
      exact ⟨rfl, rfl⟩
    · have d2 : decide ((12 : Int) < (n : Int)) = false := by simp; omega
      have i1 : (n : Int) ≤ (t.size : Int) := by omega
      have i2 : (0 : Int) ≤ (n : Int) := by omega
      have HW : Hid (∀ b, Hx.isWord (t.extract 0 n).toList = b → r = if b then (5, (n : Int)) else (2, (n : Int))) := fun b hb => by
        rw [← HR.out, Hx.wordOf, if_neg h12, hb]
      clear HR HN
      go_wp2
      all_goals first
        | (rename_i a b; exact absurd (a.symm.trans b) (by decide))
        | (have e := HW.out true (by simp only [Hx.isWord, *, Bool.or_true, Bool.true_or])
           rw [if_pos rfl] at e
           subst e
           go_ret2
           exact ⟨rfl, rfl⟩)
        | (have e := HW.out false (by simp only [Hx.isWord, *, Bool.or_false])
           rw [if_neg (by decide)] at e
           subst e
           go_ret2
           exact ⟨rfl, rfl⟩)

def Hx.isSet (u : List UInt8) : Bool := u == [82, 79, 65, 68, 83] || u == [70, 82, 69, 83, 72] || u == [65, 71, 65, 73, 78]
def Hx.isReg (x y : Int) : Bool := x == 82 && decide (48 ≤ y) && decide (y ≤ 55)
def Hx.beginCapital (t : ByteArray) : Int × Int :=
  if decide (1 < t.size) && Hx.isReg (t.data.toList.getD 0 0).toNat (t.data.toList.getD 1 0).toNat then (4, 2)
  else if t.size < 5 then (0, 0) else if Hx.isSet (t.extract 0 5).toList then (5, 5) else (0, 0)

theorem getD_byte (t : ByteArray) (k : Nat) (h : k < t.size) : t.data.toList.getD k 0 = t[k] := by
  have : k < t.data.toList.length := by simpa using h
  rw [List.getD_eq_getElem?_getD, List.getElem?_eq_getElem this]
  rfl

set_option maxRecDepth 100000 in
set_option maxHeartbeats 2000000 in
theorem beginCapital_any (t : ByteArray) (w : World) (ht : t.size ≤ 4000) (h1 : 1 ≤ t.size) :
    Calls Tryz.prog 218 #[.string t] w fun e w' => e = .returned (.tuple #[.int .i64 (Hx.beginCapital t).1, .int .i64 (Hx.beginCapital t).2]) ∧ w' = w := by
  generalize hr : Hx.beginCapital t = r
  have i0 : (0 : Int) < (t.size : Int) := by omega
  by_cases h2 : 1 < t.size
  · have i1 : (1 : Int) < (t.size : Int) := by omega
    have e0 := getD_byte t 0 (by omega)
    have e1 := getD_byte t 1 h2
    unfold Hx.beginCapital at hr
    rw [e0, e1, decide_eq_true h2, Bool.true_and] at hr
    have HR : Hid ((if Hx.isReg t[0].toNat t[1].toNat = true then ((4 : Int), (2 : Int)) else if t.size < 5 then (0, 0) else if Hx.isSet (t.extract 0 5).toList = true then (5, 5) else (0, 0)) = r) := hr
    clear hr e0 e1
    cases hg : Hx.isReg t[0].toNat t[1].toNat with
    | true =>
      have e : r = (4, 2) := by rw [← HR.out, if_pos hg]
      subst e
      simp only [Hx.isReg, Bool.and_eq_true] at hg
      obtain ⟨⟨g1, g2⟩, g3⟩ := hg
      clear HR
      go_enter Tryz.func218, Tryz.ntmps218
      go_wp2
      go_ret2
      exact ⟨rfl, rfl⟩
    | false =>
      have HG : Hid (Hx.isReg t[0].toNat t[1].toNat = false) := hg
      have HQ : Hid ((if t.size < 5 then ((0 : Int), (0 : Int)) else if Hx.isSet (t.extract 0 5).toList = true then (5, 5) else (0, 0)) = r) := by
        have h9 := HR.out
        rw [if_neg (show ¬ Hx.isReg t[0].toNat t[1].toNat = true by rw [hg]; decide)] at h9
        exact h9
      clear HR hg
      by_cases h5 : t.size < 5
      · have d5 : decide ((t.size : Int) < 5) = true := by simp; omega
        have e : r = (0, 0) := by rw [← HQ.out, if_pos h5]
        subst e
        go_enter Tryz.func218, Tryz.ntmps218
        go_wp2
        all_goals first
          | (go_ret2; exact ⟨rfl, rfl⟩)
          | (exfalso; have := HG.out; simp only [Hx.isReg, *] at this; exact absurd this (by decide))
      · have d5 : decide ((t.size : Int) < 5) = false := by simp; omega
        have i5 : (5 : Int) ≤ (t.size : Int) := by omega
        have HW : Hid (∀ b, Hx.isSet (t.extract 0 5).toList = b → r = if b then (5, 5) else (0, 0)) := fun b hb => by
          rw [← HQ.out, if_neg h5, hb]
        clear HQ
        go_enter Tryz.func218, Tryz.ntmps218
        go_wp2
        all_goals first
          | (rename_i a b; exact absurd (a.symm.trans b) (by decide))
          | (rename_i a b _; exact absurd (a.symm.trans b) (by decide))
          | (exfalso; have := HG.out; simp only [Hx.isReg, *] at this; exact absurd this (by decide))
          | (have e := HW.out true (by simp only [Hx.isSet, *, Bool.or_true, Bool.true_or])
             rw [if_pos rfl] at e
             subst e
             go_ret2
             exact ⟨rfl, rfl⟩)
          | (have e := HW.out false (by simp only [Hx.isSet, *, Bool.or_false])
             rw [if_neg (by decide)] at e
             subst e
             go_ret2
             exact ⟨rfl, rfl⟩)
  · have hs : t.size = 1 := by omega
    have i1 : decide ((1 : Int) < (t.size : Int)) = false := by simp; omega
    have d5 : decide ((t.size : Int) < 5) = true := by simp; omega
    have e : r = (0, 0) := by
      rw [← hr]; simp [Hx.beginCapital, hs]
    subst e
    clear hr
    go_enter Tryz.func218, Tryz.ntmps218
    go_wp2
    go_ret2
    exact ⟨rfl, rfl⟩
end Go.Proofs.YthllhabjfchgiaaGreatDoor

/- Package lang: scan. -/
namespace Go.Proofs.YthllhabjfchgiaaGreatDoor.Hx
open Go.RowKit

def isTwo (u : List UInt8) : Bool := u == [60, 61] || u == [62, 61] || u == [61, 61] || u == [33, 61] || u == [38, 38] || u == [124, 124]
def isOne (c : UInt8) : Bool := decide (0 ≤ Lib.indexByte [40, 41, 123, 125, 44, 59, 58, 46, 43, 45, 42, 47, 37, 60, 62, 61, 33] c)
def beginSign (t : ByteArray) : Int × Int :=
  if decide (1 < t.size) && isTwo (t.extract 0 2).toList then (5, 2) else if isOne (t.data.toList.getD 0 0) then (5, 1) else (0, 0)

def begins' (t : ByteArray) (x : Int) : Int × Int :=
  if isLet x then beginWord t else if isDig x then beginNumber t else if decide (65 ≤ x) && decide (x ≤ 90) then beginCapital t else beginSign t
def begin' (t : ByteArray) : Int × Int := begins' t (t.data.toList.getD 0 0).toNat

structure Tk where
  kind : Int
  text : ByteArray
  at' : Int

def scanAt (s : ByteArray) (k : Nat) : Tk :=
  if k = s.size then ⟨1, ⟨#[]⟩, k⟩ else ⟨(begin' (s.extract k s.size)).1, s.extract k (k + (begin' (s.extract k s.size)).2.toNat), k⟩
def scan (s : ByteArray) (from' : Nat) : Tk := scanAt s (from' + span isBlank (s.data.toList.drop from'))

theorem beginWord_size (t : ByteArray) (h : 1 ≤ t.size) : 0 ≤ (beginWord t).2 ∧ (beginWord t).2 ≤ t.size := by
  obtain ⟨n, hn, hnb, _⟩ := spans_first isAlnum t 1 h
  unfold beginWord
  rw [hn]
  unfold wordOf
  repeat' split
  all_goals simp only
  all_goals omega

theorem beginNumber_size (t : ByteArray) (h : 1 ≤ t.size) : 0 ≤ (beginNumber t).2 ∧ (beginNumber t).2 ≤ t.size := by
  obtain ⟨n, hn, hnb, _⟩ := spans_first isDig t 1 h
  unfold beginNumber
  rw [hn]
  unfold numberOf
  repeat' split
  all_goals simp only
  all_goals omega

theorem beginCapital_size (t : ByteArray) : 0 ≤ (beginCapital t).2 ∧ (beginCapital t).2 ≤ t.size := by
  unfold beginCapital
  split
  · rename_i h
    simp only [Bool.and_eq_true, decide_eq_true_eq] at h
    simp only
    omega
  · repeat' split
    all_goals simp only
    all_goals omega

theorem beginSign_size (t : ByteArray) (h : 1 ≤ t.size) : 0 ≤ (beginSign t).2 ∧ (beginSign t).2 ≤ t.size := by
  unfold beginSign
  split
  · rename_i h
    simp only [Bool.and_eq_true, decide_eq_true_eq] at h
    simp only
    omega
  · split
    all_goals simp only
    all_goals omega

theorem begin_size (t : ByteArray) (h : 1 ≤ t.size) : 0 ≤ (begin' t).2 ∧ (begin' t).2 ≤ t.size := by
  unfold begin' begins'
  repeat' split
  · exact beginWord_size t h
  · exact beginNumber_size t h
  · exact beginCapital_size t
  · exact beginSign_size t h
end Go.Proofs.YthllhabjfchgiaaGreatDoor.Hx

namespace Go.Proofs.YthllhabjfchgiaaGreatDoor
open Go.RowKit

set_option maxRecDepth 100000 in
set_option maxHeartbeats 2000000 in
theorem beginSign_any (t : ByteArray) (w : World) (ht : t.size ≤ 4000) (h1 : 1 ≤ t.size) :
    Calls Tryz.prog 219 #[.string t] w fun e w' => e = .returned (.tuple #[.int .i64 (Hx.beginSign t).1, .int .i64 (Hx.beginSign t).2]) ∧ w' = w := by
  generalize hr : Hx.beginSign t = r
  have i0 : (0 : Int) < (t.size : Int) := by omega
  have e0 := getD_byte t 0 (by omega)
  unfold Hx.beginSign at hr
  rw [e0] at hr
  by_cases h2 : 1 < t.size
  · have i1 : (2 : Int) ≤ (t.size : Int) := by omega
    have i2 : decide ((1 : Int) < (t.size : Int)) = true := by simp; omega
    rw [decide_eq_true h2, Bool.true_and] at hr
    cases y0 : ((t.extract 0 2).toList == [60, 61]) with
    | true =>
      have e : r = (5, 2) := by rw [← hr, if_pos (by simp only [Hx.isTwo, y0, Bool.true_or])]
      subst e
      clear hr
      go_enter Tryz.func219, Tryz.ntmps219
      go_wp2
      go_ret2
      exact ⟨rfl, rfl⟩
    | false =>
      cases y1 : ((t.extract 0 2).toList == [62, 61]) with
      | true =>
        have e : r = (5, 2) := by rw [← hr, if_pos (by simp only [Hx.isTwo, y1, Bool.or_true, Bool.true_or])]
        subst e
        clear hr
        go_enter Tryz.func219, Tryz.ntmps219
        go_wp2
        go_ret2
        exact ⟨rfl, rfl⟩
      | false =>
        cases y2 : ((t.extract 0 2).toList == [61, 61]) with
        | true =>
          have e : r = (5, 2) := by rw [← hr, if_pos (by simp only [Hx.isTwo, y2, Bool.or_true, Bool.true_or])]
          subst e
          clear hr
          go_enter Tryz.func219, Tryz.ntmps219
          go_wp2
          go_ret2
          exact ⟨rfl, rfl⟩
        | false =>
          cases y3 : ((t.extract 0 2).toList == [33, 61]) with
          | true =>
            have e : r = (5, 2) := by rw [← hr, if_pos (by simp only [Hx.isTwo, y3, Bool.or_true, Bool.true_or])]
            subst e
            clear hr
            go_enter Tryz.func219, Tryz.ntmps219
            go_wp2
            go_ret2
            exact ⟨rfl, rfl⟩
          | false =>
            cases y4 : ((t.extract 0 2).toList == [38, 38]) with
            | true =>
              have e : r = (5, 2) := by rw [← hr, if_pos (by simp only [Hx.isTwo, y4, Bool.or_true, Bool.true_or])]
              subst e
              clear hr
              go_enter Tryz.func219, Tryz.ntmps219
              go_wp2
              go_ret2
              exact ⟨rfl, rfl⟩
            | false =>
              cases y5 : ((t.extract 0 2).toList == [124, 124]) with
              | true =>
                have e : r = (5, 2) := by rw [← hr, if_pos (by simp only [Hx.isTwo, y5, Bool.or_true])]
                subst e
                clear hr
                go_enter Tryz.func219, Tryz.ntmps219
                go_wp2
                go_ret2
                exact ⟨rfl, rfl⟩
              | false =>
                have hy : Hx.isTwo (t.extract 0 2).toList = false := by simp only [Hx.isTwo, y0, y1, y2, y3, y4, y5, Bool.or_false]
                rw [if_neg (by rw [hy]; decide)] at hr
                clear hy
                by_cases ho : (0 : Int) ≤ Lib.indexByte [40, 41, 123, 125, 44, 59, 58, 46, 43, 45, 42, 47, 37, 60, 62, 61, 33] t[0]
                · have e : r = (5, 1) := by rw [← hr, if_pos (by simp only [Hx.isOne]; exact decide_eq_true ho)]
                  subst e
                  clear hr
                  go_enter Tryz.func219, Tryz.ntmps219
                  go_wp2_with (go_at_call 231; refine (Tryz.strings_IndexByte _ _ _).mono ?_; rintro e w' ⟨rfl, rfl⟩)
                  go_ret2
                  exact ⟨rfl, rfl⟩
                · have e : r = (0, 0) := by rw [← hr, if_neg (by simp only [Hx.isOne]; rw [decide_eq_false ho]; decide)]
                  subst e
                  clear hr
                  have ho' : Lib.indexByte [40, 41, 123, 125, 44, 59, 58, 46, 43, 45, 42, 47, 37, 60, 62, 61, 33] t[0] < 0 := by omega
                  go_enter Tryz.func219, Tryz.ntmps219
                  go_wp2_with (go_at_call 231; refine (Tryz.strings_IndexByte _ _ _).mono ?_; rintro e w' ⟨rfl, rfl⟩)
                  go_ret2
                  exact ⟨rfl, rfl⟩
  · have i2 : decide ((1 : Int) < (t.size : Int)) = false := by simp; omega
    rw [decide_eq_false h2, Bool.false_and, if_neg (by decide)] at hr
    by_cases ho : (0 : Int) ≤ Lib.indexByte [40, 41, 123, 125, 44, 59, 58, 46, 43, 45, 42, 47, 37, 60, 62, 61, 33] t[0]
    · have e : r = (5, 1) := by rw [← hr, if_pos (by simp only [Hx.isOne]; exact decide_eq_true ho)]
      subst e
      clear hr
      go_enter Tryz.func219, Tryz.ntmps219
      go_wp2_with (go_at_call 231; refine (Tryz.strings_IndexByte _ _ _).mono ?_; rintro e w' ⟨rfl, rfl⟩)
      go_ret2
      exact ⟨rfl, rfl⟩
    · have e : r = (0, 0) := by rw [← hr, if_neg (by simp only [Hx.isOne]; rw [decide_eq_false ho]; decide)]
      subst e
      clear hr
      have ho' : Lib.indexByte [40, 41, 123, 125, 44, 59, 58, 46, 43, 45, 42, 47, 37, 60, 62, 61, 33] t[0] < 0 := by omega
      go_enter Tryz.func219, Tryz.ntmps219
      go_wp2_with (go_at_call 231; refine (Tryz.strings_IndexByte _ _ _).mono ?_; rintro e w' ⟨rfl, rfl⟩)
      go_ret2
      exact ⟨rfl, rfl⟩

set_option maxRecDepth 100000 in
set_option maxHeartbeats 2000000 in
theorem beginTok_any (t : ByteArray) (w : World) (ht : t.size ≤ 4000) (h1 : 1 ≤ t.size) :
    Calls Tryz.prog 190 #[.string t] w fun e w' => e = .returned (.tuple #[.int .i64 (Hx.begin' t).1, .int .i64 (Hx.begin' t).2]) ∧ w' = w := by
  have i0 : (0 : Int) < (t.size : Int) := by omega
  have e0 := getD_byte t 0 (by omega)
  unfold Hx.begin' Hx.begins'
  rw [e0]
  clear e0
  cases hl : Hx.isLet t[0].toNat with
  | true =>
    simp only [if_true]
    go_enter Tryz.func190, Tryz.ntmps190
    go_wp2_with (first | (go_at_call 214; refine (isLetter_any _ _).mono ?_; rintro e w' ⟨rfl, rfl⟩; rw [hl]) | (go_at_call 215; refine (beginWord_any t _ ht h1).mono ?_; rintro e w' ⟨rfl, rfl⟩))
    go_ret2
    exact ⟨rfl, rfl⟩
  | false =>
    simp only [Bool.false_eq_true, if_false]
    cases hd : Hx.isDig t[0].toNat with
    | true =>
      simp only [if_true]
      go_enter Tryz.func190, Tryz.ntmps190
      go_wp2_with (first | (go_at_call 214; refine (isLetter_any _ _).mono ?_; rintro e w' ⟨rfl, rfl⟩; rw [hl]) | (go_at_call 216; refine (isDigit_any _ _).mono ?_; rintro e w' ⟨rfl, rfl⟩; rw [hd]) | (go_at_call 217; refine (beginNumber_any t _ ht h1).mono ?_; rintro e w' ⟨rfl, rfl⟩))
      go_ret2
      exact ⟨rfl, rfl⟩
    | false =>
      simp only [Bool.false_eq_true, if_false]
      by_cases h65 : (65 : Int) ≤ t[0].toNat
      · have d1 : decide ((65 : Int) ≤ (t[0].toNat : Int)) = true := decide_eq_true h65
        by_cases h90 : (t[0].toNat : Int) ≤ 90
        · have d2 : decide ((t[0].toNat : Int) ≤ 90) = true := decide_eq_true h90
          simp only [d1, d2, Bool.and_self, if_true]
          go_enter Tryz.func190, Tryz.ntmps190
          go_wp2_with (first | (go_at_call 214; refine (isLetter_any _ _).mono ?_; rintro e w' ⟨rfl, rfl⟩; rw [hl]) | (go_at_call 216; refine (isDigit_any _ _).mono ?_; rintro e w' ⟨rfl, rfl⟩; rw [hd]) | (go_at_call 218; refine (beginCapital_any t _ ht h1).mono ?_; rintro e w' ⟨rfl, rfl⟩))
          go_ret2
          exact ⟨rfl, rfl⟩
        · have d2 : decide ((t[0].toNat : Int) ≤ 90) = false := decide_eq_false h90
          simp only [d1, d2, Bool.and_false, Bool.false_eq_true, if_false]
          go_enter Tryz.func190, Tryz.ntmps190
          go_wp2_with (first | (go_at_call 214; refine (isLetter_any _ _).mono ?_; rintro e w' ⟨rfl, rfl⟩; rw [hl]) | (go_at_call 216; refine (isDigit_any _ _).mono ?_; rintro e w' ⟨rfl, rfl⟩; rw [hd]) | (go_at_call 219; refine (beginSign_any t _ ht h1).mono ?_; rintro e w' ⟨rfl, rfl⟩))
          go_ret2
          exact ⟨rfl, rfl⟩
      · have d1 : decide ((65 : Int) ≤ (t[0].toNat : Int)) = false := decide_eq_false h65
        simp only [d1, Bool.false_and, Bool.false_eq_true, if_false]
        go_enter Tryz.func190, Tryz.ntmps190
        go_wp2_with (first | (go_at_call 214; refine (isLetter_any _ _).mono ?_; rintro e w' ⟨rfl, rfl⟩; rw [hl]) | (go_at_call 216; refine (isDigit_any _ _).mono ?_; rintro e w' ⟨rfl, rfl⟩; rw [hd]) | (go_at_call 219; refine (beginSign_any t _ ht h1).mono ?_; rintro e w' ⟨rfl, rfl⟩))
        go_ret2
        exact ⟨rfl, rfl⟩

def tkV (k : Hx.Tk) : Value := .agg #[.int .i64 k.kind, .string k.text, .int .i64 k.at']

set_option maxRecDepth 100000 in
set_option maxHeartbeats 2000000 in
theorem scan_any (s : ByteArray) (from' : Nat) (w : World) (hs : s.size ≤ 4000) (hf : from' ≤ s.size) :
    Calls Tryz.prog 140 #[.string s, .int .i64 from'] w fun e w' => e = .returned (tkV (Hx.scan s from')) ∧ w.grownBy w' none := by
  unfold Hx.scan
  obtain ⟨n, hn, hnb, HN⟩ := spans_first Hx.isBlank s from' hf
  rw [hn]
  clear hn
  generalize hr : Hx.scanAt s n = r
  have HR : Hid (Hx.scanAt s n = r) := hr
  clear hr
  have HG : Hid (∀ o k, w.grownBy ((w.alloc o).drewN k) none) := fun o k => (World.grownBy_alloc w o none).trans ⟨rfl, rfl, rfl, Nat.le_refl _, fun _ _ _ => rfl⟩
  go_enter Tryz.func140, Tryz.ntmps140
  go_upto_block 0 with fail
  go_cut [5] (fun i wx => w.alloc (.cells #[.int .i64 0, .string ⟨#[]⟩, .int .i64 0] 249) = wx ∧ i = .int .i64 n)
  case first =>
    go_wp2_with fail
    go_loop [5] (fun i => ∃ k : Nat, k ≤ s.size ∧ i = .int .i64 k ∧ Spans Hx.isBlank s n k) (fun i => s.size - (intOf i).toNat)
    case atStart => exact ⟨from', by omega, rfl, HN⟩
    case round =>
      obtain ⟨k, hk, rfl, HK⟩ := hrel
      clear HN
      by_cases hlt : k < s.size
      · have i0 : (0 : Int) ≤ (k : Int) := by omega
        have i1 : (k : Int) < (s.size : Int) := by omega
        cases hl : ((s[k].toNat : Int) == 32) with
        | true =>
          have HE := HK.yes hlt (by simp [Hx.isBlank, hl])
          clear HK
          go_wp2
          refine ⟨⟨k + 1, by omega, by go_num, HE⟩, ?_⟩
          simp [intOf]; omega
        | false =>
          cases hd : ((s[k].toNat : Int) == 10) with
          | true =>
            have HE := HK.yes hlt (by simp [Hx.isBlank, hl, hd])
            clear HK
            go_wp2
            refine ⟨⟨k + 1, by omega, by go_num, HE⟩, ?_⟩
            simp [intOf]; omega
          | false =>
            have h5 := HK.no hlt (by simp only [Hx.isBlank, hl, hd, Bool.or_false])
            subst h5
            clear HK
            go_wp2
            go_meet
            exact ⟨rfl, rfl⟩
      · have h5 := HK.off (by omega)
        have i1 : decide ((k : Int) < (s.size : Int)) = false := by simp; omega
        subst h5
        clear HK
        go_wp2
        go_meet
        exact ⟨rfl, rfl⟩
  case rest =>
    obtain ⟨rfl, rfl⟩ := hcut
    clear HN
    by_cases he : n = s.size
    · subst he
      have e : r = ⟨1, ⟨#[]⟩, s.size⟩ := by rw [← HR.out, Hx.scanAt, if_pos rfl]
      subst e
      clear HR
      go_wp2
      refine bodyPost_ret (v := .agg #[.int .i64 1, .string ⟨#[]⟩, .int .i64 s.size]) (by simp [results, Tryz.results140, go_sem]) rfl ?_
      exact ⟨rfl, HG.out _ 0⟩
    · have d1 : ((n : Int) == (s.size : Int)) = false := by simp; omega
      have hsz : (s.extract n s.size).size = s.size - n := by simp
      obtain ⟨b1, b2⟩ := Hx.begin_size (s.extract n s.size) (by omega)
      have hC := beginTok_any (s.extract n s.size)
      have HC : Hid (∀ w, Calls Tryz.prog 190 #[.string (s.extract n s.size)] w fun e w' => e = .returned (.tuple #[.int .i64 (Hx.begin' (s.extract n s.size)).1, .int .i64 (Hx.begin' (s.extract n s.size)).2]) ∧ w' = w) := fun w => hC w (by omega) (by omega)
      have HE : Hid (r = ⟨(Hx.begin' (s.extract n s.size)).1, s.extract n (n + (Hx.begin' (s.extract n s.size)).2.toNat), n⟩) := by
        show _ = _
        rw [← HR.out, Hx.scanAt, if_neg he]
      clear hC HR
      generalize (Hx.begin' (s.extract n s.size)).1 = q at *
      generalize (Hx.begin' (s.extract n s.size)).2 = z at *
      obtain ⟨z, rfl⟩ := Int.eq_ofNat_of_zero_le b1
      have i0 : (0 : Int) ≤ (n : Int) := by omega
      have i1 : (n : Int) ≤ (s.size : Int) := by omega
      have i2 : (n : Int) + (z : Int) ≤ (s.size : Int) := by omega
      obtain ⟨y, hy⟩ : ∃ y : Nat, n + z = y := ⟨_, rfl⟩
      have hyI : (n : Int) + (z : Int) = (y : Int) := by omega
      have i3 : (n : Int) ≤ (y : Int) := by omega
      have i4 : (y : Int) ≤ (s.size : Int) := by omega
      rw [Int.toNat_natCast, hy] at HE
      clear b1 b2 hsz hy
      go_wp2_with (go_at_call 190; refine (HC.out _).mono ?_; rintro e w' ⟨rfl, rfl⟩)
      refine bodyPost_ret (v := .agg #[.int .i64 q, .string (s.extract n y), .int .i64 n]) (by simp [results, Tryz.results140, go_sem]) rfl ?_
      exact ⟨by rw [HE.out]; rfl, HG.out _ 0⟩
end Go.Proofs.YthllhabjfchgiaaGreatDoor

/- Package lang: the parser in memory. -/
namespace Go.Proofs.YthllhabjfchgiaaGreatDoor
open Go.RowKit
open Hx (Tk)
attribute [local go_sem ↓] Go.wp_at_zero Go.wp_at_succ
attribute [local go_sem] setCell_drewN'

/-- a world that has grown -/
structure Ext (w : World) where
  val : World
  grown : w.grownBy val none

theorem ext_some (w : World) : Nonempty (Ext w) := ⟨⟨w, World.grownBy.refl w none⟩⟩

/-- a region that draws its order, whose first operations only read or lay new blocks -/
theorem wp_ext_tail {P : Program} {id : Nat} {Q : Exit → Act → World → Prop} {a : Act} {w : World} {l : List Oper} (n : Nat) (hm : P.follows .mixedOrders = true) (hB : Region.lexTailB .any l.toArray n = true)
    (h : wpQuiet P l.toArray (fun w' => ∃ x : Ext w, w' = x.val) (fun a' => ∀ w', w.grownBy w' none → wpList P l.toArray Q (l.drop n) a' w') (l.take n) a) : (Code.region id l.toArray true).wp P Q a w := by
  refine wp_quiet_tail_of (C := fun w' => ∃ x : Ext w, w' = x.val) n hm hB ⟨⟨w.drew, ⟨rfl, rfl, rfl, Nat.le_refl _, fun _ _ _ => rfl⟩⟩, rfl⟩ ?_
  have mono : ∀ (l' : List Oper) (a : Act), wpQuiet P l.toArray (fun w' => ∃ x : Ext w, w' = x.val) (fun a' => ∀ w', w.grownBy w' none → wpList P l.toArray Q (l.drop n) a' w') l' a →
      wpQuiet P l.toArray (fun w' => ∃ x : Ext w, w' = x.val) (fun a' => ∀ w', (∃ x : Ext w, w' = x.val) → wpList P l.toArray Q (l.drop n) a' w') l' a := by
    intro l'
    induction l' with
    | nil =>
      intro a h
      rintro w' ⟨x, rfl⟩
      exact h _ x.grown
    | cons o rest ih =>
      intro a h
      unfold wpQuiet at h ⊢
      split
      · rename_i hw
        rw [if_pos hw] at h
        obtain ⟨v, h1, h2⟩ := h
        exact ⟨v, h1, ih _ h2⟩
      · rename_i hw
        rw [if_neg hw] at h
        exact ih _ h
  exact mono _ _ h

/-- a callee that lays new blocks alone -/
theorem Calls.ext_of {P : Program} {f : FuncId} {args : Array Value} {w : World} {x : Ext w} {v : Value} (h : Calls P f args x.val fun e w' => e = .returned v ∧ x.val.grownBy w' none) :
    Calls P f args x.val fun e w'' => e = .returned v ∧ ∃ y : Ext w, w'' = y.val :=
  h.mono fun _ w'' ⟨he, hg⟩ => ⟨he, ⟨w'', x.grown.trans hg⟩, rfl⟩

/-- the parser in block P -/
structure PrIn (w : World) (P : Nat) (s : ByteArray) (k : Tk) (dp en ea : Int) : Prop where
  c0 : w.cell? ⟨P, 0, none⟩ = some (.string s)
  c1 : w.cell? ⟨P, 1, none⟩ = some (.int .i64 k.kind)
  c2 : w.cell? ⟨P, 2, none⟩ = some (.string k.text)
  c3 : w.cell? ⟨P, 3, none⟩ = some (.int .i64 k.at')
  c4 : w.cell? ⟨P, 4, none⟩ = some (.int .i64 dp)
  c5 : w.cell? ⟨P, 5, none⟩ = some (.int .i64 en)
  c6 : w.cell? ⟨P, 6, none⟩ = some (.int .i64 ea)
  fr : ∀ j, w.frozen? ⟨P, j, none⟩ = false

variable {w : World} {P : Nat} {s : ByteArray} {k : Tk} {dp en ea : Int}

theorem PrIn.lt (h : PrIn w P s k dp en ea) : P < w.heap.size := World.block_lt_of_cell? w _ h.c0

theorem PrIn.grow (h : PrIn w P s k dp en ea) {w' : World} (hg : w.grownBy w' none) : PrIn w' P s k dp en ea := by
  have hb : w'.heap[P]? = w.heap[P]? := hg.block P h.lt (by simp)
  have hc : ∀ j, w'.cell? ⟨P, j, none⟩ = w.cell? ⟨P, j, none⟩ := fun j => World.cell?_of_block hb
  exact ⟨by rw [hc]; exact h.c0, by rw [hc]; exact h.c1, by rw [hc]; exact h.c2, by rw [hc]; exact h.c3, by rw [hc]; exact h.c4, by rw [hc]; exact h.c5, by rw [hc]; exact h.c6,
    fun j => (World.frozen?_of_block hb).trans (h.fr j)⟩

theorem PrIn.set (h : PrIn w P s k dp en ea) (j : Nat) (v : Value) (k' : Tk) (dp' en' ea' : Int) (h0 : ¬ j = 0)
    (h1 : (if j = 1 then v else .int .i64 k.kind) = .int .i64 k'.kind) (h2 : (if j = 2 then v else .string k.text) = .string k'.text) (h3 : (if j = 3 then v else .int .i64 k.at') = .int .i64 k'.at')
    (h4 : (if j = 4 then v else .int .i64 dp) = .int .i64 dp') (h5 : (if j = 5 then v else .int .i64 en) = .int .i64 en') (h6 : (if j = 6 then v else .int .i64 ea) = .int .i64 ea') :
    PrIn (w.setCell ⟨P, j, none⟩ v) P s k' dp' en' ea' := by
  have key : ∀ i u, w.cell? ⟨P, i, none⟩ = some u → (w.setCell ⟨P, j, none⟩ v).cell? ⟨P, i, none⟩ = some (if j = i then v else u) := fun i u hu => by
    by_cases e : j = i
    · subst e
      rw [if_pos rfl]
      exact World.cell?_setCell_same _ _ _ hu
    · rw [if_neg e, World.cell?_setCell_other _ _ _ _ (by intro h; cases h; exact e rfl)]
      exact hu
  exact ⟨by rw [key 0 _ h.c0, if_neg h0], by rw [key 1 _ h.c1, h1], by rw [key 2 _ h.c2, h2], by rw [key 3 _ h.c3, h3], by rw [key 4 _ h.c4, h4], by rw [key 5 _ h.c5, h5], by rw [key 6 _ h.c6, h6], fun i => by rw [World.frozen?_setCell]; exact h.fr i⟩

theorem PrIn.far (h : PrIn w P s k dp en ea) {w' : World} {g : Nat} (hg : w.grownBy w' (some g)) (hne : P ≠ g) : PrIn w' P s k dp en ea := by
  have hb : w'.heap[P]? = w.heap[P]? := hg.block P h.lt (by simpa using hne)
  have hc : ∀ j, w'.cell? ⟨P, j, none⟩ = w.cell? ⟨P, j, none⟩ := fun j => World.cell?_of_block hb
  exact ⟨by rw [hc]; exact h.c0, by rw [hc]; exact h.c1, by rw [hc]; exact h.c2, by rw [hc]; exact h.c3, by rw [hc]; exact h.c4, by rw [hc]; exact h.c5, by rw [hc]; exact h.c6,
    fun j => (World.frozen?_of_block hb).trans (h.fr j)⟩

theorem grown_new {w x : World} {r : Option Nat} (h : w.grownBy x r) {g : Nat} (hg : w.heap.size ≤ g) (j : Nat) (v : Value) : w.grownBy (x.setCell ⟨g, j, none⟩ v) r :=
  h.andThen (grown_set x g j v) (fun j e => by cases e; exact Or.inl hg)

theorem grown_own {w x : World} {P : Nat} (h : w.grownBy x (some P)) (j : Nat) (v : Value) : w.grownBy (x.setCell ⟨P, j, none⟩ v) (some P) := h.trans (grown_set x P j v)

theorem set3 (w : World) (g : Nat) (T : TypeId) (a0 a1 a2 v0 v1 v2 : Value) (h : w.heap[g]? = some (.cells #[a0, a1, a2] T)) :
    (((w.setCell ⟨g, 0, none⟩ v0).setCell ⟨g, 1, none⟩ v1).setCell ⟨g, 2, none⟩ v2).heap[g]? = some (.cells #[v0, v1, v2] T) := by
  have h0 : (w.setCell ⟨g, 0, none⟩ v0).heap[g]? = some (.cells #[v0, a1, a2] T) := heap_setCell_same _ _ _ _ _ _ h
  have h1 : ((w.setCell ⟨g, 0, none⟩ v0).setCell ⟨g, 1, none⟩ v1).heap[g]? = some (.cells #[v0, v1, a2] T) := heap_setCell_same _ _ _ _ _ _ h0
  exact heap_setCell_same _ _ _ _ _ _ h1

theorem next_results (tmps : Array Value) (w : World) (g : Nat) (k : Tk) (h2 : tmps[2]? = some (.pointer (some ⟨g, 0, none⟩))) (h : w.heap[g]? = some (.cells #[.int .i64 k.kind, .string k.text, .int .i64 k.at'] 249)) :
    (results Tryz.f236 tmps).run Tryz.prog w = .ok (tkV k) w := by
  have q0 : w.cell? ⟨g, 0, none⟩ = some (.int .i64 k.kind) := cell_at h
  have q1 : w.cell? ⟨g, 1, none⟩ = some (.string k.text) := cell_at h
  have q2 : w.cell? ⟨g, 2, none⟩ = some (.int .i64 k.at') := cell_at h
  simp [results, Tryz.results236, go_sem, h2, q0, q1, q2, tkV]

theorem is_any (h : PrIn w P s k dp en ea) (t : ByteArray) : Calls Tryz.prog 242 #[.pointer (some ⟨P, 0, none⟩), .string t] w fun e w' => e = .returned (.bool (k.text.toList == t.toList)) ∧ w' = w := by
  have c2 := h.c2
  clear h
  go_enter Tryz.func242, Tryz.ntmps242
  go_wp2
  go_ret
  exact ⟨rfl, rfl⟩

set_option maxRecDepth 100000 in
set_option maxHeartbeats 1000000 in
theorem next_any (h : PrIn w P s k dp en ea) (i : Nat) (hi : k.at' = i) (hb : i + k.text.size ≤ s.size) (hs : s.size ≤ 4000) :
    Calls Tryz.prog 236 #[.pointer (some ⟨P, 0, none⟩)] w fun e w' => e = .returned (tkV k) ∧ PrIn w' P s (Hx.scan s (i + k.text.size)) dp en ea ∧ w.grownBy w' (some P) := by
  have c0 := h.c0
  have c1 := h.c1
  have c2 := h.c2
  have c3 := h.c3
  have hL := h.lt
  rw [hi] at c3
  have n1 : ¬ P = w.heap.size := by omega
  have n2 : ¬ P = w.heap.size + 1 := by omega
  have HS : Hid (∀ w, Calls Tryz.prog 140 #[.string s, .int .i64 ((i + k.text.size : Nat) : Int)] w fun e w' => e = .returned (tkV (Hx.scan s (i + k.text.size))) ∧ w.grownBy w' none) := fun w => scan_any s _ w hs hb
  obtain ⟨y, hy⟩ : ∃ y, i + k.text.size = y := ⟨_, rfl⟩
  have hyI : (i : Int) + (k.text.size : Int) = (y : Int) := by omega
  rw [hy] at HS ⊢
  have hgW : w.grownBy ((w.alloc (.cells #[.int .i64 0, .string ⟨#[]⟩, .int .i64 0] 249)).alloc (.cells #[.int .i64 k.kind, .string k.text, .int .i64 i] 249)) none := (World.grownBy_alloc w _ none).trans (World.grownBy_alloc _ _ none)
  have hbox : ((w.alloc (.cells #[.int .i64 0, .string ⟨#[]⟩, .int .i64 0] 249)).alloc (.cells #[.int .i64 k.kind, .string k.text, .int .i64 i] 249)).heap[w.heap.size + 1]? = some (.cells #[.int .i64 k.kind, .string k.text, .int .i64 i] 249) := (heap_two_new w _ _).1
  have hres : ((w.alloc (.cells #[.int .i64 0, .string ⟨#[]⟩, .int .i64 0] 249)).alloc (.cells #[.int .i64 k.kind, .string k.text, .int .i64 i] 249)).heap[w.heap.size]? = some (.cells #[.int .i64 0, .string ⟨#[]⟩, .int .i64 0] 249) := (heap_two_new w _ _).2
  have e0 : ∀ x : Ext ((w.alloc (.cells #[.int .i64 0, .string ⟨#[]⟩, .int .i64 0] 249)).alloc (.cells #[.int .i64 k.kind, .string k.text, .int .i64 i] 249)), x.val.cell? ⟨P, 0, none⟩ = some (.string s) := fun x => (h.grow (hgW.trans x.grown)).c0
  have e1 : ∀ x : Ext ((w.alloc (.cells #[.int .i64 0, .string ⟨#[]⟩, .int .i64 0] 249)).alloc (.cells #[.int .i64 k.kind, .string k.text, .int .i64 i] 249)), x.val.cell? ⟨w.heap.size + 1, 1, none⟩ = some (.string k.text) := fun x => cell_at ((x.grown.block _ (lt_of_some hbox) (by simp)).trans hbox)
  have e2 : ∀ x : Ext ((w.alloc (.cells #[.int .i64 0, .string ⟨#[]⟩, .int .i64 0] 249)).alloc (.cells #[.int .i64 k.kind, .string k.text, .int .i64 i] 249)), x.val.cell? ⟨w.heap.size + 1, 2, none⟩ = some (.int .i64 i) := fun x => cell_at ((x.grown.block _ (lt_of_some hbox) (by simp)).trans hbox)
  have HW : Hid (∀ w', ((w.alloc (.cells #[.int .i64 0, .string ⟨#[]⟩, .int .i64 0] 249)).alloc (.cells #[.int .i64 k.kind, .string k.text, .int .i64 i] 249)).grownBy w' none → PrIn w' P s k dp en ea ∧ w.grownBy w' none ∧ w'.heap[w.heap.size + 1]? = some (.cells #[.int .i64 k.kind, .string k.text, .int .i64 i] 249) ∧ w'.heap[w.heap.size]? = some (.cells #[.int .i64 0, .string ⟨#[]⟩, .int .i64 0] 249)) := fun w' hg =>
    ⟨h.grow (hgW.trans hg), hgW.trans hg, (hg.block _ (lt_of_some hbox) (by simp)).trans hbox, (hg.block _ (lt_of_some hres) (by simp)).trans hres⟩
  clear hgW hbox hres h
  go_enter Tryz.func236, Tryz.ntmps236
  go_wp2_with fail
  have hne := ext_some ((w.alloc (.cells #[.int .i64 0, .string ⟨#[]⟩, .int .i64 0] 249)).alloc (.cells #[.int .i64 k.kind, .string k.text, .int .i64 i] 249))
  refine wp_ext_tail 14 (by kernel_rfl) (by kernel_rfl) ?_
  simp only [List.take_succ_cons, List.take_zero, List.drop_succ_cons, List.drop_zero]
  repeat (go_big_quiet_step ((go_at_call 140; exact Calls.ext_of (HS.out _))))
  refine wpQuiet_nil ?_
  intro w' hg
  obtain ⟨hp, hg2, hbx, hrs⟩ := HW.out w' hg
  have f0 := hp.c0
  have f1 := hp.c1
  have f2 := hp.c2
  have f3 := hp.c3
  have ff := hp.fr
  have q0 : w'.cell? ⟨w.heap.size + 1, 0, none⟩ = some (.int .i64 k.kind) := cell_at hbx
  have q1 : w'.cell? ⟨w.heap.size + 1, 1, none⟩ = some (.string k.text) := cell_at hbx
  have q2 : w'.cell? ⟨w.heap.size + 1, 2, none⟩ = some (.int .i64 i) := cell_at hbx
  have r0 : w'.cell? ⟨w.heap.size, 0, none⟩ = some (.int .i64 0) := cell_at hrs
  have r1 : w'.cell? ⟨w.heap.size, 1, none⟩ = some (.string ⟨#[]⟩) := cell_at hrs
  have r2 : w'.cell? ⟨w.heap.size, 2, none⟩ = some (.int .i64 0) := cell_at hrs
  have rf : ∀ j, w'.frozen? ⟨w.heap.size, j, none⟩ = false := fun j => frozen_at hrs
  have n3 : ¬ w.heap.size + 1 = P := by omega
  have n4 : ¬ w.heap.size = P := by omega
  have HX : Hid (∀ k' : Tk, PrIn ((((((w'.setCell ⟨P, 1, none⟩ (.int .i64 k'.kind)).setCell ⟨P, 2, none⟩ (.string k'.text)).setCell ⟨P, 3, none⟩ (.int .i64 k'.at')).setCell ⟨w.heap.size, 0, none⟩ (.int .i64 k.kind)).setCell ⟨w.heap.size, 1, none⟩ (.string k.text)).setCell ⟨w.heap.size, 2, none⟩ (.int .i64 i)) P s k' dp en ea ∧
      w.grownBy ((((((w'.setCell ⟨P, 1, none⟩ (.int .i64 k'.kind)).setCell ⟨P, 2, none⟩ (.string k'.text)).setCell ⟨P, 3, none⟩ (.int .i64 k'.at')).setCell ⟨w.heap.size, 0, none⟩ (.int .i64 k.kind)).setCell ⟨w.heap.size, 1, none⟩ (.string k.text)).setCell ⟨w.heap.size, 2, none⟩ (.int .i64 i)) (some P) ∧
      ((((((w'.setCell ⟨P, 1, none⟩ (.int .i64 k'.kind)).setCell ⟨P, 2, none⟩ (.string k'.text)).setCell ⟨P, 3, none⟩ (.int .i64 k'.at')).setCell ⟨w.heap.size, 0, none⟩ (.int .i64 k.kind)).setCell ⟨w.heap.size, 1, none⟩ (.string k.text)).setCell ⟨w.heap.size, 2, none⟩ (.int .i64 i)).heap[w.heap.size]? = some (.cells #[.int .i64 k.kind, .string k.text, .int .i64 k.at'] 249)) := fun k' => by
    have a1 := hp.set 1 (.int .i64 k'.kind) ⟨k'.kind, k.text, k.at'⟩ dp en ea (by omega) rfl rfl rfl rfl rfl rfl
    have a2 := a1.set 2 (.string k'.text) ⟨k'.kind, k'.text, k.at'⟩ dp en ea (by omega) rfl rfl rfl rfl rfl rfl
    have a3 := a2.set 3 (.int .i64 k'.at') k' dp en ea (by omega) rfl rfl rfl rfl rfl rfl
    refine ⟨((a3.far (grown_set _ _ _ _) n1).far (grown_set _ _ _ _) n1).far (grown_set _ _ _ _) n1, ?_, ?_⟩
    · exact grown_new (grown_new (grown_new (grown_own (grown_own (grown_own (hg2.but _) _ _) _ _) _ _) (Nat.le_refl _) _ _) (Nat.le_refl _) _ _) (Nat.le_refl _) _ _
    · rw [hi]
      refine set3 _ _ _ (.int .i64 0) (.string ⟨#[]⟩) (.int .i64 0) _ _ _ ?_
      rw [Below.heap_setCell _ _ _ _ n4, Below.heap_setCell _ _ _ _ n4, Below.heap_setCell _ _ _ _ n4]
      exact hrs
  clear HW hg hbx hrs e0 e1 e2 c0 c1 c2 c3 HS
  generalize hk' : Hx.scan s y = k' at *
  unfold tkV
  go_wp2_with fail
  obtain ⟨x1, x2, x3⟩ := HX.out k'
  refine bodyPost_ret (next_results _ _ w.heap.size k rfl x3) rfl ?_
  exact ⟨rfl, by rw [hk']; exact x1, x2⟩
end Go.Proofs.YthllhabjfchgiaaGreatDoor
