import Derived.Test.YthllhabjfchgiaaGreatDoorHy01
import Derived.WalkKit
import Derived.WalkSpells
import Derived.WalkLawsBesides
import Derived.Deep.QuietTactic
import Derived.BigQuiet
import Derived.Deep.CutBlock
import Derived.Deep.DeepCutAuto
import Derived.Test.YthllhabjfchgiaaGreatDoorShelf
/- Package lang: tokens. -/
namespace Go.Proofs.YthllhabjfchgiaaGreatDoor.Hx
open Go.RowKit

def isLet (c : Int) : Bool := decide (97 ≤ c) && decide (c ≤ 122)
def isDig (c : Int) : Bool := decide (48 ≤ c) && decide (c ≤ 57)
def isBlank (c : Int) : Bool := c == 32 || c == 10
def isAlnum (c : Int) : Bool := isLet c || isDig c

/-- how many bytes at the beginning are such -/
def span (p : Int → Bool) (l : List UInt8) : Nat := (l.takeWhile fun c => p c.toNat).length

theorem span_nil (p : Int → Bool) (l : List UInt8) (k : Nat) (h : l.length ≤ k) : span p (l.drop k) = 0 := by
  rw [List.drop_of_length_le h]; rfl

theorem span_yes (p : Int → Bool) (l : List UInt8) (k : Nat) (h : k < l.length) (hp : p (l[k]'h).toNat = true) : span p (l.drop k) = 1 + span p (l.drop (k + 1)) := by
  unfold span
  rw [List.drop_eq_getElem_cons h, List.takeWhile_cons_of_pos (by exact hp), List.length_cons]
  omega

theorem span_no (p : Int → Bool) (l : List UInt8) (k : Nat) (h : k < l.length) (hp : p (l[k]'h).toNat = false) : span p (l.drop k) = 0 := by
  unfold span
  rw [List.drop_eq_getElem_cons h, List.takeWhile_cons_of_neg (by rw [hp]; simp)]
  rfl

/-- beginNumber, by how many digits there are -/
def numberOf (n : Nat) : Int × Int := if 18 < n then (0, 0) else (3, n)
def beginNumber (t : ByteArray) : Int × Int := numberOf (1 + span isDig (t.data.toList.drop 1))

def isWord (u : List UInt8) : Bool := u == [105, 102] || u == [101, 108, 115, 101] || u == [101, 97, 99, 104] || u == [105, 110] || u == [112, 117, 115, 104] || u == [118, 97, 114] || u == [114, 101, 116, 117, 114, 110] || u == [116, 114, 117, 101] || u == [102, 97, 108, 115, 101] || u == [105, 115, 110, 111, 110, 101]
def wordOf (t : ByteArray) (n : Nat) : Int × Int := if 12 < n then (0, 0) else if isWord (t.extract 0 n).toList then (5, n) else (2, n)
def beginWord (t : ByteArray) : Int × Int := wordOf t (1 + span isAlnum (t.data.toList.drop 1))

theorem span_le (p : Int → Bool) (l : List UInt8) : span p l ≤ l.length := List.Sublist.length_le (List.takeWhile_sublist _)
end Go.Proofs.YthllhabjfchgiaaGreatDoor.Hx

namespace Go.Proofs.YthllhabjfchgiaaGreatDoor
open Go.RowKit

theorem isLetter_any (c : Int) (w : World) : Calls Tryz.prog 214 #[.int .u8 c] w fun e w' => e = .returned (.bool (Hx.isLet c)) ∧ w' = w := by
  by_cases h : 97 ≤ c
  · have d1 : decide (97 ≤ c) = true := by simpa using h
    go_enter Tryz.func214, Tryz.ntmps214
    go_wp2
    go_ret
    exact ⟨ret_bool (by simp only [Hx.isLet, d1]; simp), rfl⟩
  · have d1 : decide (97 ≤ c) = false := by simpa using h
    go_enter Tryz.func214, Tryz.ntmps214
    go_wp2
    go_ret
    exact ⟨ret_bool (by simp only [Hx.isLet, d1]; simp), rfl⟩

theorem isDigit_any (c : Int) (w : World) : Calls Tryz.prog 216 #[.int .u8 c] w fun e w' => e = .returned (.bool (Hx.isDig c)) ∧ w' = w := by
  by_cases h : 48 ≤ c
  · have d1 : decide (48 ≤ c) = true := by simpa using h
    go_enter Tryz.func216, Tryz.ntmps216
    go_wp2
    go_ret
    exact ⟨ret_bool (by simp only [Hx.isDig, d1]; simp), rfl⟩
  · have d1 : decide (48 ≤ c) = false := by simpa using h
    go_enter Tryz.func216, Tryz.ntmps216
    go_wp2
    go_ret
    exact ⟨ret_bool (by simp only [Hx.isDig, d1]; simp), rfl⟩


/-- a loop that counts bytes: where it stands -/
structure Spans (p : Int → Bool) (t : ByteArray) (n k : Nat) : Prop where
  eq : k + Hx.span p (t.data.toList.drop k) = n

theorem Spans.yes {p : Int → Bool} {t : ByteArray} {n k : Nat} (h : Spans p t n k) (hk : k < t.size) (hp : p (t[k]'hk).toNat = true) : Spans p t n (k + 1) := by
  have := Hx.span_yes p t.data.toList k (by simpa using hk) hp
  exact ⟨by have := h.eq; omega⟩

theorem Spans.no {p : Int → Bool} {t : ByteArray} {n k : Nat} (h : Spans p t n k) (hk : k < t.size) (hp : p (t[k]'hk).toNat = false) : n = k := by
  have := Hx.span_no p t.data.toList k (by simpa using hk) hp
  have := h.eq
  omega

theorem Spans.off {p : Int → Bool} {t : ByteArray} {n k : Nat} (h : Spans p t n k) (hk : t.size ≤ k) : n = k := by
  have := Hx.span_nil p t.data.toList k (by simpa using hk)
  have := h.eq
  omega

theorem spans_first (p : Int → Bool) (t : ByteArray) (k : Nat) (hk : k ≤ t.size) : ∃ n, k + Hx.span p (t.data.toList.drop k) = n ∧ n ≤ t.size ∧ Spans p t n k := by
  refine ⟨_, rfl, ?_, ⟨rfl⟩⟩
  have := Hx.span_le p (t.data.toList.drop k)
  rw [List.length_drop] at this
  have h2 : t.data.toList.length = t.size := by simp
  omega

set_option maxRecDepth 100000 in
set_option maxHeartbeats 1000000 in
theorem beginNumber_any (t : ByteArray) (w : World) (ht : t.size ≤ 4000) (h1 : 1 ≤ t.size) :
    Calls Tryz.prog 217 #[.string t] w fun e w' => e = .returned (.tuple #[.int .i64 (Hx.beginNumber t).1, .int .i64 (Hx.beginNumber t).2]) ∧ w' = w := by
  unfold Hx.beginNumber
  obtain ⟨n, hn, hnb, HN⟩ := spans_first Hx.isDig t 1 h1
  rw [hn]
  clear hn
  generalize hr : Hx.numberOf n = r
  have HR : Hid (Hx.numberOf n = r) := hr
  clear hr
  go_enter Tryz.func217, Tryz.ntmps217
  go_wp2
  go_loop [4] (fun i => ∃ k : Nat, 1 ≤ k ∧ k ≤ t.size ∧ i = .int .i64 k ∧ Spans Hx.isDig t n k) (fun i => t.size - (intOf i).toNat)
  case atStart => exact ⟨1, by omega, by omega, rfl, HN⟩
  case round =>
    obtain ⟨k, hk1, hk, rfl, HK⟩ := hrel
    clear HN
    by_cases hlt : k < t.size
    · have i0 : (0 : Int) ≤ (k : Int) := by omega
      have i1 : (k : Int) < (t.size : Int) := by omega
      cases hd : Hx.isDig t[k].toNat with
      | true =>
        have HE := HK.yes hlt hd
        clear HK
        go_wp2_with (go_at_call 216; refine (isDigit_any _ _).mono ?_; rintro e w' ⟨rfl, rfl⟩; rw [hd])
        refine ⟨⟨k + 1, by omega, by omega, by go_num, HE⟩, ?_⟩
        simp [intOf]; omega
      | false =>
        have h5 := HK.no hlt hd
        subst h5
        clear HK
        by_cases h18 : 18 < n
        · have d2 : decide ((18 : Int) < (n : Int)) = true := by simp; omega
          have e : r = (0, 0) := by rw [← HR.out, Hx.numberOf, if_pos h18]
          subst e
          go_wp2_with (go_at_call 216; refine (isDigit_any _ _).mono ?_; rintro e w' ⟨rfl, rfl⟩; rw [hd])
          go_ret2
          exact ⟨rfl, rfl⟩
        · have d2 : decide ((18 : Int) < (n : Int)) = false := by simp; omega
          have e : r = (3, (n : Int)) := by rw [← HR.out, Hx.numberOf, if_neg h18]
          subst e
          go_wp2_with (go_at_call 216; refine (isDigit_any _ _).mono ?_; rintro e w' ⟨rfl, rfl⟩; rw [hd])
          go_ret2
          exact ⟨rfl, rfl⟩
    · have h5 := HK.off (by omega)
      have i1 : decide ((k : Int) < (t.size : Int)) = false := by simp; omega
      subst h5
      clear HK
      by_cases h18 : 18 < n
      · have d2 : decide ((18 : Int) < (n : Int)) = true := by simp; omega
        have e : r = (0, 0) := by rw [← HR.out, Hx.numberOf, if_pos h18]
        subst e
        go_wp2
        go_ret2
        exact ⟨rfl, rfl⟩
      · have d2 : decide ((18 : Int) < (n : Int)) = false := by simp; omega
        have e : r = (3, (n : Int)) := by rw [← HR.out, Hx.numberOf, if_neg h18]
        subst e
        go_wp2
        go_ret2
        exact ⟨rfl, rfl⟩

set_option maxRecDepth 100000 in
set_option maxHeartbeats 2000000 in
theorem beginWord_any (t : ByteArray) (w : World) (ht : t.size ≤ 4000) (h1 : 1 ≤ t.size) :
    Calls Tryz.prog 215 #[.string t] w fun e w' => e = .returned (.tuple #[.int .i64 (Hx.beginWord t).1, .int .i64 (Hx.beginWord t).2]) ∧ w' = w := by
  unfold Hx.beginWord
  obtain ⟨n, hn, hnb, HN⟩ := spans_first Hx.isAlnum t 1 h1
  rw [hn]
  clear hn
  generalize hr : Hx.wordOf t n = r
  have HR : Hid (Hx.wordOf t n = r) := hr
  clear hr
  go_enter Tryz.func215, Tryz.ntmps215
  go_upto_block 0 with fail
  go_cut [4] (fun i wx => w = wx ∧ i = .int .i64 n)
  case first =>
    go_wp2_with fail
    go_loop [4] (fun i => ∃ k : Nat, 1 ≤ k ∧ k ≤ t.size ∧ i = .int .i64 k ∧ Spans Hx.isAlnum t n k) (fun i => t.size - (intOf i).toNat)
    case atStart => exact ⟨1, by omega, by omega, rfl, HN⟩
    case round =>
      obtain ⟨k, hk1, hk, rfl, HK⟩ := hrel
      clear HN
      by_cases hlt : k < t.size
      · have i0 : (0 : Int) ≤ (k : Int) := by omega
        have i1 : (k : Int) < (t.size : Int) := by omega
        cases hl : Hx.isLet t[k].toNat with
        | true =>
          have HE := HK.yes hlt (by simp [Hx.isAlnum, hl])
          clear HK
          go_wp2_with (go_at_call 214; refine (isLetter_any _ _).mono ?_; rintro e w' ⟨rfl, rfl⟩; rw [hl])
          refine ⟨⟨k + 1, by omega, by omega, by go_num, HE⟩, ?_⟩
          simp [intOf]; omega
        | false =>
          cases hd : Hx.isDig t[k].toNat with
          | true =>
            have HE := HK.yes hlt (by simp [Hx.isAlnum, hl, hd])
            clear HK
            go_wp2_with (first | (go_at_call 214; refine (isLetter_any _ _).mono ?_; rintro e w' ⟨rfl, rfl⟩; rw [hl]) | (go_at_call 216; refine (isDigit_any _ _).mono ?_; rintro e w' ⟨rfl, rfl⟩; rw [hd]))
            refine ⟨⟨k + 1, by omega, by omega, by go_num, HE⟩, ?_⟩
            simp [intOf]; omega
          | false =>
            have h5 := HK.no hlt (by simp [Hx.isAlnum, hl, hd])
            subst h5
            clear HK
            go_wp2_with (first | (go_at_call 214; refine (isLetter_any _ _).mono ?_; rintro e w' ⟨rfl, rfl⟩; rw [hl]) | (go_at_call 216; refine (isDigit_any _ _).mono ?_; rintro e w' ⟨rfl, rfl⟩; rw [hd]))
            go_meet
            exact ⟨rfl, rfl⟩
      · have h5 := HK.off (by omega)
        have i1 : decide ((k : Int) < (t.size : Int)) = false := by simp; omega
        subst h5
        clear HK
        go_wp2
        go_meet
        exact ⟨rfl, rfl⟩
  case rest =>
    obtain ⟨rfl, rfl⟩ := hcut
    by_cases h12 : 12 < n
    · have d2 : decide ((12 : Int) < (n : Int)) = true := by simp; omega
      have e : r = (0, 0) := by rw [← HR.out, Hx.wordOf, if_pos h12]
      subst e
      go_wp2
      go_ret2
      exact ⟨rfl, rfl⟩
    · have d2 : decide ((12 : Int) < (n : Int)) = false := by simp; omega
      have i1 : (n : Int) ≤ (t.size : Int) := by omega
      have i2 : (0 : Int) ≤ (n : Int) := by omega
      have HW : Hid (∀ b, Hx.isWord (t.extract 0 n).toList = b → r = if b then (5, (n : Int)) else (2, (n : Int))) := fun b hb => by
        rw [← HR.out, Hx.wordOf, if_neg h12, hb]
      clear HR HN
      go_wp2
      all_goals first
        | (rename_i a b; exact absurd (a.symm.trans b) (by decide))
        | (have e := HW.out true (by simp only [Hx.isWord, *, Bool.or_true, Bool.true_or])
           rw [if_pos rfl] at e
           subst e
           go_ret2
           exact ⟨rfl, rfl⟩)
        | (have e := HW.out false (by simp only [Hx.isWord, *, Bool.or_false])
           rw [if_neg (by decide)] at e
           subst e
           go_ret2
           exact ⟨rfl, rfl⟩)

def Hx.isSet (u : List UInt8) : Bool := u == [82, 79, 65, 68, 83] || u == [70, 82, 69, 83, 72] || u == [65, 71, 65, 73, 78]
def Hx.isReg (x y : Int) : Bool := x == 82 && decide (48 ≤ y) && decide (y ≤ 55)
def Hx.beginCapital (t : ByteArray) : Int × Int :=
  if decide (1 < t.size) && Hx.isReg (t.data.toList.getD 0 0).toNat (t.data.toList.getD 1 0).toNat then (4, 2)
  else if t.size < 5 then (0, 0) else if Hx.isSet (t.extract 0 5).toList then (5, 5) else (0, 0)

theorem getD_byte (t : ByteArray) (k : Nat) (h : k < t.size) : t.data.toList.getD k 0 = t[k] := by
  have : k < t.data.toList.length := by simpa using h
  rw [List.getD_eq_getElem?_getD, List.getElem?_eq_getElem this]
  rfl

set_option maxRecDepth 100000 in
set_option maxHeartbeats 2000000 in
theorem beginCapital_any (t : ByteArray) (w : World) (ht : t.size ≤ 4000) (h1 : 1 ≤ t.size) :
    Calls Tryz.prog 218 #[.string t] w fun e w' => e = .returned (.tuple #[.int .i64 (Hx.beginCapital t).1, .int .i64 (Hx.beginCapital t).2]) ∧ w' = w := by
  generalize hr : Hx.beginCapital t = r
  have i0 : (0 : Int) < (t.size : Int) := by omega
  by_cases h2 : 1 < t.size
  · have i1 : (1 : Int) < (t.size : Int) := by omega
    have e0 := getD_byte t 0 (by omega)
    have e1 := getD_byte t 1 h2
    unfold Hx.beginCapital at hr
    rw [e0, e1, decide_eq_true h2, Bool.true_and] at hr
    have HR : Hid ((if Hx.isReg t[0].toNat t[1].toNat = true then ((4 : Int), (2 : Int)) else if t.size < 5 then (0, 0) else if Hx.isSet (t.extract 0 5).toList = true then (5, 5) else (0, 0)) = r) := hr
    clear hr e0 e1
    cases hg : Hx.isReg t[0].toNat t[1].toNat with
    | true =>
      have e : r = (4, 2) := by rw [← HR.out, if_pos hg]
      subst e
      simp only [Hx.isReg, Bool.and_eq_true] at hg
      obtain ⟨⟨g1, g2⟩, g3⟩ := hg
      clear HR
      go_enter Tryz.func218, Tryz.ntmps218
      go_wp2
      go_ret2
      exact ⟨rfl, rfl⟩
    | false =>
      have HG : Hid (Hx.isReg t[0].toNat t[1].toNat = false) := hg
      have HQ : Hid ((if t.size < 5 then ((0 : Int), (0 : Int)) else if Hx.isSet (t.extract 0 5).toList = true then (5, 5) else (0, 0)) = r) := by
        have h9 := HR.out
        rw [if_neg (show ¬ Hx.isReg t[0].toNat t[1].toNat = true by rw [hg]; decide)] at h9
        exact h9
      clear HR hg
      by_cases h5 : t.size < 5
      · have d5 : decide ((t.size : Int) < 5) = true := by simp; omega
        have e : r = (0, 0) := by rw [← HQ.out, if_pos h5]
        subst e
        go_enter Tryz.func218, Tryz.ntmps218
        go_wp2
        all_goals first
          | (go_ret2; exact ⟨rfl, rfl⟩)
          | (exfalso; have := HG.out; simp only [Hx.isReg, *] at this; exact absurd this (by decide))
      · have d5 : decide ((t.size : Int) < 5) = false := by simp; omega
        have i5 : (5 : Int) ≤ (t.size : Int) := by omega
        have HW : Hid (∀ b, Hx.isSet (t.extract 0 5).toList = b → r = if b then (5, 5) else (0, 0)) := fun b hb => by
          rw [← HQ.out, if_neg h5, hb]
        clear HQ
        go_enter Tryz.func218, Tryz.ntmps218
        go_wp2
        all_goals first
          | (rename_i a b; exact absurd (a.symm.trans b) (by decide))
          | (rename_i a b _; exact absurd (a.symm.trans b) (by decide))
          | (exfalso; have := HG.out; simp only [Hx.isReg, *] at this; exact absurd this (by decide))
          | (have e := HW.out true (by simp only [Hx.isSet, *, Bool.or_true, Bool.true_or])
             rw [if_pos rfl] at e
             subst e
             go_ret2
             exact ⟨rfl, rfl⟩)
          | (have e := HW.out false (by simp only [Hx.isSet, *, Bool.or_false])
             rw [if_neg (by decide)] at e
             subst e
             go_ret2
             exact ⟨rfl, rfl⟩)
  · have hs : t.size = 1 := by omega
    have i1 : decide ((1 : Int) < (t.size : Int)) = false := by simp; omega
    have d5 : decide ((t.size : Int) < 5) = true := by simp; omega
    have e : r = (0, 0) := by
      rw [← hr]; simp [Hx.beginCapital, hs]
    subst e
    clear hr
    go_enter Tryz.func218, Tryz.ntmps218
    go_wp2
    go_ret2
    exact ⟨rfl, rfl⟩
end Go.Proofs.YthllhabjfchgiaaGreatDoor

/- Package lang: scan. -/
namespace Go.Proofs.YthllhabjfchgiaaGreatDoor.Hx
open Go.RowKit

def isTwo (u : List UInt8) : Bool := u == [60, 61] || u == [62, 61] || u == [61, 61] || u == [33, 61] || u == [38, 38] || u == [124, 124]
def isOne (c : UInt8) : Bool := decide (0 ≤ Lib.indexByte [40, 41, 123, 125, 44, 59, 58, 46, 43, 45, 42, 47, 37, 60, 62, 61, 33] c)
def beginSign (t : ByteArray) : Int × Int :=
  if decide (1 < t.size) && isTwo (t.extract 0 2).toList then (5, 2) else if isOne (t.data.toList.getD 0 0) then (5, 1) else (0, 0)

def begins' (t : ByteArray) (x : Int) : Int × Int :=
  if isLet x then beginWord t else if isDig x then beginNumber t else if decide (65 ≤ x) && decide (x ≤ 90) then beginCapital t else beginSign t
def begin' (t : ByteArray) : Int × Int := begins' t (t.data.toList.getD 0 0).toNat

structure Tk where
  kind : Int
  text : ByteArray
  at' : Int

def scanAt (s : ByteArray) (k : Nat) : Tk :=
  if k = s.size then ⟨1, ⟨#[]⟩, k⟩ else ⟨(begin' (s.extract k s.size)).1, s.extract k (k + (begin' (s.extract k s.size)).2.toNat), k⟩
def scan (s : ByteArray) (from' : Nat) : Tk := scanAt s (from' + span isBlank (s.data.toList.drop from'))

theorem beginWord_size (t : ByteArray) (h : 1 ≤ t.size) : 0 ≤ (beginWord t).2 ∧ (beginWord t).2 ≤ t.size := by
  obtain ⟨n, hn, hnb, _⟩ := spans_first isAlnum t 1 h
  unfold beginWord
  rw [hn]
  unfold wordOf
  repeat' split
  all_goals simp only
  all_goals omega

theorem beginNumber_size (t : ByteArray) (h : 1 ≤ t.size) : 0 ≤ (beginNumber t).2 ∧ (beginNumber t).2 ≤ t.size := by
  obtain ⟨n, hn, hnb, _⟩ := spans_first isDig t 1 h
  unfold beginNumber
  rw [hn]
  unfold numberOf
  repeat' split
  all_goals simp only
  all_goals omega

theorem beginCapital_size (t : ByteArray) : 0 ≤ (beginCapital t).2 ∧ (beginCapital t).2 ≤ t.size := by
  unfold beginCapital
  split
  · rename_i h
    simp only [Bool.and_eq_true, decide_eq_true_eq] at h
    simp only
    omega
  · repeat' split
    all_goals simp only
    all_goals omega

theorem beginSign_size (t : ByteArray) (h : 1 ≤ t.size) : 0 ≤ (beginSign t).2 ∧ (beginSign t).2 ≤ t.size := by
  unfold beginSign
  split
  · rename_i h
    simp only [Bool.and_eq_true, decide_eq_true_eq] at h
    simp only
    omega
  · split
    all_goals simp only
    all_goals omega

theorem begin_size (t : ByteArray) (h : 1 ≤ t.size) : 0 ≤ (begin' t).2 ∧ (begin' t).2 ≤ t.size := by
  unfold begin' begins'
  repeat' split
  · exact beginWord_size t h
  · exact beginNumber_size t h
  · exact beginCapital_size t
  · exact beginSign_size t h
end Go.Proofs.YthllhabjfchgiaaGreatDoor.Hx

namespace Go.Proofs.YthllhabjfchgiaaGreatDoor
open Go.RowKit

set_option maxRecDepth 100000 in
set_option maxHeartbeats 2000000 in
theorem beginSign_any (t : ByteArray) (w : World) (ht : t.size ≤ 4000) (h1 : 1 ≤ t.size) :
    Calls Tryz.prog 219 #[.string t] w fun e w' => e = .returned (.tuple #[.int .i64 (Hx.beginSign t).1, .int .i64 (Hx.beginSign t).2]) ∧ w' = w := by
  generalize hr : Hx.beginSign t = r
  have i0 : (0 : Int) < (t.size : Int) := by omega
  have e0 := getD_byte t 0 (by omega)
  unfold Hx.beginSign at hr
  rw [e0] at hr
  by_cases h2 : 1 < t.size
  · have i1 : (2 : Int) ≤ (t.size : Int) := by omega
    have i2 : decide ((1 : Int) < (t.size : Int)) = true := by simp; omega
    rw [decide_eq_true h2, Bool.true_and] at hr
    cases y0 : ((t.extract 0 2).toList == [60, 61]) with
    | true =>
      have e : r = (5, 2) := by rw [← hr, if_pos (by simp only [Hx.isTwo, y0, Bool.true_or])]
      subst e
      clear hr
      go_enter Tryz.func219, Tryz.ntmps219
      go_wp2
      go_ret2
      exact ⟨rfl, rfl⟩
    | false =>
      cases y1 : ((t.extract 0 2).toList == [62, 61]) with
      | true =>
        have e : r = (5, 2) := by rw [← hr, if_pos (by simp only [Hx.isTwo, y1, Bool.or_true, Bool.true_or])]
        subst e
        clear hr
        go_enter Tryz.func219, Tryz.ntmps219
        go_wp2
        go_ret2
        exact ⟨rfl, rfl⟩
      | false =>
        cases y2 : ((t.extract 0 2).toList == [61, 61]) with
        | true =>
          have e : r = (5, 2) := by rw [← hr, if_pos (by simp only [Hx.isTwo, y2, Bool.or_true, Bool.true_or])]
          subst e
          clear hr
          go_enter Tryz.func219, Tryz.ntmps219
          go_wp2
          go_ret2
          exact ⟨rfl, rfl⟩
        | false =>
          cases y3 : ((t.extract 0 2).toList == [33, 61]) with
          | true =>
            have e : r = (5, 2) := by rw [← hr, if_pos (by simp only [Hx.isTwo, y3, Bool.or_true, Bool.true_or])]
            subst e
            clear hr
            go_enter Tryz.func219, Tryz.ntmps219
            go_wp2
            go_ret2
            exact ⟨rfl, rfl⟩
          | false =>
            cases y4 : ((t.extract 0 2).toList == [38, 38]) with
            | true =>
              have e : r = (5, 2) := by rw [← hr, if_pos (by simp only [Hx.isTwo, y4, Bool.or_true, Bool.true_or])]
              subst e
              clear hr
              go_enter Tryz.func219, Tryz.ntmps219
              go_wp2
              go_ret2
              exact ⟨rfl, rfl⟩
            | false =>
              cases y5 : ((t.extract 0 2).toList == [124, 124]) with
              | true =>
                have e : r = (5, 2) := by rw [← hr, if_pos (by simp only [Hx.isTwo, y5, Bool.or_true])]
                subst e
                clear hr
                go_enter Tryz.func219, Tryz.ntmps219
                go_wp2
                go_ret2
                exact ⟨rfl, rfl⟩
              | false =>
                have hy : Hx.isTwo (t.extract 0 2).toList = false := by simp only [Hx.isTwo, y0, y1, y2, y3, y4, y5, Bool.or_false]
                rw [if_neg (by rw [hy]; decide)] at hr
                clear hy
                by_cases ho : (0 : Int) ≤ Lib.indexByte [40, 41, 123, 125, 44, 59, 58, 46, 43, 45, 42, 47, 37, 60, 62, 61, 33] t[0]
                · have e : r = (5, 1) := by rw [← hr, if_pos (by simp only [Hx.isOne]; exact decide_eq_true ho)]
                  subst e
                  clear hr
                  go_enter Tryz.func219, Tryz.ntmps219
                  go_wp2_with (go_at_call 231; refine (Tryz.strings_IndexByte _ _ _).mono ?_; rintro e w' ⟨rfl, rfl⟩)
                  go_ret2
                  exact ⟨rfl, rfl⟩
                · have e : r = (0, 0) := by rw [← hr, if_neg (by simp only [Hx.isOne]; rw [decide_eq_false ho]; decide)]
                  subst e
                  clear hr
                  have ho' : Lib.indexByte [40, 41, 123, 125, 44, 59, 58, 46, 43, 45, 42, 47, 37, 60, 62, 61, 33] t[0] < 0 := by omega
                  go_enter Tryz.func219, Tryz.ntmps219
                  go_wp2_with (go_at_call 231; refine (Tryz.strings_IndexByte _ _ _).mono ?_; rintro e w' ⟨rfl, rfl⟩)
                  go_ret2
                  exact ⟨rfl, rfl⟩
  · have i2 : decide ((1 : Int) < (t.size : Int)) = false := by simp; omega
    rw [decide_eq_false h2, Bool.false_and, if_neg (by decide)] at hr
    by_cases ho : (0 : Int) ≤ Lib.indexByte [40, 41, 123, 125, 44, 59, 58, 46, 43, 45, 42, 47, 37, 60, 62, 61, 33] t[0]
    · have e : r = (5, 1) := by rw [← hr, if_pos (by simp only [Hx.isOne]; exact decide_eq_true ho)]
      subst e
      clear hr
      go_enter Tryz.func219, Tryz.ntmps219
      go_wp2_with (go_at_call 231; refine (Tryz.strings_IndexByte _ _ _).mono ?_; rintro e w' ⟨rfl, rfl⟩)
      go_ret2
      exact ⟨rfl, rfl⟩
    · have e : r = (0, 0) := by rw [← hr, if_neg (by simp only [Hx.isOne]; rw [decide_eq_false ho]; decide)]
      subst e
      clear hr
      have ho' : Lib.indexByte [40, 41, 123, 125, 44, 59, 58, 46, 43, 45, 42, 47, 37, 60, 62, 61, 33] t[0] < 0 := by omega
      go_enter Tryz.func219, Tryz.ntmps219
      go_wp2_with (go_at_call 231; refine (Tryz.strings_IndexByte _ _ _).mono ?_; rintro e w' ⟨rfl, rfl⟩)
      go_ret2
      exact ⟨rfl, rfl⟩

set_option maxRecDepth 100000 in
set_option maxHeartbeats 2000000 in
theorem beginTok_any (t : ByteArray) (w : World) (ht : t.size ≤ 4000) (h1 : 1 ≤ t.size) :
    Calls Tryz.prog 190 #[.string t] w fun e w' => e = .returned (.tuple #[.int .i64 (Hx.begin' t).1, .int .i64 (Hx.begin' t).2]) ∧ w' = w := by
  have i0 : (0 : Int) < (t.size : Int) := by omega
  have e0 := getD_byte t 0 (by omega)
  unfold Hx.begin' Hx.begins'
  rw [e0]
  clear e0
  cases hl : Hx.isLet t[0].toNat with
  | true =>
    simp only [if_true]
    go_enter Tryz.func190, Tryz.ntmps190
    go_wp2_with (first | (go_at_call 214; refine (isLetter_any _ _).mono ?_; rintro e w' ⟨rfl, rfl⟩; rw [hl]) | (go_at_call 215; refine (beginWord_any t _ ht h1).mono ?_; rintro e w' ⟨rfl, rfl⟩))
    go_ret2
    exact ⟨rfl, rfl⟩
  | false =>
    simp only [Bool.false_eq_true, if_false]
    cases hd : Hx.isDig t[0].toNat with
    | true =>
      simp only [if_true]
      go_enter Tryz.func190, Tryz.ntmps190
      go_wp2_with (first | (go_at_call 214; refine (isLetter_any _ _).mono ?_; rintro e w' ⟨rfl, rfl⟩; rw [hl]) | (go_at_call 216; refine (isDigit_any _ _).mono ?_; rintro e w' ⟨rfl, rfl⟩; rw [hd]) | (go_at_call 217; refine (beginNumber_any t _ ht h1).mono ?_; rintro e w' ⟨rfl, rfl⟩))
      go_ret2
      exact ⟨rfl, rfl⟩
    | false =>
      simp only [Bool.false_eq_true, if_false]
      by_cases h65 : (65 : Int) ≤ t[0].toNat
      · have d1 : decide ((65 : Int) ≤ (t[0].toNat : Int)) = true := decide_eq_true h65
        by_cases h90 : (t[0].toNat : Int) ≤ 90
        · have d2 : decide ((t[0].toNat : Int) ≤ 90) = true := decide_eq_true h90
          simp only [d1, d2, Bool.and_self, if_true]
          go_enter Tryz.func190, Tryz.ntmps190
          go_wp2_with (first | (go_at_call 214; refine (isLetter_any _ _).mono ?_; rintro e w' ⟨rfl, rfl⟩; rw [hl]) | (go_at_call 216; refine (isDigit_any _ _).mono ?_; rintro e w' ⟨rfl, rfl⟩; rw [hd]) | (go_at_call 218; refine (beginCapital_any t _ ht h1).mono ?_; rintro e w' ⟨rfl, rfl⟩))
          go_ret2
          exact ⟨rfl, rfl⟩
        · have d2 : decide ((t[0].toNat : Int) ≤ 90) = false := decide_eq_false h90
          simp only [d1, d2, Bool.and_false, Bool.false_eq_true, if_false]
          go_enter Tryz.func190, Tryz.ntmps190
          go_wp2_with (first | (go_at_call 214; refine (isLetter_any _ _).mono ?_; rintro e w' ⟨rfl, rfl⟩; rw [hl]) | (go_at_call 216; refine (isDigit_any _ _).mono ?_; rintro e w' ⟨rfl, rfl⟩; rw [hd]) | (go_at_call 219; refine (beginSign_any t _ ht h1).mono ?_; rintro e w' ⟨rfl, rfl⟩))
          go_ret2
          exact ⟨rfl, rfl⟩
      · have d1 : decide ((65 : Int) ≤ (t[0].toNat : Int)) = false := decide_eq_false h65
        simp only [d1, Bool.false_and, Bool.false_eq_true, if_false]
        go_enter Tryz.func190, Tryz.ntmps190
        go_wp2_with (first | (go_at_call 214; refine (isLetter_any _ _).mono ?_; rintro e w' ⟨rfl, rfl⟩; rw [hl]) | (go_at_call 216; refine (isDigit_any _ _).mono ?_; rintro e w' ⟨rfl, rfl⟩; rw [hd]) | (go_at_call 219; refine (beginSign_any t _ ht h1).mono ?_; rintro e w' ⟨rfl, rfl⟩))
        go_ret2
        exact ⟨rfl, rfl⟩

def tkV (k : Hx.Tk) : Value := .agg #[.int .i64 k.kind, .string k.text, .int .i64 k.at']

set_option maxRecDepth 100000 in
set_option maxHeartbeats 2000000 in
theorem scan_any (s : ByteArray) (from' : Nat) (w : World) (hs : s.size ≤ 4000) (hf : from' ≤ s.size) :
    Calls Tryz.prog 140 #[.string s, .int .i64 from'] w fun e w' => e = .returned (tkV (Hx.scan s from')) ∧ w.grownBy w' none := by
  unfold Hx.scan
  obtain ⟨n, hn, hnb, HN⟩ := spans_first Hx.isBlank s from' hf
  rw [hn]
  clear hn
  generalize hr : Hx.scanAt s n = r
  have HR : Hid (Hx.scanAt s n = r) := hr
  clear hr
  have HG : Hid (∀ o k, w.grownBy ((w.alloc o).drewN k) none) := fun o k => (World.grownBy_alloc w o none).trans ⟨rfl, rfl, rfl, Nat.le_refl _, fun _ _ _ => rfl⟩
  go_enter Tryz.func140, Tryz.ntmps140
  go_upto_block 0 with fail
  go_cut [5] (fun i wx => w.alloc (.cells #[.int .i64 0, .string ⟨#[]⟩, .int .i64 0] 249) = wx ∧ i = .int .i64 n)
  case first =>
    go_wp2_with fail
    go_loop [5] (fun i => ∃ k : Nat, k ≤ s.size ∧ i = .int .i64 k ∧ Spans Hx.isBlank s n k) (fun i => s.size - (intOf i).toNat)
    case atStart => exact ⟨from', by omega, rfl, HN⟩
    case round =>
      obtain ⟨k, hk, rfl, HK⟩ := hrel
      clear HN
      by_cases hlt : k < s.size
      · have i0 : (0 : Int) ≤ (k : Int) := by omega
        have i1 : (k : Int) < (s.size : Int) := by omega
        cases hl : ((s[k].toNat : Int) == 32) with
        | true =>
          have HE := HK.yes hlt (by simp [Hx.isBlank, hl])
          clear HK
          go_wp2
          refine ⟨⟨k + 1, by omega, by go_num, HE⟩, ?_⟩
          simp [intOf]; omega
        | false =>
          cases hd : ((s[k].toNat : Int) == 10) with
          | true =>
            have HE := HK.yes hlt (by simp [Hx.isBlank, hl, hd])
            clear HK
            go_wp2
            refine ⟨⟨k + 1, by omega, by go_num, HE⟩, ?_⟩
            simp [intOf]; omega
          | false =>
            have h5 := HK.no hlt (by simp only [Hx.isBlank, hl, hd, Bool.or_false])
            subst h5
            clear HK
            go_wp2
            go_meet
            exact ⟨rfl, rfl⟩
      · have h5 := HK.off (by omega)
        have i1 : decide ((k : Int) < (s.size : Int)) = false := by simp; omega
        subst h5
        clear HK
        go_wp2
        go_meet
        exact ⟨rfl, rfl⟩
  case rest =>
    obtain ⟨rfl, rfl⟩ := hcut
    clear HN
    by_cases he : n = s.size
    · subst he
      have e : r = ⟨1, ⟨#[]⟩, s.size⟩ := by rw [← HR.out, Hx.scanAt, if_pos rfl]
      subst e
      clear HR
      go_wp2
      refine bodyPost_ret (v := .agg #[.int .i64 1, .string ⟨#[]⟩, .int .i64 s.size]) (by simp [results, Tryz.results140, go_sem]) rfl ?_
      exact ⟨rfl, HG.out _ 0⟩
    · have d1 : ((n : Int) == (s.size : Int)) = false := by simp; omega
      have hsz : (s.extract n s.size).size = s.size - n := by simp
      obtain ⟨b1, b2⟩ := Hx.begin_size (s.extract n s.size) (by omega)
      have hC := beginTok_any (s.extract n s.size)
      have HC : Hid (∀ w, Calls Tryz.prog 190 #[.string (s.extract n s.size)] w fun e w' => e = .returned (.tuple #[.int .i64 (Hx.begin' (s.extract n s.size)).1, .int .i64 (Hx.begin' (s.extract n s.size)).2]) ∧ w' = w) := fun w => hC w (by omega) (by omega)
      have HE : Hid (r = ⟨(Hx.begin' (s.extract n s.size)).1, s.extract n (n + (Hx.begin' (s.extract n s.size)).2.toNat), n⟩) := by
        show _ = _
        rw [← HR.out, Hx.scanAt, if_neg he]
      clear hC HR
      generalize (Hx.begin' (s.extract n s.size)).1 = q at *
      generalize (Hx.begin' (s.extract n s.size)).2 = z at *
      obtain ⟨z, rfl⟩ := Int.eq_ofNat_of_zero_le b1
      have i0 : (0 : Int) ≤ (n : Int) := by omega
      have i1 : (n : Int) ≤ (s.size : Int) := by omega
      have i2 : (n : Int) + (z : Int) ≤ (s.size : Int) := by omega
      obtain ⟨y, hy⟩ : ∃ y : Nat, n + z = y := ⟨_, rfl⟩
      have hyI : (n : Int) + (z : Int) = (y : Int) := by omega
      have i3 : (n : Int) ≤ (y : Int) := by omega
      have i4 : (y : Int) ≤ (s.size : Int) := by omega
      rw [Int.toNat_natCast, hy] at HE
      clear b1 b2 hsz hy
      go_wp2_with (go_at_call 190; refine (HC.out _).mono ?_; rintro e w' ⟨rfl, rfl⟩)
      refine bodyPost_ret (v := .agg #[.int .i64 q, .string (s.extract n y), .int .i64 n]) (by simp [results, Tryz.results140, go_sem]) rfl ?_
      exact ⟨by rw [HE.out]; rfl, HG.out _ 0⟩
end Go.Proofs.YthllhabjfchgiaaGreatDoor

/- PLAIN FUNCTIONS: runs of code. -/
namespace Go.Proofs.YthllhabjfchgiaaGreatDoor.Hx
open Go.RowKit

/-- (*machine).push: nothing, if there is no room -/
def push (v : Vw) (i j : Int) (m : Mc) : Option Mc :=
  match v.road i, v.packet j with
  | some r, some p => if m.acts.length = 256 then none else some { m with acts := m.acts ++ [(r.id, p.seq)] }
  | _, _ => some m

end Go.Proofs.YthllhabjfchgiaaGreatDoor.Hx

/- PLAIN FUNCTIONS: a run of steps. -/
namespace Go.Proofs.YthllhabjfchgiaaGreatDoor.Hx
open Go.RowKit

structure Out where
  status : Int
  regs : List Int
  acts : List (Int × Int)

/-- one step: the machine and the step that is next, or how the run ends -/
def step (v : Vw) (steps : List St) (regs : List Int) (k : Nat) (s : St) (m : Mc) : Out ⊕ (Int × Mc) :=
  if s.op = 1 then .inl ⟨0, m.slots, m.acts⟩
  else if s.op = 2 then .inr (if m.get s.a = 0 then s.to else k + 1, m)
  else if s.op = 3 then .inr (s.to, m)
  else if s.op = 4 then .inr ((turn s k (begins v s m)).2, (turn s k (begins v s m)).1)
  else if s.op = 5 then (if m.get s.a = 0 then match steps[s.to.toNat]? with
      | some l => .inr ((turn l s.to m).2, (turn l s.to m).1)
      | none => .inl ⟨2, regs, []⟩
    else .inr (k + 1, m))
  else if s.op = 0 then match steps[s.to.toNat]? with
    | some l => .inr ((turn l s.to m).2, (turn l s.to m).1)
    | none => .inl ⟨2, regs, []⟩
  else if s.op = 36 then match push v (m.get s.a) (m.get s.b) m with
    | none => .inl ⟨1, regs, []⟩
    | some m' => .inr (k + 1, m')
  else .inr (k + 1, work v s m)

def runs (v : Vw) (steps : List St) (regs : List Int) : Nat → Int → Mc → Out
  | 0, _, _ => ⟨2, regs, []⟩
  | f + 1, k, m => match steps[k.toNat]? with
    | none => ⟨2, regs, []⟩
    | some s => match step v steps regs k.toNat s m with
      | .inl o => o
      | .inr (k', m') => runs v steps regs f k' m'

def isLoop (steps : List St) (n : Nat) (x : Int) : Prop :=
  ∃ l, 0 ≤ x ∧ steps[x.toNat]? = some l ∧ x + 1 < steps.length ∧ 0 ≤ l.to ∧ l.to < steps.length ∧ St.slot n l.b ∧ 0 ≤ l.depth ∧ l.depth < 8

/-- a step that leads to steps that there are, with slots that there are -/
structure St.fits (steps : List St) (n : Nat) (k : Nat) (s : St) : Prop where
  u8 : 0 ≤ s.op ∧ s.op ≤ 255
  next : ¬ s.op = 1 → ¬ s.op = 3 → ¬ s.op = 0 → k + 1 < steps.length
  ifs : s.op = 2 → St.slot n s.a ∧ 0 ≤ s.to ∧ s.to < steps.length
  elses : s.op = 3 → 0 ≤ s.to ∧ s.to < steps.length
  loops : s.op = 4 → 0 ≤ s.to ∧ s.to < steps.length ∧ St.slot n s.b ∧ St.slot n s.c ∧ 0 ≤ s.depth ∧ s.depth < 8
  skips : s.op = 5 → St.slot n s.a ∧ isLoop steps n s.to
  ends : s.op = 0 → isLoop steps n s.to
  pushes : s.op = 36 → St.slot n s.a ∧ St.slot n s.b
  works : ¬ s.op = 1 → ¬ s.op = 2 → ¬ s.op = 3 → ¬ s.op = 4 → ¬ s.op = 5 → ¬ s.op = 0 → ¬ s.op = 36 → s.worksIn n

/-- code that was looked over -/
structure Fits (steps : List St) (n : Nat) : Prop where
  pos : 0 < steps.length
  len : steps.length ≤ 1000000
  each : ∀ (k : Nat) (s : St), steps[k]? = some s → s.fits steps n k
end Go.Proofs.YthllhabjfchgiaaGreatDoor.Hx

/- PLAIN FUNCTIONS: how code is read and looked over. -/
namespace Go.Proofs.YthllhabjfchgiaaGreatDoor.Hx
open Go.RowKit

/-- op.Shape: the letters of an instruction's numbers -/
def shape (o : Int) : List UInt8 :=
  if o = 0 ∨ o = 1 ∨ o = 3 then [] else if o = 2 ∨ o = 5 then [115] else if o = 6 then [115, 110] else if o = 21 then [115, 108]
  else if o = 7 ∨ o = 8 ∨ o = 9 ∨ o = 22 ∨ o = 23 ∨ o = 24 ∨ o = 27 ∨ o = 28 ∨ o = 29 ∨ o = 30 ∨ o = 31 ∨ o = 32 ∨ o = 33 ∨ o = 34 ∨ o = 36 then [115, 115]
  else if o = 4 then [108, 115, 115]
  else if o = 10 ∨ o = 11 ∨ o = 12 ∨ o = 13 ∨ o = 14 ∨ o = 15 ∨ o = 16 ∨ o = 17 ∨ o = 18 ∨ o = 19 ∨ o = 20 ∨ o = 35 then [115, 115, 115]
  else if o = 25 ∨ o = 26 then [115, 115, 115, 115] else []

def isOp (o : Int) : Bool := decide (0 ≤ o ∧ o ≤ 36)

/-- op.signed -/
def signed (x : Int) : Int := if bits .and .u64 x 1 == 1 then bits .xor .i64 (-1) (x / 2) else x / 2

/-- op.Read: r rounds more, the i-th byte next -/
def readGo (s : List UInt8) (p : Nat) : Nat → Nat → Int → Int × Int
  | 0, _, _ => (0, 0)
  | r + 1, i, acc =>
    if i = 9 ∧ 1 < (s.getD (p + i) 0).toNat then (0, 0)
    else if (s.getD (p + i) 0).toNat < 128 then (signed (bits .or .u64 acc (IntKind.u64.wrap (((s.getD (p + i) 0).toNat % 128 : Nat) * 2 ^ (i * 7)))), i + 1)
    else readGo s p r (i + 1) (bits .or .u64 acc (IntKind.u64.wrap (((s.getD (p + i) 0).toNat % 128 : Nat) * 2 ^ (i * 7))))

def read (s : List UInt8) (p : Nat) : Int × Int := readGo s p (min (s.length - p) 10) 0 0

def listSize (l : Int) : Int := if l = 0 then 8 else 16

structure Bk where
  opener : Int
  other : Int
  need : Int
  before : Int

structure Ls where
  pos : Int
  steps : List St
  blocks : List Bk
  loops : List Int
  slots : Int
  need : Int
  bad : Bool

def Ls.top (l : Ls) : Bk := l.blocks.getLastD ⟨0, 0, 0, 0⟩

/-- (*loader).count -/
def Ls.count (l : Ls) (more : Int) : Ls :=
  { l with blocks := l.blocks.dropLast ++ [{ l.top with need := wrap64 (l.top.need + more) }], bad := l.bad || decide (40000040 < wrap64 (l.top.need + more)) }

/-- (*loader).take -/
def Ls.take (l : Ls) (letter n : Int) : Ls × Bool :=
  if letter = 115 then (if n < 0 ∨ 2008 ≤ n then (l, false) else ({ l with slots := max l.slots (n + 1) }, true))
  else if letter = 108 then (l, decide (0 ≤ n ∧ n < 3)) else (l, true)
end Go.Proofs.YthllhabjfchgiaaGreatDoor.Hx

namespace Go.Proofs.YthllhabjfchgiaaGreatDoor
open Go.RowKit
open Hx (St Bk Ls In64)

/-- (*loader).add, on plain data -/
def addStep (l : Ls) (st : St) : Ls := Hx.Ls.count { l with steps := l.steps ++ [st] } 1

/-- (*loader).open -/
def openStep (l : Ls) (st : St) : Ls := { addStep l st with blocks := (addStep l st).blocks ++ [⟨l.steps.length, 0, 0, 0⟩] }

theorem addStep_steps (l : Ls) (st : St) : (addStep l st).steps = l.steps ++ [st] := rfl
theorem addStep_loops (l : Ls) (st : St) : (addStep l st).loops = l.loops := rfl
theorem addStep_blocks (l : Ls) (st : St) (hne : l.blocks ≠ []) : (addStep l st).blocks.length = l.blocks.length := by
  have : 0 < l.blocks.length := List.length_pos_iff.2 hne
  simp [addStep, Hx.Ls.count]; omega

/-- (*loader).skip -/
def skipStep (l : Ls) (st : St) : Ls := if l.loops = [] then { l with bad := true } else addStep l { st with to := l.loops.getLastD 0 }

/-- (*loader).openLoop, where there is room for one more -/
def loopStep (l : Ls) (st : St) : Ls := { openStep l { st with depth := l.loops.length } with loops := l.loops ++ [(l.steps.length : Int)] }

/-- (*loader).endIf: the step that passes over leads behind; the block is off, its need is in the block around it -/
def endIfAt (l : Ls) (p : Nat) (st : St) (init : List Bk) (b : Bk) : Ls := Hx.Ls.count { l with steps := l.steps.set p { st with to := l.steps.length }, blocks := init } (max b.need b.before)

/-- (*loader).endCode -/
def endCodeAt (l : Ls) : Ls := { addStep l ⟨1, 0, 0, 0, 0, 0, 0⟩ with need := (addStep l ⟨1, 0, 0, 0, 0, 0, 0⟩).top.need, blocks := [] }

/-- (*loader).endLoop, with what add leaves -/
def endLoopOf (l1 : Ls) (p : Nat) (sp : St) : Ls :=
  Hx.Ls.count { l1 with blocks := l1.blocks.dropLast, loops := l1.loops.dropLast, steps := l1.steps.set p { sp with to := l1.steps.length } } (wrap64 (Hx.listSize sp.a * l1.top.need))

def endLoopAt (l : Ls) (st : St) (p : Nat) (sp : St) : Ls := endLoopOf (addStep l { st with to := p }) p sp

/-- (*loader).divide, with what add leaves -/
def divideOf (l1 : Ls) (ns p : Nat) (sp : St) : Ls :=
  { l1 with blocks := l1.blocks.dropLast ++ [⟨l1.top.opener, ns, 0, l1.top.need⟩], steps := l1.steps.set p { sp with to := l1.steps.length } }

def divideAt (l : Ls) (st : St) (p : Nat) (sp : St) : Ls := divideOf (addStep l st) l.steps.length p sp

theorem addStep_top (l : Ls) (st : St) : (addStep l st).top = { l.top with need := wrap64 (l.top.need + 1) } := by
  simp [addStep, Hx.Ls.count, Hx.Ls.top]
theorem addStep_init (l : Ls) (st : St) : (addStep l st).blocks.dropLast = l.blocks.dropLast := by
  simp [addStep, Hx.Ls.count]

/-- what an instruction that was read does to the loader -/
def instr (l : Ls) (s : St) : Ls :=
  if s.op = 2 then openStep l s
  else if s.op = 4 then (if l.loops.length = 8 then { l with bad := true } else loopStep l s)
  else if s.op = 3 then
    (if l.blocks.length = 1 ∨ 0 < l.top.other then { l with bad := true } else match l.steps[l.top.opener.toNat]? with
      | none => { l with bad := true }
      | some sp => if sp.op = 2 then divideAt l s l.top.opener.toNat sp else { l with bad := true })
  else if s.op = 0 then
    (if l.blocks.length = 1 then endCodeAt l else match l.steps[l.top.opener.toNat]? with
      | none => { l with bad := true }
      | some sp =>
        if sp.op = 4 then endLoopAt l s l.top.opener.toNat sp
        else if 0 < l.top.other then match l.steps[l.top.other.toNat]? with
          | none => { l with bad := true }
          | some sr => endIfAt l l.top.other.toNat sr l.blocks.dropLast l.top
        else endIfAt l l.top.opener.toNat sp l.blocks.dropLast l.top)
  else if s.op = 5 then skipStep l s
  else addStep l s

/-- the numbers of an instruction: they, the place behind them, and how many slots there are -/
def readNums (bs : List UInt8) : List UInt8 → Nat → Int → Option (List Int × Nat × Int)
  | [], p, sl => some ([], p, sl)
  | c :: cs, p, sl =>
    if (Hx.read bs p).2 = 0 then none
    else if c = 115 ∧ ((Hx.read bs p).1 < 0 ∨ 2008 ≤ (Hx.read bs p).1) then none
    else if c = 108 ∧ ¬ (0 ≤ (Hx.read bs p).1 ∧ (Hx.read bs p).1 < 3) then none
    else (readNums bs cs (p + (Hx.read bs p).2.toNat) (if c = 115 then max sl ((Hx.read bs p).1 + 1) else sl)).map fun r => ((Hx.read bs p).1 :: r.1, r.2)

/-- (*loader).read -/
def readStep (bs : List UInt8) (l : Ls) : Option (St × Ls) :=
  match bs[l.pos.toNat]? with
  | none => none
  | some o => if Hx.isOp o.toNat then match readNums bs (Hx.shape o.toNat) (l.pos.toNat + 1) l.slots with
      | none => none
      | some (ns, p, sl) => some (⟨o.toNat, ns.getD 0 0, ns.getD 1 0, ns.getD 2 0, ns.getD 3 0, 0, 0⟩, { l with pos := p, slots := sl })
    else none

def firstLs : Ls := ⟨0, [], [⟨0, 0, 0, 0⟩], [], 8, 0, false⟩

def loadGo (bs : List UInt8) : Nat → Ls → Ls
  | 0, l => l
  | f + 1, l => if l.blocks = [] ∨ l.bad = true then l else match readStep bs l with
    | none => { l with bad := true }
    | some (s, l') => loadGo bs f (instr l' s)

/-- vm.Load: the loader at its end -/
def loaded (bs : List UInt8) : Ls := loadGo bs (bs.length + 1) firstLs

/-- whether Load takes it -/
def takes (bs : List UInt8) : Bool := decide (bs.length ≤ 100000) && !(loaded bs).bad && decide ((loaded bs).pos = bs.length)

end Go.Proofs.YthllhabjfchgiaaGreatDoor
