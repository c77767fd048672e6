import Derived.Test.YthllhabjfchgiaaGreatDoorHy23
import Derived.LoopN
import Derived.Deep.CutBlock
import Derived.Deep.DeepCutAuto
/- Package lang: expect, open, close, newPart, level. -/
namespace Go.Proofs.YthllhabjfchgiaaGreatDoor
open Go.RowKit
open Hx (Tk)
attribute [local go_sem ↓] Go.wp_at_zero Go.wp_at_succ
attribute [local go_sem] setCell_drewN'
variable {w : World} {P : Nat} {s : ByteArray} {k : Tk} {dp en ea : Int}

/-- a token that lies in the text -/
structure TokOk (s : ByteArray) (k : Tk) : Prop where
  at0 : 0 ≤ k.at'
  bd : k.at'.toNat + k.text.size ≤ s.size

/-- the token behind one -/
def nxt (s : ByteArray) (k : Tk) : Tk := Hx.scan s (k.at'.toNat + k.text.size)

theorem next_ok (h : PrIn w P s k dp en ea) (hk : TokOk s k) (hs : s.size ≤ 4000) :
    Calls Tryz.prog 236 #[.pointer (some ⟨P, 0, none⟩)] w fun e w' => e = .returned (tkV k) ∧ PrIn w' P s (nxt s k) dp en ea ∧ w.grownBy w' (some P) :=
  next_any h k.at'.toNat (by have := hk.at0; omega) hk.bd hs

theorem expect_ok (h : PrIn w P s k dp en ea) (hk : TokOk s k) (hs : s.size ≤ 4000) (t : ByteArray) (ht : (k.text.toList == t.toList) = true) :
    Calls Tryz.prog 239 #[.pointer (some ⟨P, 0, none⟩), .string t] w fun e w' => e = .returned (.tuple #[]) ∧ PrIn w' P s (nxt s k) dp en ea ∧ w.grownBy w' (some P) := by
  have HI : Hid (Calls Tryz.prog 242 #[.pointer (some ⟨P, 0, none⟩), .string t] w fun e w' => e = .returned (.bool true) ∧ w' = w) := by
    have := is_any h t
    rw [ht] at this
    exact this
  have HN : Hid (Calls Tryz.prog 236 #[.pointer (some ⟨P, 0, none⟩)] w fun e w' => e = .returned (tkV k) ∧ PrIn w' P s (nxt s k) dp en ea ∧ w.grownBy w' (some P)) := next_ok h hk hs
  clear h ht hk
  go_enter Tryz.func239, Tryz.ntmps239
  go_wp2_with fail
  refine HI.out.mono ?_
  rintro e w1 ⟨rfl, rfl⟩
  go_wp2_with fail
  refine HN.out.mono ?_
  rintro e w2 ⟨rfl, h1, h2⟩
  have HQ : Hid (PrIn w2 P s (nxt s k) dp en ea ∧ w1.grownBy w2 (some P)) := ⟨h1, h2⟩
  clear h1 h2 HN HI
  go_wp2_with fail
  go_end0
  exact ⟨rfl, HQ.out⟩

theorem open_ok (h : PrIn w P s k dp en ea) (hk : TokOk s k) (hs : s.size ≤ 4000) (hd : (dp == 20) = false) (hdb : 0 ≤ dp) (hdc : dp ≤ 20) (t : ByteArray) (ht : (k.text.toList == t.toList) = true) :
    Calls Tryz.prog 237 #[.pointer (some ⟨P, 0, none⟩), .string t] w fun e w' => e = .returned (.tuple #[]) ∧ PrIn w' P s (nxt s k) (dp + 1) en ea ∧ w.grownBy w' (some P) := by
  have c4 := h.c4
  have HN : Hid (Calls Tryz.prog 239 #[.pointer (some ⟨P, 0, none⟩), .string t] w fun e w' => e = .returned (.tuple #[]) ∧ PrIn w' P s (nxt s k) dp en ea ∧ w.grownBy w' (some P)) := expect_ok h hk hs t ht
  clear h ht hk
  go_enter Tryz.func237, Tryz.ntmps237
  go_wp2_with fail
  refine HN.out.mono ?_
  rintro e w2 ⟨rfl, h1, h2⟩
  have d4 := h1.c4
  have ff := h1.fr
  have HQ : Hid (PrIn (w2.setCell ⟨P, 4, none⟩ (.int .i64 (dp + 1))) P s (nxt s k) (dp + 1) en ea ∧ w.grownBy (w2.setCell ⟨P, 4, none⟩ (.int .i64 (dp + 1))) (some P)) := ⟨h1.set 4 _ (nxt s k) (dp + 1) en ea (by omega) rfl rfl rfl rfl rfl rfl, grown_own h2 _ _⟩
  clear h1 h2 HN
  go_wp2_with fail
  go_end0
  exact ⟨rfl, HQ.out⟩

theorem close_ok (h : PrIn w P s k dp en ea) (hk : TokOk s k) (hs : s.size ≤ 4000) (hdb : 0 ≤ dp) (hdc : dp ≤ 21) (t : ByteArray) (ht : (k.text.toList == t.toList) = true) :
    Calls Tryz.prog 240 #[.pointer (some ⟨P, 0, none⟩), .string t] w fun e w' => e = .returned (.tuple #[]) ∧ PrIn w' P s (nxt s k) (dp - 1) en ea ∧ w.grownBy w' (some P) := by
  have HN : Hid (Calls Tryz.prog 239 #[.pointer (some ⟨P, 0, none⟩), .string t] w fun e w' => e = .returned (.tuple #[]) ∧ PrIn w' P s (nxt s k) dp en ea ∧ w.grownBy w' (some P)) := expect_ok h hk hs t ht
  clear h ht hk
  go_enter Tryz.func240, Tryz.ntmps240
  go_wp2_with fail
  refine HN.out.mono ?_
  rintro e w2 ⟨rfl, h1, h2⟩
  have d4 := h1.c4
  have ff := h1.fr
  have HQ : Hid (PrIn (w2.setCell ⟨P, 4, none⟩ (.int .i64 (dp - 1))) P s (nxt s k) (dp - 1) en ea ∧ w.grownBy (w2.setCell ⟨P, 4, none⟩ (.int .i64 (dp - 1))) (some P)) := ⟨h1.set 4 _ (nxt s k) (dp - 1) en ea (by omega) rfl rfl rfl rfl rfl rfl, grown_own h2 _ _⟩
  clear h1 h2 HN
  go_wp2_with fail
  go_end0
  exact ⟨rfl, HQ.out⟩

/-- total: costs added up, never above 1000001 -/
def totalOf (xs : List Int) : Int := xs.foldl (fun a c => min (a + c) 1000001) 0

theorem total_nil (w : World) : Calls Tryz.prog 143 #[.slice none 0 0] w fun e w' => e = .returned (.int .i64 0) ∧ w' = w := by
  go_enter Tryz.func143, Tryz.ntmps143
  go_wp2
  go_loop [3, 5, 8] (fun a _ i => a = .int .i64 0 ∧ i = .int .i64 0) (fun _ _ _ => 0)
  case atStart => exact ⟨rfl, rfl⟩
  case round =>
    obtain ⟨rfl, rfl⟩ := hrel
    go_wp2
    go_ret
    exact ⟨rfl, rfl⟩

theorem total_step (xs : List Int) (k : Nat) (h : k < xs.length) (a : Int) : (xs.drop k).foldl (fun a c => min (a + c) 1000001) a = (xs.drop (k + 1)).foldl (fun a c => min (a + c) 1000001) (min (a + xs[k]) 1000001) := by
  rw [List.drop_eq_getElem_cons h, List.foldl_cons]

set_option maxRecDepth 100000 in
set_option maxHeartbeats 1000000 in
theorem total_at (w : World) (b cap : Nat) (xs : List Int) (hx : ∀ x ∈ xs, 0 ≤ x ∧ x ≤ 1000001) (hn : xs.length ≤ 1000000) (hc : ∀ (i : Nat) (x : Int), xs[i]? = some x → w.cell? ⟨b, i, none⟩ = some (.int .i64 x)) :
    Calls Tryz.prog 143 #[.slice (some ⟨b, 0, none⟩) xs.length cap] w fun e w' => e = .returned (.int .i64 (totalOf xs)) ∧ w' = w := by
  have HR : Hid (totalOf xs = (xs.drop 0).foldl (fun a c => min (a + c) 1000001) 0) := rfl
  generalize hr : totalOf xs = r at *
  clear hr
  go_enter Tryz.func143, Tryz.ntmps143
  go_wp2
  go_loop [3, 5, 8] (fun a _ i => ∃ (k : Nat) (z : Int), k ≤ xs.length ∧ 0 ≤ z ∧ z ≤ 1000001 ∧ a = .int .i64 z ∧ i = .int .i64 k ∧ Hid (r = (xs.drop k).foldl (fun a c => min (a + c) 1000001) z)) (fun _ _ i => xs.length - (intOf i).toNat)
  case atStart => exact ⟨0, 0, Nat.zero_le _, by omega, by omega, rfl, rfl, HR⟩
  case round =>
    obtain ⟨k, z, hk, z0, z1, rfl, rfl, HK⟩ := hrel
    clear HR
    by_cases hlt : k < xs.length
    · have d1 : decide ((k : Int) < (xs.length : Int)) = true := by simp; omega
      have i0 : (0 : Int) ≤ (k : Int) := by omega
      have i1 : (k : Int) < (xs.length : Int) := by omega
      have hg : xs[k]? = some xs[k] := List.getElem?_eq_getElem hlt
      have ck := hc k _ hg
      have hb := hx _ (List.getElem_mem hlt)
      have HE := HK.out
      rw [total_step xs k hlt] at HE
      generalize xs[k] = x at *
      have HK2 : Hid (∀ y, y = min (z + x) 1000001 → r = (xs.drop (k + 1)).foldl (fun a c => min (a + c) 1000001) y) := fun y hy => by rw [hy]; exact HE
      clear HK HE hg hc
      generalize xs.length = n at *
      go_wp2
      all_goals (refine ⟨⟨k + 1, _, by omega, ?_, ?_, rfl, by go_num, HK2.out _ (by omega)⟩, by simp [intOf]; omega⟩)
      all_goals omega
    · have d1 : decide ((k : Int) < (xs.length : Int)) = false := by simp; omega
      have e : r = z := by rw [HK.out, List.drop_of_length_le (by omega)]; rfl
      subst e
      clear HK
      go_wp2
      go_ret
      exact ⟨rfl, rfl⟩
end Go.Proofs.YthllhabjfchgiaaGreatDoor

/- Package lang: newPart, level. -/
namespace Go.Proofs.YthllhabjfchgiaaGreatDoor
open Go.RowKit
open Hx (Tk)
attribute [local go_sem ↓] Go.wp_at_zero Go.wp_at_succ
attribute [local go_sem] setCell_drewN'
variable {w : World} {P : Nat} {s : ByteArray} {k : Tk} {dp en ea : Int}

/-- costs in memory -/
def Costs (w : World) (v : Value) (xs : List Int) : Prop :=
  (∀ x ∈ xs, 0 ≤ x ∧ x ≤ 1000001) ∧ xs.length ≤ 1000 ∧ ((v = .slice none 0 0 ∧ xs = []) ∨ ∃ b cap, v = .slice (some ⟨b, 0, none⟩) xs.length cap ∧ ∀ (i : Nat) (x : Int), xs[i]? = some x → w.cell? ⟨b, i, none⟩ = some (.int .i64 x))

theorem Costs.grow {v : Value} {xs : List Int} (h : Costs w v xs) {w' : World} (hg : w.grownBy w' none) : Costs w' v xs := by
  obtain ⟨h1, h2, h3 | ⟨b, cap, h3, h4⟩⟩ := h
  · exact ⟨h1, h2, Or.inl h3⟩
  · exact ⟨h1, h2, Or.inr ⟨b, cap, h3, fun i x hx => hg.cell (h4 i x hx) (by simp)⟩⟩

theorem total_is {v : Value} {xs : List Int} (h : Costs w v xs) : Calls Tryz.prog 143 #[v] w fun e w' => e = .returned (.int .i64 (totalOf xs)) ∧ w' = w := by
  obtain ⟨h1, h2, ⟨rfl, rfl⟩ | ⟨b, cap, rfl, h4⟩⟩ := h
  · exact total_nil w
  · exact total_at w b cap xs h1 (by omega) h4

theorem total_bd (xs : List Int) (hx : ∀ x ∈ xs, 0 ≤ x ∧ x ≤ 1000001) : 0 ≤ totalOf xs ∧ totalOf xs ≤ 1000001 := by
  have key : ∀ (xs : List Int) (a : Int), (∀ x ∈ xs, 0 ≤ x ∧ x ≤ 1000001) → 0 ≤ a → a ≤ 1000001 → 0 ≤ xs.foldl (fun a c => min (a + c) 1000001) a ∧ xs.foldl (fun a c => min (a + c) 1000001) a ≤ 1000001 := by
    intro xs
    induction xs with
    | nil => intro a _ h0 h1; exact ⟨h0, h1⟩
    | cons x xs ih =>
      intro a hx h0 h1
      have := hx x List.mem_cons_self
      exact ih _ (fun y hy => hx y (List.mem_cons_of_mem _ hy)) (by show 0 ≤ min (a + x) 1000001; omega) (by show min (a + x) 1000001 ≤ 1000001; omega)
  exact key xs 0 hx (by omega) (by omega)

def partCost (xs : List Int) : Int := totalOf [1, totalOf xs]

theorem part_results (tmps : Array Value) (w : World) (g : Nat) (a c : Int) (h2 : tmps[4]? = some (.pointer (some ⟨g, 0, none⟩))) (h0 : w.cell? ⟨g, 0, none⟩ = some (.int .i64 a)) (h1 : w.cell? ⟨g, 1, none⟩ = some (.int .i64 c)) :
    (results Tryz.f234 tmps).run Tryz.prog w = .ok (.agg #[.int .i64 a, .int .i64 c]) w := by
  simp [results, Tryz.results234, go_sem, h2, h0, h1]

set_option maxRecDepth 100000 in
set_option maxHeartbeats 1000000 in
theorem newPart_exact (at' : Int) (v : Value) (xs : List Int) (h : Costs w v xs) :
    Calls Tryz.prog 234 #[.int .i64 at', v] w fun e w' => e = .returned (.agg #[.int .i64 at', .int .i64 (partCost xs)]) ∧ w' = (w.alloc (.cells #[.int .i64 at', .int .i64 (partCost xs)] 323)).alloc (.cells #[.int .i64 1, .int .i64 (totalOf xs)] 3) := by
  have HT : Hid (∀ o, Calls Tryz.prog 143 #[v] (w.alloc o) fun e w' => e = .returned (.int .i64 (totalOf xs)) ∧ w' = w.alloc o) := fun o => total_is (h.grow (World.grownBy_alloc w o none))
  have hb := total_bd xs h.1
  have HT2 : Hid (∀ o T t, t = totalOf xs → Calls Tryz.prog 143 #[.slice (some ⟨w.heap.size + 1, 0, none⟩) 2 2] ((w.alloc o).alloc (.cells #[.int .i64 1, .int .i64 t] T)) fun e w' => e = .returned (.int .i64 (partCost xs)) ∧ w' = (w.alloc o).alloc (.cells #[.int .i64 1, .int .i64 t] T)) := by
    intro o T t ht
    subst ht
    refine total_is (xs := [1, totalOf xs]) ⟨fun x hx => ?_, by simp, Or.inr ⟨_, _, rfl, fun i x hx => ?_⟩⟩
    · simp only [List.mem_cons, List.not_mem_nil, or_false] at hx
      rcases hx with rfl | rfl <;> omega
    · have hh := (heap_two_new w o (.cells #[.int .i64 1, .int .i64 (totalOf xs)] T)).1
      rw [cell_at hh]
      match i, hx with
      | 0, hx => cases hx; rfl
      | 1, hx => cases hx; rfl
  generalize partCost xs = pc at *
  generalize totalOf xs = t at *
  clear h
  go_enter Tryz.func234, Tryz.ntmps234
  go_wp2_with fail
  refine (HT.out _).mono ?_
  rintro e w1 ⟨rfl, rfl⟩
  go_wp2_with fail
  refine (HT2.out _ _ _ rfl).mono ?_
  rintro e w1 ⟨rfl, rfl⟩
  go_wp2_with fail
  have hh := (heap_two_new w (.cells #[.int .i64 at', .int .i64 pc] 323) (.cells #[.int .i64 1, .int .i64 t] 3)).2
  exact bodyPost_ret (part_results _ _ w.heap.size at' pc rfl (cell_at hh) (cell_at hh)) rfl ⟨rfl, rfl⟩

theorem newPart_any (at' : Int) (v : Value) (xs : List Int) (h : Costs w v xs) :
    Calls Tryz.prog 234 #[.int .i64 at', v] w fun e w' => e = .returned (.agg #[.int .i64 at', .int .i64 (partCost xs)]) ∧ w.grownBy w' none :=
  (newPart_exact at' v xs h).mono fun _ _ ⟨h1, h2⟩ => ⟨h1, by rw [h2]; exact (World.grownBy_alloc w _ none).trans (World.grownBy_alloc _ _ none)⟩

def Hx.isSign (u : List UInt8) : Bool := u == [124, 124] || u == [38, 38] || u == [61, 61] || u == [33, 61] || u == [60] || u == [60, 61] || u == [62] || u == [62, 61] || u == [43] || u == [45] || u == [42] || u == [47] || u == [37]

theorem level_none (t : ByteArray) (ht : Hx.isSign t.toList = false) (w : World) : Calls Tryz.prog 266 #[.string t] w fun e w' => e = .returned (.int .i64 6) ∧ w' = w := by
  simp only [Hx.isSign, Bool.or_eq_false_iff] at ht
  obtain ⟨⟨⟨⟨⟨⟨⟨⟨⟨⟨⟨⟨h0, h1⟩, h2⟩, h3⟩, h4⟩, h5⟩, h6⟩, h7⟩, h8⟩, h9⟩, h10⟩, h11⟩, h12⟩ := ht
  go_enter Tryz.func266, Tryz.ntmps266
  go_wp2
  go_ret
  exact ⟨rfl, rfl⟩

/-- (*part).price, where a part lies in memory -/
theorem price_at (b o : Nat) (c : Int) (h : w.cell? ⟨b, o + 1, none⟩ = some (.int .i64 c)) : Calls Tryz.prog 244 #[.pointer (some ⟨b, o, none⟩)] w fun e w' => e = .returned (.int .i64 c) ∧ w' = w := by
  go_enter Tryz.func244, Tryz.ntmps244
  go_wp2
  go_ret
  exact ⟨rfl, rfl⟩
end Go.Proofs.YthllhabjfchgiaaGreatDoor

/- Package lang: a set of which something is asked. -/
namespace Go.Proofs.YthllhabjfchgiaaGreatDoor
open Go.RowKit
open Hx (Tk)
attribute [local go_sem ↓] Go.wp_at_zero Go.wp_at_succ
attribute [local go_sem] setCell_drewN'
variable {w : World} {P : Nat} {s : ByteArray} {k : Tk} {dp en ea : Int}

theorem is_lit (h : PrIn w P s k dp en ea) (l : List UInt8) (b : Bool) (hb : (k.text.toList == l) = b) : Calls Tryz.prog 242 #[.pointer (some ⟨P, 0, none⟩), .string ⟨l.toArray⟩] w fun e w' => e = .returned (.bool b) ∧ w' = w := by
  have := is_any h ⟨l.toArray⟩
  rw [show (⟨l.toArray⟩ : ByteArray).toList = l from ByteArray.toList_mk l, hb] at this
  exact this

/-- a set without filters -/
def SetAt (w : World) (S : Nat) (at' : Int) (base : ByteArray) (of : Int) : Prop := w.heap[S]? = some (.cells #[.int .i64 at', .int .i64 1, .string base, .int .i64 of, .slice none 0 0] 348)

theorem SetAt.grow {S : Nat} {at' of : Int} {base : ByteArray} (h : SetAt w S at' base of) {w' : World} (hg : w.grownBy w' (some P)) (hn : S ≠ P) : SetAt w' S at' base of :=
  (hg.block S (lt_of_some h) (by simpa using hn)).trans h

/-- the base of a set, and the type of what is in it -/
def setOf (u : List UInt8) : Option Int := if u == [82, 79, 65, 68, 83] then some 3 else if u == [70, 82, 69, 83, 72] || u == [65, 71, 65, 73, 78] then some 4 else none

theorem ext_newPart (at' : Int) (x : Ext w) : Calls Tryz.prog 234 #[.int .i64 at', .slice none 0 0] x.val fun e w'' => e = .returned (.agg #[.int .i64 at', .int .i64 1]) ∧ ∃ y : Ext w, w'' = y.val :=
  Calls.ext_of (newPart_any at' (.slice none 0 0) [] ⟨fun _ h => (List.not_mem_nil h).elim, by simp, Or.inl ⟨rfl, rfl⟩⟩)

set_option maxRecDepth 100000 in
set_option maxHeartbeats 1000000 in
theorem set_asked (h : PrIn w P s k dp en ea) (hs : s.size ≤ 4000) (k1 k2 : Tk) (of : Int) (hk : TokOk s k) (hof : setOf k.text.toList = some of) (hk1 : nxt s k = k1) (hok1 : TokOk s k1) (ht1 : (k1.text.toList == [46]) = true) (hk2 : nxt s k1 = k2) (ht2 : (k2.text.toList == [102, 105, 108, 116, 101, 114]) = false) :
    Calls Tryz.prog 243 #[.pointer (some ⟨P, 0, none⟩)] w fun e w' => ∃ S, e = .returned (.tuple #[.pointer (some ⟨S, 0, none⟩), .bool true]) ∧ w.heap.size ≤ S ∧ SetAt w' S k.at' k.text of ∧ PrIn w' P s k2 dp en ea ∧ w.grownBy w' (some P) := by
  have hL := h.lt
  have e2 : ∀ x : Ext w, x.val.cell? ⟨P, 2, none⟩ = some (.string k.text) := fun x => (h.grow x.grown).c2
  have e3 : ∀ x : Ext w, x.val.cell? ⟨P, 3, none⟩ = some (.int .i64 k.at') := fun x => (h.grow x.grown).c3
  have hne := ext_some w
  have HW : Hid (∀ w', w.grownBy w' none → PrIn w' P s k dp en ea) := fun w' hg => h.grow hg
  have HX : Hid (∀ x : Ext w, Calls Tryz.prog 234 #[.int .i64 k.at', .slice none 0 0] x.val fun e w'' => e = .returned (.agg #[.int .i64 k.at', .int .i64 1]) ∧ ∃ y : Ext w, w'' = y.val) := fun x => ext_newPart _ x
  have HK : Hid (∀ w', PrIn w' P s k dp en ea → Calls Tryz.prog 236 #[.pointer (some ⟨P, 0, none⟩)] w' fun e w'' => e = .returned (tkV k) ∧ PrIn w'' P s k1 dp en ea ∧ w'.grownBy w'' (some P)) := fun w' hp => by
    rw [← hk1]; exact next_ok hp hk hs
  have HK1 : Hid (∀ w', PrIn w' P s k1 dp en ea → Calls Tryz.prog 236 #[.pointer (some ⟨P, 0, none⟩)] w' fun e w'' => e = .returned (tkV k1) ∧ PrIn w'' P s k2 dp en ea ∧ w'.grownBy w'' (some P)) := fun w' hp => by
    rw [← hk2]; exact next_ok hp hok1 hs
  have HI1 : Hid (∀ w', PrIn w' P s k1 dp en ea → Calls Tryz.prog 242 #[.pointer (some ⟨P, 0, none⟩), .string ⟨#[46]⟩] w' fun e w'' => e = .returned (.bool true) ∧ w'' = w') := fun w' hp => is_lit hp [46] true ht1
  have HI2 : Hid (∀ w', PrIn w' P s k2 dp en ea → Calls Tryz.prog 242 #[.pointer (some ⟨P, 0, none⟩), .string ⟨#[102, 105, 108, 116, 101, 114]⟩] w' fun e w'' => e = .returned (.bool false) ∧ w'' = w') := fun w' hp => is_lit hp [102, 105, 108, 116, 101, 114] false ht2
  clear h hk hk1 hok1 ht1 hk2 ht2
  -- the rest, behind the set's block
  have HF : Hid (∀ wx, w.grownBy wx none → ∀ o, o = Obj.cells #[.int .i64 k.at', .int .i64 1, .string k.text, .int .i64 of, .slice none 0 0] 348 → PrIn (wx.alloc o) P s k dp en ea ∧ SetAt (wx.alloc o) wx.heap.size k.at' k.text of ∧ w.grownBy (wx.alloc o) (some P) ∧ w.heap.size ≤ wx.heap.size) := fun wx hg o ho => by
    subst ho
    exact ⟨(HW.out wx hg).grow (World.grownBy_alloc _ _ none), heap_alloc_new _ _, (hg.trans (World.grownBy_alloc _ _ none)).but _, hg.size⟩
  cases hr : (k.text.toList == [82, 79, 65, 68, 83]) with
  | true =>
    have hof3 : of = 3 := by simp only [setOf, hr, if_true, Option.some.injEq] at hof; omega
    subst hof3
    clear hof
    go_enter Tryz.func243, Tryz.ntmps243
    go_wp2_with fail
    refine wp_ext_tail 12 (by kernel_rfl) (by kernel_rfl) ?_
    simp only [List.take_succ_cons, List.take_zero, List.drop_succ_cons, List.drop_zero]
    repeat (go_big_quiet_step ((go_at_call 234; exact HX.out _)))
    refine wpQuiet_nil ?_
    intro wx hg
    have f2 := (HW.out wx hg).c2
    have hPx := (HW.out wx hg).lt
    have n1 : ¬ P = wx.heap.size := by omega
    obtain ⟨g1, g2, g3, g4⟩ := HF.out wx hg _ rfl
    have HG1 : Hid (PrIn (wx.alloc (Obj.cells #[.int .i64 k.at', .int .i64 1, .string k.text, .int .i64 3, .slice none 0 0] 348)) P s k dp en ea) := g1
    have HG2 : Hid (SetAt (wx.alloc (Obj.cells #[.int .i64 k.at', .int .i64 1, .string k.text, .int .i64 3, .slice none 0 0] 348)) wx.heap.size k.at' k.text 3) := g2
    have HG3 : Hid (w.grownBy (wx.alloc (Obj.cells #[.int .i64 k.at', .int .i64 1, .string k.text, .int .i64 3, .slice none 0 0] 348)) (some P)) := g3
    clear e2 e3 g1 g2 g3 hg HF HX HW
    go_wp2_with fail
    refine (HK.out _ HG1.out).mono ?_
    rintro e w2 ⟨rfl, p2, q2⟩
    have HS2 : Hid (SetAt w2 wx.heap.size k.at' k.text 3) := HG2.out.grow q2 (by omega)
    have HQ2 : Hid (w.grownBy w2 (some P)) := HG3.out.trans q2
    have HP2 : Hid (PrIn w2 P s k1 dp en ea) := p2
    clear p2 q2 HG1 HG2 HG3
    go_wp2_with fail
    refine wp_loop_rounds 1 ?_
    rw [rounds_succ]
    go_wp2_with fail
    refine (HI1.out _ HP2.out).mono ?_
    rintro e w3 ⟨rfl, rfl⟩
    go_wp2_with fail
    refine (HK1.out _ HP2.out).mono ?_
    rintro e w4 ⟨rfl, p4, q4⟩
    have HS4 : Hid (SetAt w4 wx.heap.size k.at' k.text 3) := HS2.out.grow q4 (by omega)
    have HQ4 : Hid (w.grownBy w4 (some P)) := HQ2.out.trans q4
    have HP4 : Hid (PrIn w4 P s k2 dp en ea) := p4
    clear p4 q4 HS2 HQ2 HP2
    go_wp2_with fail
    refine (HI2.out _ HP4.out).mono ?_
    rintro e w5 ⟨rfl, rfl⟩
    go_wp2_with fail
    go_ret2
    exact ⟨_, rfl, g4, HS4.out, HP4.out, HQ4.out⟩
  | false =>
    have hof4 : of = 4 ∧ ((k.text.toList == [70, 82, 69, 83, 72]) = true ∨ (k.text.toList == [65, 71, 65, 73, 78]) = true) := by
      simp only [setOf, hr, Bool.false_eq_true, if_false] at hof
      split at hof
      · rename_i hx
        rw [Bool.or_eq_true] at hx
        exact ⟨by simp at hof; omega, hx⟩
      · cases hof
    obtain ⟨hof3, hor⟩ := hof4
    subst hof3
    clear hof
    cases hf : (k.text.toList == [70, 82, 69, 83, 72]) with
    | true =>
      clear hor
      go_enter Tryz.func243, Tryz.ntmps243
      go_wp2_with fail
      refine wp_ext_tail 12 (by kernel_rfl) (by kernel_rfl) ?_
      simp only [List.take_succ_cons, List.take_zero, List.drop_succ_cons, List.drop_zero]
      repeat (go_big_quiet_step ((go_at_call 234; exact HX.out _)))
      refine wpQuiet_nil ?_
      intro wx hg
      have f2 := (HW.out wx hg).c2
      have hPx := (HW.out wx hg).lt
      have n1 : ¬ P = wx.heap.size := by omega
      obtain ⟨g1, g2, g3, g4⟩ := HF.out wx hg _ rfl
      have HG1 : Hid (PrIn (wx.alloc (Obj.cells #[.int .i64 k.at', .int .i64 1, .string k.text, .int .i64 4, .slice none 0 0] 348)) P s k dp en ea) := g1
      have HG2 : Hid (SetAt (wx.alloc (Obj.cells #[.int .i64 k.at', .int .i64 1, .string k.text, .int .i64 4, .slice none 0 0] 348)) wx.heap.size k.at' k.text 4) := g2
      have HG3 : Hid (w.grownBy (wx.alloc (Obj.cells #[.int .i64 k.at', .int .i64 1, .string k.text, .int .i64 4, .slice none 0 0] 348)) (some P)) := g3
      clear e2 e3 g1 g2 g3 hg HF HX HW
      go_wp2_with fail
      refine (HK.out _ HG1.out).mono ?_
      rintro e w2 ⟨rfl, p2, q2⟩
      have HS2 : Hid (SetAt w2 wx.heap.size k.at' k.text 4) := HG2.out.grow q2 (by omega)
      have HQ2 : Hid (w.grownBy w2 (some P)) := HG3.out.trans q2
      have HP2 : Hid (PrIn w2 P s k1 dp en ea) := p2
      clear p2 q2 HG1 HG2 HG3
      go_wp2_with fail
      refine wp_loop_rounds 1 ?_
      rw [rounds_succ]
      go_wp2_with fail
      refine (HI1.out _ HP2.out).mono ?_
      rintro e w3 ⟨rfl, rfl⟩
      go_wp2_with fail
      refine (HK1.out _ HP2.out).mono ?_
      rintro e w4 ⟨rfl, p4, q4⟩
      have HS4 : Hid (SetAt w4 wx.heap.size k.at' k.text 4) := HS2.out.grow q4 (by omega)
      have HQ4 : Hid (w.grownBy w4 (some P)) := HQ2.out.trans q4
      have HP4 : Hid (PrIn w4 P s k2 dp en ea) := p4
      clear p4 q4 HS2 HQ2 HP2
      go_wp2_with fail
      refine (HI2.out _ HP4.out).mono ?_
      rintro e w5 ⟨rfl, rfl⟩
      go_wp2_with fail
      go_ret2
      exact ⟨_, rfl, g4, HS4.out, HP4.out, HQ4.out⟩
    | false =>
      have ha : (k.text.toList == [65, 71, 65, 73, 78]) = true := by rcases hor with h | h; · rw [hf] at h; cases h
                                                                     · exact h
      clear hor
      go_enter Tryz.func243, Tryz.ntmps243
      go_wp2_with fail
      refine wp_ext_tail 12 (by kernel_rfl) (by kernel_rfl) ?_
      simp only [List.take_succ_cons, List.take_zero, List.drop_succ_cons, List.drop_zero]
      repeat (go_big_quiet_step ((go_at_call 234; exact HX.out _)))
      refine wpQuiet_nil ?_
      intro wx hg
      have f2 := (HW.out wx hg).c2
      have hPx := (HW.out wx hg).lt
      have n1 : ¬ P = wx.heap.size := by omega
      obtain ⟨g1, g2, g3, g4⟩ := HF.out wx hg _ rfl
      have HG1 : Hid (PrIn (wx.alloc (Obj.cells #[.int .i64 k.at', .int .i64 1, .string k.text, .int .i64 4, .slice none 0 0] 348)) P s k dp en ea) := g1
      have HG2 : Hid (SetAt (wx.alloc (Obj.cells #[.int .i64 k.at', .int .i64 1, .string k.text, .int .i64 4, .slice none 0 0] 348)) wx.heap.size k.at' k.text 4) := g2
      have HG3 : Hid (w.grownBy (wx.alloc (Obj.cells #[.int .i64 k.at', .int .i64 1, .string k.text, .int .i64 4, .slice none 0 0] 348)) (some P)) := g3
      clear e2 e3 g1 g2 g3 hg HF HX HW
      go_wp2_with fail
      refine (HK.out _ HG1.out).mono ?_
      rintro e w2 ⟨rfl, p2, q2⟩
      have HS2 : Hid (SetAt w2 wx.heap.size k.at' k.text 4) := HG2.out.grow q2 (by omega)
      have HQ2 : Hid (w.grownBy w2 (some P)) := HG3.out.trans q2
      have HP2 : Hid (PrIn w2 P s k1 dp en ea) := p2
      clear p2 q2 HG1 HG2 HG3
      go_wp2_with fail
      refine wp_loop_rounds 1 ?_
      rw [rounds_succ]
      go_wp2_with fail
      refine (HI1.out _ HP2.out).mono ?_
      rintro e w3 ⟨rfl, rfl⟩
      go_wp2_with fail
      refine (HK1.out _ HP2.out).mono ?_
      rintro e w4 ⟨rfl, p4, q4⟩
      have HS4 : Hid (SetAt w4 wx.heap.size k.at' k.text 4) := HS2.out.grow q4 (by omega)
      have HQ4 : Hid (w.grownBy w4 (some P)) := HQ2.out.trans q4
      have HP4 : Hid (PrIn w4 P s k2 dp en ea) := p4
      clear p4 q4 HS2 HQ2 HP2
      go_wp2_with fail
      refine (HI2.out _ HP4.out).mono ?_
      rintro e w5 ⟨rfl, rfl⟩
      go_wp2_with fail
      go_ret2
      exact ⟨_, rfl, g4, HS4.out, HP4.out, HQ4.out⟩
end Go.Proofs.YthllhabjfchgiaaGreatDoor

/- Package lang: asking. -/
namespace Go.Proofs.YthllhabjfchgiaaGreatDoor
open Go.RowKit
open Hx (Tk)
attribute [local go_sem ↓] Go.wp_at_zero Go.wp_at_succ
attribute [local go_sem] setCell_drewN'
variable {w : World} {P : Nat} {s : ByteArray} {k : Tk} {dp en ea : Int}

theorem field_text (a c : Int) (b : ByteArray) (w : World) : (Instr.field 249 (.agg #[.int .i64 a, .string b, .int .i64 c]) 1).run Tryz.prog w = .ok (.string b) w := by kernel_rfl
theorem field_at (a c : Int) (b : ByteArray) (w : World) : (Instr.field 249 (.agg #[.int .i64 a, .string b, .int .i64 c]) 2).run Tryz.prog w = .ok (.int .i64 c) w := by kernel_rfl

/-- what is asked of a set, in block A -/
def AskAt (w : World) (A S : Nat) (at' cost kind : Int) (what : ByteArray) : Prop := w.heap[A]? = some (.cells #[.int .i64 at', .int .i64 cost, .int .i64 kind, .string what, .pointer (some ⟨S, 0, none⟩)] 412)

theorem four_new (w : World) (a b c d : Obj) : ((((w.alloc a).alloc b).alloc c).alloc d).drew.heap[w.heap.size + 1 + 1 + 1]? = some d ∧ w.grownBy ((((w.alloc a).alloc b).alloc c).alloc d).drew none := by
  constructor
  · have e : ((((w.alloc a).alloc b).alloc c).alloc d).drew.heap = (((w.heap.push a).push b).push c).push d := rfl
    rw [e, Array.getElem?_push, if_pos (by simp)]
  · exact (World.grownBy_alloc w a none).trans ((World.grownBy_alloc _ b none).trans ((World.grownBy_alloc _ c none).trans ((World.grownBy_alloc _ d none).trans ⟨rfl, rfl, rfl, Nat.le_refl _, fun _ _ _ => rfl⟩)))

set_option maxRecDepth 100000 in
set_option maxHeartbeats 1000000 in
theorem asking_ok (h : PrIn w P s k dp en ea) (hs : s.size ≤ 4000) (hk : TokOk s k) (S : Nat) (at' : Int) (base : ByteArray) (of kind : Int) (hS : SetAt w S at' base of) (hne : S ≠ P) :
    Calls Tryz.prog 277 #[.pointer (some ⟨P, 0, none⟩), .pointer (some ⟨S, 0, none⟩), .int .i64 kind] w fun e w' => ∃ A, e = .returned (.iface 410 (.pointer (some ⟨A, 0, none⟩))) ∧ w.heap.size ≤ A ∧ AskAt w' A S at' 2 kind k.text ∧ SetAt w' S at' base of ∧ PrIn w' P s (nxt s k) dp en ea ∧ w.grownBy w' (some P) := by
  have HN : Hid (Calls Tryz.prog 236 #[.pointer (some ⟨P, 0, none⟩)] w fun e w' => e = .returned (tkV k) ∧ PrIn w' P s (nxt s k) dp en ea ∧ w.grownBy w' (some P)) := next_ok h hk hs
  have HS : Hid (SetAt w S at' base of) := hS
  clear h hS
  go_enter Tryz.func277, Tryz.ntmps277
  go_wp2_with fail
  refine HN.out.mono ?_
  rintro e w1 ⟨rfl, p1, q1⟩
  have hS1 := HS.out.grow q1 hne
  have c0 : w1.cell? ⟨S, 0, none⟩ = some (.int .i64 at') := cell_at hS1
  have c1 : w1.cell? ⟨S, 1, none⟩ = some (.int .i64 1) := cell_at hS1
  have hlt := lt_of_some hS1
  have n1 : ¬ S = w1.heap.size := by omega
  have n2 : ¬ S = w1.heap.size + 1 := by omega
  have n3 : ¬ S = w1.heap.size + 1 + 1 := by omega
  have HC : Hid (∀ x : World, x.cell? ⟨w1.heap.size, 0, none⟩ = some (.int .i64 1) → Calls Tryz.prog 234 #[.int .i64 at', .slice (some ⟨w1.heap.size, 0, none⟩) 1 1] x fun e w' => e = .returned (.agg #[.int .i64 at', .int .i64 2]) ∧ w' = (x.alloc (.cells #[.int .i64 at', .int .i64 2] 323)).alloc (.cells #[.int .i64 1, .int .i64 1] 3)) := fun x hx =>
    newPart_exact at' _ [1] ⟨by simp, by simp, Or.inr ⟨_, _, rfl, fun i y hy => by
      match i, hy with
      | 0, hy => cases hy; exact hx⟩⟩
  have HCd := HC.out (w1.alloc (.cells #[.int .i64 1] 3)).drew (by
    have hh : (w1.alloc (.cells #[.int .i64 1] 3)).drew.heap[w1.heap.size]? = some (.cells #[.int .i64 1] 3) := heap_alloc_new w1 _
    exact cell_at hh)
  have HCd : Hid (Calls Tryz.prog 234 #[.int .i64 at', .slice (some ⟨w1.heap.size, 0, none⟩) 1 1] (w1.alloc (.cells #[.int .i64 1] 3)).drew fun e w' => e = .returned (.agg #[.int .i64 at', .int .i64 2]) ∧ w' = ((w1.alloc (.cells #[.int .i64 1] 3)).drew.alloc (.cells #[.int .i64 at', .int .i64 2] 323)).alloc (.cells #[.int .i64 1, .int .i64 1] 3)) := HCd
  have hft := field_text k.kind k.at' k.text
  unfold tkV
  have HP1 : Hid (PrIn w1 P s (nxt s k) dp en ea) := p1
  have HQ1 : Hid (w.grownBy w1 (some P)) := q1
  have HS1 : Hid (SetAt w1 S at' base of) := hS1
  clear p1 q1 hS1 HN HS
  go_upto_region 2 with fail
  go_cut [6] (fun r wx => r = .iface 410 (.pointer (some ⟨w1.heap.size + 1 + 1 + 1, 0, none⟩)) ∧ AskAt wx (w1.heap.size + 1 + 1 + 1) S at' 2 kind k.text ∧ w1.grownBy wx none)
  case first =>
    go_region_with (first | (go_at_call 244; refine (price_at S 0 1 (by first | exact c1 | (simp; exact c1))).mono ?_; rintro e w' ⟨rfl, rfl⟩) | (go_at_call 234; refine HCd.out.mono ?_; rintro e w' ⟨rfl, rfl⟩))
    all_goals (go_wp2_with fail; go_meet; exact ⟨rfl, (four_new w1 _ _ _ _).1, (four_new w1 _ _ _ _).2⟩)
  case rest =>
    obtain ⟨rfl, h1, h2⟩ := hcut
    go_wp2_with fail
    go_ret
    refine ⟨_, rfl, by have := HQ1.out.size; omega, h1, HS1.out.grow (h2.but (some P)) hne, HP1.out.grow h2, HQ1.out.trans (h2.but _)⟩
end Go.Proofs.YthllhabjfchgiaaGreatDoor

/- Package lang: an expr that is no operation. -/
namespace Go.Proofs.YthllhabjfchgiaaGreatDoor
open Go.RowKit
open Hx (Tk)
attribute [local go_sem ↓] Go.wp_at_zero Go.wp_at_succ
attribute [local go_sem] setCell_drewN'
variable {w : World} {P : Nat} {s : ByteArray} {k k' : Tk} {dp en ea : Int} {E : World → Nat → Value → Prop}

/-- a method of the parser that reads an expr: from token k up to token k' -/
def Reads (fn : FuncId) (more : List Value) (P : Nat) (s : ByteArray) (k k' : Tk) (dp en ea : Int) (E : World → Nat → Value → Prop) : Prop :=
  ∀ x : World, PrIn x P s k dp en ea → Calls Tryz.prog fn (.pointer (some ⟨P, 0, none⟩) :: more).toArray x fun e w' => ∃ v, e = .returned v ∧ E w' x.heap.size v ∧ PrIn w' P s k' dp en ea ∧ x.grownBy w' (some P)

/-- what is asked of a set, as an expr -/
def AskE (at' of : Int) (base what : ByteArray) (w : World) (B : Nat) (v : Value) : Prop :=
  ∃ A S, v = .iface 410 (.pointer (some ⟨A, 0, none⟩)) ∧ B ≤ A ∧ B ≤ S ∧ AskAt w A S at' 2 of what ∧ SetAt w S at' base of

set_option maxRecDepth 100000 in
set_option maxHeartbeats 1000000 in
theorem question_first (hs : s.size ≤ 4000) (k1 k2 : Tk) (of : Int) (hk : TokOk s k) (hof : setOf k.text.toList = some of) (hk1 : nxt s k = k1) (hok1 : TokOk s k1) (ht1 : (k1.text.toList == [46]) = true) (hk2 : nxt s k1 = k2) (hok2 : TokOk s k2) (ht2 : k2.text.toList = [102, 105, 114, 115, 116]) (hk3 : nxt s k2 = k') :
    Reads 275 [] P s k k' dp en ea (AskE k.at' of k.text k2.text) := by
  intro w h
  have hL := h.lt
  have HS : Hid (Calls Tryz.prog 243 #[.pointer (some ⟨P, 0, none⟩)] w fun e w' => ∃ S, e = .returned (.tuple #[.pointer (some ⟨S, 0, none⟩), .bool true]) ∧ w.heap.size ≤ S ∧ SetAt w' S k.at' k.text of ∧ PrIn w' P s k2 dp en ea ∧ w.grownBy w' (some P)) :=
    set_asked h hs k1 k2 of hk hof hk1 hok1 ht1 hk2 (by rw [ht2]; decide)
  have t1 : (k2.text.toList == [99, 111, 117, 110, 116]) = false := by rw [ht2]; decide
  have t2 : (k2.text.toList == [102, 105, 114, 115, 116]) = true := by rw [ht2]; decide
  clear h ht2
  show Calls Tryz.prog 275 #[.pointer (some ⟨P, 0, none⟩)] w _
  go_enter Tryz.func275, Tryz.ntmps275
  go_wp2_with fail
  refine HS.out.mono ?_
  rintro e w1 ⟨S, rfl, hS, s1, p1, q1⟩
  have c2 := p1.c2
  have o2 : w1.cell? ⟨S, 3, none⟩ = some (.int .i64 of) := cell_at s1
  have HA : Hid (Calls Tryz.prog 277 #[.pointer (some ⟨P, 0, none⟩), .pointer (some ⟨S, 0, none⟩), .int .i64 of] w1 fun e w' => ∃ A, e = .returned (.iface 410 (.pointer (some ⟨A, 0, none⟩))) ∧ w1.heap.size ≤ A ∧ AskAt w' A S k.at' 2 of k2.text ∧ SetAt w' S k.at' k.text of ∧ PrIn w' P s k' dp en ea ∧ w1.grownBy w' (some P)) := by
    rw [← hk3]
    exact asking_ok p1 hs hok2 S k.at' k.text of of s1 (by omega)
  have HQ1 : Hid (w.grownBy w1 (some P)) := q1
  clear p1 q1 s1 HS
  go_wp2_with fail
  refine HA.out.mono ?_
  rintro e w2 ⟨A, rfl, hA, a2, s2, p2, q2⟩
  have HQ : Hid (AskE k.at' of k.text k2.text w2 w.heap.size (.iface 410 (.pointer (some ⟨A, 0, none⟩))) ∧ PrIn w2 P s k' dp en ea ∧ w.grownBy w2 (some P)) := ⟨⟨A, S, rfl, by have := HQ1.out.size; omega, hS, a2, s2⟩, p2, HQ1.out.trans q2⟩
  clear a2 s2 p2 q2 HA HQ1
  go_wp2_with fail
  go_ret
  exact ⟨_, rfl, HQ.out⟩

set_option maxRecDepth 100000 in
set_option maxHeartbeats 1000000 in
theorem basic_set (hq : Reads 275 [] P s k k' dp en ea E) (hk : k.kind = 5) (of : Int) (hof : setOf k.text.toList = some of) :
    Reads 270 [] P s k k' dp en ea E := by
  intro w h
  have HQ : Hid (Calls Tryz.prog 275 #[.pointer (some ⟨P, 0, none⟩)] w fun e w' => ∃ v, e = .returned v ∧ E w' w.heap.size v ∧ PrIn w' P s k' dp en ea ∧ w.grownBy w' (some P)) := hq w h
  have c1 := h.c1
  have c2 := h.c2
  have c3 := h.c3
  rw [hk] at c1
  have hcs : k.text.toList = [82, 79, 65, 68, 83] ∨ k.text.toList = [70, 82, 69, 83, 72] ∨ k.text.toList = [65, 71, 65, 73, 78] := by
    unfold setOf at hof
    split at hof
    · rename_i h1; exact Or.inl (by simpa using h1)
    · split at hof
      · rename_i h1; simp only [Bool.or_eq_true, beq_iff_eq] at h1; exact Or.inr h1
      · cases hof
  clear h hof hq
  show Calls Tryz.prog 270 #[.pointer (some ⟨P, 0, none⟩)] w _
  rcases hcs with ht | ht | ht
  all_goals
    have t1 : (k.text.toList == [116, 114, 117, 101]) = false := by rw [ht]; decide
    have t2 : (k.text.toList == [102, 97, 108, 115, 101]) = false := by rw [ht]; decide
    have t3 : (k.text.toList == [40]) = false := by rw [ht]; decide
    have t4 : (k.text.toList == [105, 115, 110, 111, 110, 101]) = false := by rw [ht]; decide
    clear hk
  · have t5 : (k.text.toList == [82, 79, 65, 68, 83]) = true := by rw [ht]; decide
    clear ht
    go_enter Tryz.func270, Tryz.ntmps270
    go_wp2_with fail
    refine HQ.out.mono ?_
    rintro e w2 ⟨v, rfl, h1⟩
    have HH : Hid (E w2 w.heap.size v ∧ PrIn w2 P s k' dp en ea ∧ w.grownBy w2 (some P)) := h1
    clear h1 HQ
    go_wp2_with fail
    go_ret
    exact ⟨_, rfl, HH.out⟩
  · have t5 : (k.text.toList == [82, 79, 65, 68, 83]) = false := by rw [ht]; decide
    have t6 : (k.text.toList == [70, 82, 69, 83, 72]) = true := by rw [ht]; decide
    clear ht
    go_enter Tryz.func270, Tryz.ntmps270
    go_wp2_with fail
    refine HQ.out.mono ?_
    rintro e w2 ⟨v, rfl, h1⟩
    have HH : Hid (E w2 w.heap.size v ∧ PrIn w2 P s k' dp en ea ∧ w.grownBy w2 (some P)) := h1
    clear h1 HQ
    go_wp2_with fail
    go_ret
    exact ⟨_, rfl, HH.out⟩
  · have t5 : (k.text.toList == [82, 79, 65, 68, 83]) = false := by rw [ht]; decide
    have t6 : (k.text.toList == [70, 82, 69, 83, 72]) = false := by rw [ht]; decide
    have t7 : (k.text.toList == [65, 71, 65, 73, 78]) = true := by rw [ht]; decide
    clear ht
    go_enter Tryz.func270, Tryz.ntmps270
    go_wp2_with fail
    refine HQ.out.mono ?_
    rintro e w2 ⟨v, rfl, h1⟩
    have HH : Hid (E w2 w.heap.size v ∧ PrIn w2 P s k' dp en ea ∧ w.grownBy w2 (some P)) := h1
    clear h1 HQ
    go_wp2_with fail
    go_ret
    exact ⟨_, rfl, HH.out⟩

set_option maxRecDepth 100000 in
set_option maxHeartbeats 1000000 in
theorem behind_pass (hq : Reads 270 [] P s k k' dp en ea E) (hd : (k'.text.toList == [46]) = false) : Reads 269 [] P s k k' dp en ea E := by
  intro w h
  have HQ : Hid (Calls Tryz.prog 270 #[.pointer (some ⟨P, 0, none⟩)] w fun e w' => ∃ v, e = .returned v ∧ E w' w.heap.size v ∧ PrIn w' P s k' dp en ea ∧ w.grownBy w' (some P)) := hq w h
  have c3 := h.c3
  clear h hq
  show Calls Tryz.prog 269 #[.pointer (some ⟨P, 0, none⟩)] w _
  go_enter Tryz.func269, Tryz.ntmps269
  go_wp2_with fail
  refine HQ.out.mono ?_
  rintro e w2 ⟨v, rfl, h1, p1, q1⟩
  have HI : Hid (Calls Tryz.prog 242 #[.pointer (some ⟨P, 0, none⟩), .string ⟨#[46]⟩] w2 fun e w' => e = .returned (.bool false) ∧ w' = w2) := is_lit p1 [46] false hd
  have HH : Hid (E w2 w.heap.size v ∧ PrIn w2 P s k' dp en ea ∧ w.grownBy w2 (some P)) := ⟨h1, p1, q1⟩
  clear h1 p1 q1 HQ
  go_wp2_with fail
  refine wp_loop_rounds 1 ?_
  rw [rounds_succ]
  go_wp2_with fail
  refine HI.out.mono ?_
  rintro e w3 ⟨rfl, rfl⟩
  go_wp2_with fail
  go_ret
  exact ⟨_, rfl, HH.out⟩

set_option maxRecDepth 100000 in
set_option maxHeartbeats 1000000 in
theorem minus_pass (hq : Reads 269 [] P s k k' dp en ea E) (h1 : (k.text.toList == [45]) = false) (h2 : (k.text.toList == [33]) = false) : Reads 265 [] P s k k' dp en ea E := by
  intro w h
  have HQ : Hid (∀ n, Calls Tryz.prog 269 #[.pointer (some ⟨P, 0, none⟩)] (w.drewN n) fun e w' => ∃ v, e = .returned v ∧ E w' w.heap.size v ∧ PrIn w' P s k' dp en ea ∧ w.grownBy w' (some P)) := fun n => by
    refine (hq (w.drewN n) (h.grow (grown_drewN _ n))).mono ?_
    rintro e w' ⟨v, e1, e2, e3, e4⟩
    exact ⟨v, e1, e2, e3, ((grown_drewN w n).but _).trans e4⟩
  have c2 := h.c2
  have c3 := h.c3
  clear h hq
  show Calls Tryz.prog 265 #[.pointer (some ⟨P, 0, none⟩)] w _
  go_enter Tryz.func265, Tryz.ntmps265
  go_wp2_with fail
  go_quiet (fail)
  go_wp2_with fail
  refine (HQ.out _).mono ?_
  rintro e w2 ⟨v, rfl, h3⟩
  have HH : Hid (E w2 w.heap.size v ∧ PrIn w2 P s k' dp en ea ∧ w.grownBy w2 (some P)) := h3
  clear h3 HQ
  go_wp2_with fail
  go_ret
  exact ⟨_, rfl, HH.out⟩

set_option maxRecDepth 100000 in
set_option maxHeartbeats 1000000 in
theorem operation_last (hq : Reads 265 [] P s k k' dp en ea E) : Reads 256 [.int .i64 6] P s k k' dp en ea E := by
  intro w h
  have HQ : Hid (Calls Tryz.prog 265 #[.pointer (some ⟨P, 0, none⟩)] w fun e w' => ∃ v, e = .returned v ∧ E w' w.heap.size v ∧ PrIn w' P s k' dp en ea ∧ w.grownBy w' (some P)) := hq w h
  clear h hq
  show Calls Tryz.prog 256 #[.pointer (some ⟨P, 0, none⟩), .int .i64 6] w _
  go_enter Tryz.func256, Tryz.ntmps256
  go_wp2_with fail
  refine HQ.out.mono ?_
  rintro e w2 ⟨v, rfl, h3⟩
  have HH : Hid (E w2 w.heap.size v ∧ PrIn w2 P s k' dp en ea ∧ w.grownBy w2 (some P)) := h3
  clear h3 HQ
  go_wp2_with fail
  go_ret
  exact ⟨_, rfl, HH.out⟩

set_option maxRecDepth 100000 in
set_option maxHeartbeats 1000000 in
theorem operation_next (of : Int) (h0 : 0 ≤ of) (h5 : of ≤ 5) (hq : Reads 256 [.int .i64 (of + 1)] P s k k' dp en ea E) (hl : Hx.isSign k'.text.toList = false) : Reads 256 [.int .i64 of] P s k k' dp en ea E := by
  intro w h
  have HQ : Hid (Calls Tryz.prog 256 #[.pointer (some ⟨P, 0, none⟩), .int .i64 (of + 1)] w fun e w' => ∃ v, e = .returned v ∧ E w' w.heap.size v ∧ PrIn w' P s k' dp en ea ∧ w.grownBy w' (some P)) := hq w h
  have HL : Hid (∀ w, Calls Tryz.prog 266 #[.string k'.text] w fun e w' => e = .returned (.int .i64 6) ∧ w' = w) := fun w => level_none _ hl w
  have c3 := h.c3
  have d6 : (of == 6) = false := by simp; omega
  have d7 : ((6 : Int) == of) = false := by simp; omega
  clear h hq hl
  show Calls Tryz.prog 256 #[.pointer (some ⟨P, 0, none⟩), .int .i64 of] w _
  go_enter Tryz.func256, Tryz.ntmps256
  go_wp2_with fail
  refine HQ.out.mono ?_
  rintro e w2 ⟨v, rfl, h3, p3, q3⟩
  have c2 := p3.c2
  have HH : Hid (E w2 w.heap.size v ∧ PrIn w2 P s k' dp en ea ∧ w.grownBy w2 (some P)) := ⟨h3, p3, q3⟩
  clear h3 p3 q3 HQ
  go_wp2_with fail
  refine wp_loop_rounds 1 ?_
  rw [rounds_succ]
  go_wp2_with fail
  refine (HL.out _).mono ?_
  rintro e w3 ⟨rfl, rfl⟩
  go_wp2_with fail
  go_ret
  exact ⟨_, rfl, HH.out⟩

/-- an expr that begins with no sign, and behind which none stands -/
theorem expr_pass (hq : Reads 270 [] P s k k' dp en ea E) (h1 : (k.text.toList == [45]) = false) (h2 : (k.text.toList == [33]) = false) (hd : (k'.text.toList == [46]) = false) (hl : Hx.isSign k'.text.toList = false) : Reads 238 [] P s k k' dp en ea E := by
  have o6 := operation_last (minus_pass (behind_pass hq hd) h1 h2)
  have o5 := operation_next 5 (by omega) (by omega) o6 hl
  have o4 := operation_next 4 (by omega) (by omega) o5 hl
  have o3 := operation_next 3 (by omega) (by omega) o4 hl
  have o2 := operation_next 2 (by omega) (by omega) o3 hl
  have o1 := operation_next 1 (by omega) (by omega) o2 hl
  have o0 := operation_next 0 (by omega) (by omega) o1 hl
  intro w h
  have HQ : Hid (Calls Tryz.prog 256 #[.pointer (some ⟨P, 0, none⟩), .int .i64 0] w fun e w' => ∃ v, e = .returned v ∧ E w' w.heap.size v ∧ PrIn w' P s k' dp en ea ∧ w.grownBy w' (some P)) := o0 w h
  clear h hq o0 o1 o2 o3 o4 o5 o6
  show Calls Tryz.prog 238 #[.pointer (some ⟨P, 0, none⟩)] w _
  go_enter Tryz.func238, Tryz.ntmps238
  go_wp2_with fail
  refine HQ.out.mono ?_
  rintro e w2 ⟨v, rfl, h3⟩
  have HH : Hid (E w2 w.heap.size v ∧ PrIn w2 P s k' dp en ea ∧ w.grownBy w2 (some P)) := h3
  clear h3 HQ
  go_wp2_with fail
  go_ret
  exact ⟨_, rfl, HH.out⟩
end Go.Proofs.YthllhabjfchgiaaGreatDoor

/- Package lang: numbers, registers, given. -/
namespace Go.Proofs.YthllhabjfchgiaaGreatDoor
open Go.RowKit
open Hx (Tk)
attribute [local go_sem ↓] Go.wp_at_zero Go.wp_at_succ
attribute [local go_sem] setCell_drewN'
variable {w : World} {P : Nat} {s : ByteArray} {k k' : Tk} {dp en ea : Int} {E : World → Nat → Value → Prop}

/-- a literal -/
def NumE (at' n : Int) (w : World) (B : Nat) (v : Value) : Prop :=
  ∃ A, v = .iface 405 (.pointer (some ⟨A, 0, none⟩)) ∧ B ≤ A ∧ w.heap[A]? = some (.cells #[.int .i64 at', .int .i64 1, .int .i64 1, .int .i64 n] 407)

theorem grown_bytes (w : World) (e : TypeId) (t : ByteArray) : w.grownBy (Lib.bytesWorld w e t) none := ⟨rfl, rfl, rfl, by rw [Lib.bytesWorld_size]; omega, fun j hj _ => Lib.bytesWorld_at_old w e t j hj⟩

set_option maxRecDepth 100000 in
set_option maxHeartbeats 1000000 in
theorem number_ok (hs : s.size ≤ 4000) (hk : TokOk s k) (n : Int) (hsz : k.text.size ≤ 18) (ha : Lib.atoi k.text.data.toList = some n) (hk3 : nxt s k = k') :
    Reads 273 [] P s k k' dp en ea (NumE k.at' n) := by
  intro w h
  have HN : Hid (Calls Tryz.prog 236 #[.pointer (some ⟨P, 0, none⟩)] w fun e w' => e = .returned (tkV k) ∧ PrIn w' P s k' dp en ea ∧ w.grownBy w' (some P)) := by
    rw [← hk3]; exact next_ok h hk hs
  have HA : Hid (∀ w, Calls Tryz.prog 276 #[.string k.text] w fun e w' => e = .returned (.tuple #[.int .i64 n, .nilIface]) ∧ w.grownBy w' none) := fun w => by
    refine (Tryz.strconv_Atoi k.text n hsz ha w).mono ?_
    rintro e w' ⟨h1, t, rfl⟩
    exact ⟨h1, grown_bytes _ _ _⟩
  clear h ha
  show Calls Tryz.prog 273 #[.pointer (some ⟨P, 0, none⟩)] w _
  go_enter Tryz.func273, Tryz.ntmps273
  go_wp2_with fail
  refine HN.out.mono ?_
  rintro e w1 ⟨rfl, p1, q1⟩
  have HP1 : Hid (PrIn w1 P s k' dp en ea ∧ w.grownBy w1 (some P)) := ⟨p1, q1⟩
  clear p1 q1 HN
  unfold tkV
  go_wp2_with fail
  refine (HA.out _).mono ?_
  rintro e w2 ⟨rfl, g2⟩
  have hb2 : w2.heap[w1.heap.size]? = some (.cells #[.int .i64 k.kind, .string k.text, .int .i64 k.at'] 249) := (g2.block _ (by simp) (by simp)).trans (heap_alloc_new w1 _)
  have b2 : w2.cell? ⟨w1.heap.size, 2, none⟩ = some (.int .i64 k.at') := cell_at hb2
  have HG2 : Hid (w1.grownBy w2 none) := (World.grownBy_alloc w1 _ none).trans g2
  clear hb2 g2 HA
  go_wp2_with fail
  refine (newPart_any k.at' (.slice none 0 0) [] ⟨fun _ h => (List.not_mem_nil h).elim, by simp, Or.inl ⟨rfl, rfl⟩⟩).mono ?_
  rintro e w3 ⟨rfl, g3⟩
  have HG3 : Hid (w1.grownBy w3 none) := HG2.out.trans g3
  have hpc : partCost [] = 1 := by decide
  rw [hpc]
  clear g3 HG2 b2
  have HF : Hid (∀ o, o = Obj.cells #[.int .i64 k.at', .int .i64 1, .int .i64 1, .int .i64 n] 407 → NumE k.at' n (w3.alloc o) w.heap.size (.iface 405 (.pointer (some ⟨w3.heap.size, 0, none⟩))) ∧ PrIn (w3.alloc o) P s k' dp en ea ∧ w.grownBy (w3.alloc o) (some P)) := by
    intro o ho
    subst ho
    have hg := HG3.out.trans (World.grownBy_alloc w3 (Obj.cells #[.int .i64 k.at', .int .i64 1, .int .i64 1, .int .i64 n] 407) none)
    exact ⟨⟨w3.heap.size, rfl, by have := HP1.out.2.size; have := HG3.out.size; omega, heap_alloc_new _ _⟩, HP1.out.1.grow hg, HP1.out.2.trans (hg.but _)⟩
  go_wp2_with fail
  go_ret
  exact ⟨_, rfl, HF.out _ rfl⟩

set_option maxRecDepth 100000 in
set_option maxHeartbeats 1000000 in
theorem basic_number (hq : Reads 273 [] P s k k' dp en ea E) (hk : k.kind = 3) : Reads 270 [] P s k k' dp en ea E := by
  intro w h
  have HQ : Hid (Calls Tryz.prog 273 #[.pointer (some ⟨P, 0, none⟩)] w fun e w' => ∃ v, e = .returned v ∧ E w' w.heap.size v ∧ PrIn w' P s k' dp en ea ∧ w.grownBy w' (some P)) := hq w h
  have c1 := h.c1
  have c2 := h.c2
  have c3 := h.c3
  rw [hk] at c1
  clear h hq
  show Calls Tryz.prog 270 #[.pointer (some ⟨P, 0, none⟩)] w _
  go_enter Tryz.func270, Tryz.ntmps270
  go_wp2_with fail
  refine HQ.out.mono ?_
  rintro e w2 ⟨v, rfl, h1⟩
  have HH : Hid (E w2 w.heap.size v ∧ PrIn w2 P s k' dp en ea ∧ w.grownBy w2 (some P)) := h1
  clear h1 HQ
  go_wp2_with fail
  go_ret
  exact ⟨_, rfl, HH.out⟩

set_option maxRecDepth 100000 in
set_option maxHeartbeats 1000000 in
theorem register_ok (h : PrIn w P s k dp en ea) (hs : s.size ≤ 4000) (hk : TokOk s k) (c : Int) (hsz : 1 < k.text.size) (hc : (k.text[1].toNat : Int) = 48 + c) (h0 : 0 ≤ c) (h1 : c ≤ 7) :
    Calls Tryz.prog 235 #[.pointer (some ⟨P, 0, none⟩)] w fun e w' => e = .returned (.int .i64 c) ∧ PrIn w' P s (nxt s k) dp en ea ∧ w.grownBy w' (some P) := by
  have HN : Hid (Calls Tryz.prog 236 #[.pointer (some ⟨P, 0, none⟩)] w fun e w' => e = .returned (tkV k) ∧ PrIn w' P s (nxt s k) dp en ea ∧ w.grownBy w' (some P)) := next_ok h hk hs
  have hft := field_text k.kind k.at' k.text
  have i1 : (1 : Int) < (k.text.size : Int) := by omega
  clear h
  go_enter Tryz.func235, Tryz.ntmps235
  go_wp2_with fail
  refine HN.out.mono ?_
  rintro e w1 ⟨rfl, p1, q1⟩
  have HP1 : Hid (PrIn w1 P s (nxt s k) dp en ea ∧ w.grownBy w1 (some P)) := ⟨p1, q1⟩
  clear p1 q1 HN
  unfold tkV
  go_wp2_with fail
  go_ret
  exact ⟨ret_int (by omega), HP1.out⟩
end Go.Proofs.YthllhabjfchgiaaGreatDoor
