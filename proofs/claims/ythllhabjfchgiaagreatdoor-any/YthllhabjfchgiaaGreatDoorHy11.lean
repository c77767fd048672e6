import Derived.Test.YthllhabjfchgiaaGreatDoorHy03
import Derived.Test.YthllhabjfchgiaaGreatDoorHy02
import Derived.Test.YthllhabjfchgiaaGreatDoorHy10
import Derived.LoopN
import Derived.Deep.CutBlock
import Derived.Deep.DeepCutAuto
/- Package lang: the parser in memory. -/
namespace Go.Proofs.YthllhabjfchgiaaGreatDoor
open Go.RowKit
open Hx (Tk)
attribute [local go_sem ↓] Go.wp_at_zero Go.wp_at_succ
attribute [local go_sem] setCell_drewN'

/-- a world that has grown -/
structure Ext (w : World) where
  val : World
  grown : w.grownBy val none

theorem ext_some (w : World) : Nonempty (Ext w) := ⟨⟨w, World.grownBy.refl w none⟩⟩

/-- a region that draws its order, whose first operations only read or lay new blocks -/
theorem wp_ext_tail {P : Program} {id : Nat} {Q : Exit → Act → World → Prop} {a : Act} {w : World} {l : List Oper} (n : Nat) (hm : P.follows .mixedOrders = true) (hB : Region.lexTailB .any l.toArray n = true)
    (h : wpQuiet P l.toArray (fun w' => ∃ x : Ext w, w' = x.val) (fun a' => ∀ w', w.grownBy w' none → wpList P l.toArray Q (l.drop n) a' w') (l.take n) a) : (Code.region id l.toArray true).wp P Q a w := by
  refine wp_quiet_tail_of (C := fun w' => ∃ x : Ext w, w' = x.val) n hm hB ⟨⟨w.drew, ⟨rfl, rfl, rfl, Nat.le_refl _, fun _ _ _ => rfl⟩⟩, rfl⟩ ?_
  have mono : ∀ (l' : List Oper) (a : Act), wpQuiet P l.toArray (fun w' => ∃ x : Ext w, w' = x.val) (fun a' => ∀ w', w.grownBy w' none → wpList P l.toArray Q (l.drop n) a' w') l' a →
      wpQuiet P l.toArray (fun w' => ∃ x : Ext w, w' = x.val) (fun a' => ∀ w', (∃ x : Ext w, w' = x.val) → wpList P l.toArray Q (l.drop n) a' w') l' a := by
    intro l'
    induction l' with
    | nil =>
      intro a h
      rintro w' ⟨x, rfl⟩
      exact h _ x.grown
    | cons o rest ih =>
      intro a h
      unfold wpQuiet at h ⊢
      split
      · rename_i hw
        rw [if_pos hw] at h
        obtain ⟨v, h1, h2⟩ := h
        exact ⟨v, h1, ih _ h2⟩
      · rename_i hw
        rw [if_neg hw] at h
        exact ih _ h
  exact mono _ _ h

/-- a callee that lays new blocks alone -/
theorem Calls.ext_of {P : Program} {f : FuncId} {args : Array Value} {w : World} {x : Ext w} {v : Value} (h : Calls P f args x.val fun e w' => e = .returned v ∧ x.val.grownBy w' none) :
    Calls P f args x.val fun e w'' => e = .returned v ∧ ∃ y : Ext w, w'' = y.val :=
  h.mono fun _ w'' ⟨he, hg⟩ => ⟨he, ⟨w'', x.grown.trans hg⟩, rfl⟩

/-- the parser in block P -/
structure PrIn (w : World) (P : Nat) (s : ByteArray) (k : Tk) (dp en ea : Int) : Prop where
  c0 : w.cell? ⟨P, 0, none⟩ = some (.string s)
  c1 : w.cell? ⟨P, 1, none⟩ = some (.int .i64 k.kind)
  c2 : w.cell? ⟨P, 2, none⟩ = some (.string k.text)
  c3 : w.cell? ⟨P, 3, none⟩ = some (.int .i64 k.at')
  c4 : w.cell? ⟨P, 4, none⟩ = some (.int .i64 dp)
  c5 : w.cell? ⟨P, 5, none⟩ = some (.int .i64 en)
  c6 : w.cell? ⟨P, 6, none⟩ = some (.int .i64 ea)
  fr : ∀ j, w.frozen? ⟨P, j, none⟩ = false

variable {w : World} {P : Nat} {s : ByteArray} {k : Tk} {dp en ea : Int}

theorem PrIn.lt (h : PrIn w P s k dp en ea) : P < w.heap.size := World.block_lt_of_cell? w _ h.c0

theorem PrIn.grow (h : PrIn w P s k dp en ea) {w' : World} (hg : w.grownBy w' none) : PrIn w' P s k dp en ea := by
  have hb : w'.heap[P]? = w.heap[P]? := hg.block P h.lt (by simp)
  have hc : ∀ j, w'.cell? ⟨P, j, none⟩ = w.cell? ⟨P, j, none⟩ := fun j => World.cell?_of_block hb
  exact ⟨by rw [hc]; exact h.c0, by rw [hc]; exact h.c1, by rw [hc]; exact h.c2, by rw [hc]; exact h.c3, by rw [hc]; exact h.c4, by rw [hc]; exact h.c5, by rw [hc]; exact h.c6,
    fun j => (World.frozen?_of_block hb).trans (h.fr j)⟩

theorem PrIn.set (h : PrIn w P s k dp en ea) (j : Nat) (v : Value) (k' : Tk) (dp' en' ea' : Int) (h0 : ¬ j = 0)
    (h1 : (if j = 1 then v else .int .i64 k.kind) = .int .i64 k'.kind) (h2 : (if j = 2 then v else .string k.text) = .string k'.text) (h3 : (if j = 3 then v else .int .i64 k.at') = .int .i64 k'.at')
    (h4 : (if j = 4 then v else .int .i64 dp) = .int .i64 dp') (h5 : (if j = 5 then v else .int .i64 en) = .int .i64 en') (h6 : (if j = 6 then v else .int .i64 ea) = .int .i64 ea') :
    PrIn (w.setCell ⟨P, j, none⟩ v) P s k' dp' en' ea' := by
  have key : ∀ i u, w.cell? ⟨P, i, none⟩ = some u → (w.setCell ⟨P, j, none⟩ v).cell? ⟨P, i, none⟩ = some (if j = i then v else u) := fun i u hu => by
    by_cases e : j = i
    · subst e
      rw [if_pos rfl]
      exact World.cell?_setCell_same _ _ _ hu
    · rw [if_neg e, World.cell?_setCell_other _ _ _ _ (by intro h; cases h; exact e rfl)]
      exact hu
  exact ⟨by rw [key 0 _ h.c0, if_neg h0], by rw [key 1 _ h.c1, h1], by rw [key 2 _ h.c2, h2], by rw [key 3 _ h.c3, h3], by rw [key 4 _ h.c4, h4], by rw [key 5 _ h.c5, h5], by rw [key 6 _ h.c6, h6], fun i => by rw [World.frozen?_setCell]; exact h.fr i⟩

theorem PrIn.far (h : PrIn w P s k dp en ea) {w' : World} {g : Nat} (hg : w.grownBy w' (some g)) (hne : P ≠ g) : PrIn w' P s k dp en ea := by
  have hb : w'.heap[P]? = w.heap[P]? := hg.block P h.lt (by simpa using hne)
  have hc : ∀ j, w'.cell? ⟨P, j, none⟩ = w.cell? ⟨P, j, none⟩ := fun j => World.cell?_of_block hb
  exact ⟨by rw [hc]; exact h.c0, by rw [hc]; exact h.c1, by rw [hc]; exact h.c2, by rw [hc]; exact h.c3, by rw [hc]; exact h.c4, by rw [hc]; exact h.c5, by rw [hc]; exact h.c6,
    fun j => (World.frozen?_of_block hb).trans (h.fr j)⟩

theorem grown_new {w x : World} {r : Option Nat} (h : w.grownBy x r) {g : Nat} (hg : w.heap.size ≤ g) (j : Nat) (v : Value) : w.grownBy (x.setCell ⟨g, j, none⟩ v) r :=
  h.andThen (grown_set x g j v) (fun j e => by cases e; exact Or.inl hg)

theorem grown_own {w x : World} {P : Nat} (h : w.grownBy x (some P)) (j : Nat) (v : Value) : w.grownBy (x.setCell ⟨P, j, none⟩ v) (some P) := h.trans (grown_set x P j v)

theorem set3 (w : World) (g : Nat) (T : TypeId) (a0 a1 a2 v0 v1 v2 : Value) (h : w.heap[g]? = some (.cells #[a0, a1, a2] T)) :
    (((w.setCell ⟨g, 0, none⟩ v0).setCell ⟨g, 1, none⟩ v1).setCell ⟨g, 2, none⟩ v2).heap[g]? = some (.cells #[v0, v1, v2] T) := by
  have h0 : (w.setCell ⟨g, 0, none⟩ v0).heap[g]? = some (.cells #[v0, a1, a2] T) := heap_setCell_same _ _ _ _ _ _ h
  have h1 : ((w.setCell ⟨g, 0, none⟩ v0).setCell ⟨g, 1, none⟩ v1).heap[g]? = some (.cells #[v0, v1, a2] T) := heap_setCell_same _ _ _ _ _ _ h0
  exact heap_setCell_same _ _ _ _ _ _ h1

theorem next_results (tmps : Array Value) (w : World) (g : Nat) (k : Tk) (h2 : tmps[2]? = some (.pointer (some ⟨g, 0, none⟩))) (h : w.heap[g]? = some (.cells #[.int .i64 k.kind, .string k.text, .int .i64 k.at'] 249)) :
    (results Tryz.f236 tmps).run Tryz.prog w = .ok (tkV k) w := by
  have q0 : w.cell? ⟨g, 0, none⟩ = some (.int .i64 k.kind) := cell_at h
  have q1 : w.cell? ⟨g, 1, none⟩ = some (.string k.text) := cell_at h
  have q2 : w.cell? ⟨g, 2, none⟩ = some (.int .i64 k.at') := cell_at h
  simp [results, Tryz.results236, go_sem, h2, q0, q1, q2, tkV]

theorem is_any (h : PrIn w P s k dp en ea) (t : ByteArray) : Calls Tryz.prog 242 #[.pointer (some ⟨P, 0, none⟩), .string t] w fun e w' => e = .returned (.bool (k.text.toList == t.toList)) ∧ w' = w := by
  have c2 := h.c2
  clear h
  go_enter Tryz.func242, Tryz.ntmps242
  go_wp2
  go_ret
  exact ⟨rfl, rfl⟩

set_option maxRecDepth 100000 in
set_option maxHeartbeats 1000000 in
theorem next_any (h : PrIn w P s k dp en ea) (i : Nat) (hi : k.at' = i) (hb : i + k.text.size ≤ s.size) (hs : s.size ≤ 4000) :
    Calls Tryz.prog 236 #[.pointer (some ⟨P, 0, none⟩)] w fun e w' => e = .returned (tkV k) ∧ PrIn w' P s (Hx.scan s (i + k.text.size)) dp en ea ∧ w.grownBy w' (some P) := by
  have c0 := h.c0
  have c1 := h.c1
  have c2 := h.c2
  have c3 := h.c3
  have hL := h.lt
  rw [hi] at c3
  have n1 : ¬ P = w.heap.size := by omega
  have n2 : ¬ P = w.heap.size + 1 := by omega
  have HS : Hid (∀ w, Calls Tryz.prog 140 #[.string s, .int .i64 ((i + k.text.size : Nat) : Int)] w fun e w' => e = .returned (tkV (Hx.scan s (i + k.text.size))) ∧ w.grownBy w' none) := fun w => scan_any s _ w hs hb
  obtain ⟨y, hy⟩ : ∃ y, i + k.text.size = y := ⟨_, rfl⟩
  have hyI : (i : Int) + (k.text.size : Int) = (y : Int) := by omega
  rw [hy] at HS ⊢
  have hgW : w.grownBy ((w.alloc (.cells #[.int .i64 0, .string ⟨#[]⟩, .int .i64 0] 249)).alloc (.cells #[.int .i64 k.kind, .string k.text, .int .i64 i] 249)) none := (World.grownBy_alloc w _ none).trans (World.grownBy_alloc _ _ none)
  have hbox : ((w.alloc (.cells #[.int .i64 0, .string ⟨#[]⟩, .int .i64 0] 249)).alloc (.cells #[.int .i64 k.kind, .string k.text, .int .i64 i] 249)).heap[w.heap.size + 1]? = some (.cells #[.int .i64 k.kind, .string k.text, .int .i64 i] 249) := (heap_two_new w _ _).1
  have hres : ((w.alloc (.cells #[.int .i64 0, .string ⟨#[]⟩, .int .i64 0] 249)).alloc (.cells #[.int .i64 k.kind, .string k.text, .int .i64 i] 249)).heap[w.heap.size]? = some (.cells #[.int .i64 0, .string ⟨#[]⟩, .int .i64 0] 249) := (heap_two_new w _ _).2
  have e0 : ∀ x : Ext ((w.alloc (.cells #[.int .i64 0, .string ⟨#[]⟩, .int .i64 0] 249)).alloc (.cells #[.int .i64 k.kind, .string k.text, .int .i64 i] 249)), x.val.cell? ⟨P, 0, none⟩ = some (.string s) := fun x => (h.grow (hgW.trans x.grown)).c0
  have e1 : ∀ x : Ext ((w.alloc (.cells #[.int .i64 0, .string ⟨#[]⟩, .int .i64 0] 249)).alloc (.cells #[.int .i64 k.kind, .string k.text, .int .i64 i] 249)), x.val.cell? ⟨w.heap.size + 1, 1, none⟩ = some (.string k.text) := fun x => cell_at ((x.grown.block _ (lt_of_some hbox) (by simp)).trans hbox)
  have e2 : ∀ x : Ext ((w.alloc (.cells #[.int .i64 0, .string ⟨#[]⟩, .int .i64 0] 249)).alloc (.cells #[.int .i64 k.kind, .string k.text, .int .i64 i] 249)), x.val.cell? ⟨w.heap.size + 1, 2, none⟩ = some (.int .i64 i) := fun x => cell_at ((x.grown.block _ (lt_of_some hbox) (by simp)).trans hbox)
  have HW : Hid (∀ w', ((w.alloc (.cells #[.int .i64 0, .string ⟨#[]⟩, .int .i64 0] 249)).alloc (.cells #[.int .i64 k.kind, .string k.text, .int .i64 i] 249)).grownBy w' none → PrIn w' P s k dp en ea ∧ w.grownBy w' none ∧ w'.heap[w.heap.size + 1]? = some (.cells #[.int .i64 k.kind, .string k.text, .int .i64 i] 249) ∧ w'.heap[w.heap.size]? = some (.cells #[.int .i64 0, .string ⟨#[]⟩, .int .i64 0] 249)) := fun w' hg =>
    ⟨h.grow (hgW.trans hg), hgW.trans hg, (hg.block _ (lt_of_some hbox) (by simp)).trans hbox, (hg.block _ (lt_of_some hres) (by simp)).trans hres⟩
  clear hgW hbox hres h
  go_enter Tryz.func236, Tryz.ntmps236
  go_wp2_with fail
  have hne := ext_some ((w.alloc (.cells #[.int .i64 0, .string ⟨#[]⟩, .int .i64 0] 249)).alloc (.cells #[.int .i64 k.kind, .string k.text, .int .i64 i] 249))
  refine wp_ext_tail 14 (by kernel_rfl) (by kernel_rfl) ?_
  simp only [List.take_succ_cons, List.take_zero, List.drop_succ_cons, List.drop_zero]
  repeat (go_big_quiet_step ((go_at_call 140; exact Calls.ext_of (HS.out _))))
  refine wpQuiet_nil ?_
  intro w' hg
  obtain ⟨hp, hg2, hbx, hrs⟩ := HW.out w' hg
  have f0 := hp.c0
  have f1 := hp.c1
  have f2 := hp.c2
  have f3 := hp.c3
  have ff := hp.fr
  have q0 : w'.cell? ⟨w.heap.size + 1, 0, none⟩ = some (.int .i64 k.kind) := cell_at hbx
  have q1 : w'.cell? ⟨w.heap.size + 1, 1, none⟩ = some (.string k.text) := cell_at hbx
  have q2 : w'.cell? ⟨w.heap.size + 1, 2, none⟩ = some (.int .i64 i) := cell_at hbx
  have r0 : w'.cell? ⟨w.heap.size, 0, none⟩ = some (.int .i64 0) := cell_at hrs
  have r1 : w'.cell? ⟨w.heap.size, 1, none⟩ = some (.string ⟨#[]⟩) := cell_at hrs
  have r2 : w'.cell? ⟨w.heap.size, 2, none⟩ = some (.int .i64 0) := cell_at hrs
  have rf : ∀ j, w'.frozen? ⟨w.heap.size, j, none⟩ = false := fun j => frozen_at hrs
  have n3 : ¬ w.heap.size + 1 = P := by omega
  have n4 : ¬ w.heap.size = P := by omega
  have HX : Hid (∀ k' : Tk, PrIn ((((((w'.setCell ⟨P, 1, none⟩ (.int .i64 k'.kind)).setCell ⟨P, 2, none⟩ (.string k'.text)).setCell ⟨P, 3, none⟩ (.int .i64 k'.at')).setCell ⟨w.heap.size, 0, none⟩ (.int .i64 k.kind)).setCell ⟨w.heap.size, 1, none⟩ (.string k.text)).setCell ⟨w.heap.size, 2, none⟩ (.int .i64 i)) P s k' dp en ea ∧
      w.grownBy ((((((w'.setCell ⟨P, 1, none⟩ (.int .i64 k'.kind)).setCell ⟨P, 2, none⟩ (.string k'.text)).setCell ⟨P, 3, none⟩ (.int .i64 k'.at')).setCell ⟨w.heap.size, 0, none⟩ (.int .i64 k.kind)).setCell ⟨w.heap.size, 1, none⟩ (.string k.text)).setCell ⟨w.heap.size, 2, none⟩ (.int .i64 i)) (some P) ∧
      ((((((w'.setCell ⟨P, 1, none⟩ (.int .i64 k'.kind)).setCell ⟨P, 2, none⟩ (.string k'.text)).setCell ⟨P, 3, none⟩ (.int .i64 k'.at')).setCell ⟨w.heap.size, 0, none⟩ (.int .i64 k.kind)).setCell ⟨w.heap.size, 1, none⟩ (.string k.text)).setCell ⟨w.heap.size, 2, none⟩ (.int .i64 i)).heap[w.heap.size]? = some (.cells #[.int .i64 k.kind, .string k.text, .int .i64 k.at'] 249)) := fun k' => by
    have a1 := hp.set 1 (.int .i64 k'.kind) ⟨k'.kind, k.text, k.at'⟩ dp en ea (by omega) rfl rfl rfl rfl rfl rfl
    have a2 := a1.set 2 (.string k'.text) ⟨k'.kind, k'.text, k.at'⟩ dp en ea (by omega) rfl rfl rfl rfl rfl rfl
    have a3 := a2.set 3 (.int .i64 k'.at') k' dp en ea (by omega) rfl rfl rfl rfl rfl rfl
    refine ⟨((a3.far (grown_set _ _ _ _) n1).far (grown_set _ _ _ _) n1).far (grown_set _ _ _ _) n1, ?_, ?_⟩
    · exact grown_new (grown_new (grown_new (grown_own (grown_own (grown_own (hg2.but _) _ _) _ _) _ _) (Nat.le_refl _) _ _) (Nat.le_refl _) _ _) (Nat.le_refl _) _ _
    · rw [hi]
      refine set3 _ _ _ (.int .i64 0) (.string ⟨#[]⟩) (.int .i64 0) _ _ _ ?_
      rw [Below.heap_setCell _ _ _ _ n4, Below.heap_setCell _ _ _ _ n4, Below.heap_setCell _ _ _ _ n4]
      exact hrs
  clear HW hg hbx hrs e0 e1 e2 c0 c1 c2 c3 HS
  generalize hk' : Hx.scan s y = k' at *
  unfold tkV
  go_wp2_with fail
  obtain ⟨x1, x2, x3⟩ := HX.out k'
  refine bodyPost_ret (next_results _ _ w.heap.size k rfl x3) rfl ?_
  exact ⟨rfl, by rw [hk']; exact x1, x2⟩
end Go.Proofs.YthllhabjfchgiaaGreatDoor

/- Package lang: expect, open, close, newPart, level. -/
namespace Go.Proofs.YthllhabjfchgiaaGreatDoor
open Go.RowKit
open Hx (Tk)
attribute [local go_sem ↓] Go.wp_at_zero Go.wp_at_succ
attribute [local go_sem] setCell_drewN'
variable {w : World} {P : Nat} {s : ByteArray} {k : Tk} {dp en ea : Int}

/-- a token that lies in the text -/
structure TokOk (s : ByteArray) (k : Tk) : Prop where
  at0 : 0 ≤ k.at'
  bd : k.at'.toNat + k.text.size ≤ s.size

/-- the token behind one -/
def nxt (s : ByteArray) (k : Tk) : Tk := Hx.scan s (k.at'.toNat + k.text.size)

theorem next_ok (h : PrIn w P s k dp en ea) (hk : TokOk s k) (hs : s.size ≤ 4000) :
    Calls Tryz.prog 236 #[.pointer (some ⟨P, 0, none⟩)] w fun e w' => e = .returned (tkV k) ∧ PrIn w' P s (nxt s k) dp en ea ∧ w.grownBy w' (some P) :=
  next_any h k.at'.toNat (by have := hk.at0; omega) hk.bd hs

theorem expect_ok (h : PrIn w P s k dp en ea) (hk : TokOk s k) (hs : s.size ≤ 4000) (t : ByteArray) (ht : (k.text.toList == t.toList) = true) :
    Calls Tryz.prog 239 #[.pointer (some ⟨P, 0, none⟩), .string t] w fun e w' => e = .returned (.tuple #[]) ∧ PrIn w' P s (nxt s k) dp en ea ∧ w.grownBy w' (some P) := by
  have HI : Hid (Calls Tryz.prog 242 #[.pointer (some ⟨P, 0, none⟩), .string t] w fun e w' => e = .returned (.bool true) ∧ w' = w) := by
    have := is_any h t
    rw [ht] at this
    exact this
  have HN : Hid (Calls Tryz.prog 236 #[.pointer (some ⟨P, 0, none⟩)] w fun e w' => e = .returned (tkV k) ∧ PrIn w' P s (nxt s k) dp en ea ∧ w.grownBy w' (some P)) := next_ok h hk hs
  clear h ht hk
  go_enter Tryz.func239, Tryz.ntmps239
  go_wp2_with fail
  refine HI.out.mono ?_
  rintro e w1 ⟨rfl, rfl⟩
  go_wp2_with fail
  refine HN.out.mono ?_
  rintro e w2 ⟨rfl, h1, h2⟩
  have HQ : Hid (PrIn w2 P s (nxt s k) dp en ea ∧ w1.grownBy w2 (some P)) := ⟨h1, h2⟩
  clear h1 h2 HN HI
  go_wp2_with fail
  go_end0
  exact ⟨rfl, HQ.out⟩

theorem open_ok (h : PrIn w P s k dp en ea) (hk : TokOk s k) (hs : s.size ≤ 4000) (hd : (dp == 20) = false) (hdb : 0 ≤ dp) (hdc : dp ≤ 20) (t : ByteArray) (ht : (k.text.toList == t.toList) = true) :
    Calls Tryz.prog 237 #[.pointer (some ⟨P, 0, none⟩), .string t] w fun e w' => e = .returned (.tuple #[]) ∧ PrIn w' P s (nxt s k) (dp + 1) en ea ∧ w.grownBy w' (some P) := by
  have c4 := h.c4
  have HN : Hid (Calls Tryz.prog 239 #[.pointer (some ⟨P, 0, none⟩), .string t] w fun e w' => e = .returned (.tuple #[]) ∧ PrIn w' P s (nxt s k) dp en ea ∧ w.grownBy w' (some P)) := expect_ok h hk hs t ht
  clear h ht hk
  go_enter Tryz.func237, Tryz.ntmps237
  go_wp2_with fail
  refine HN.out.mono ?_
  rintro e w2 ⟨rfl, h1, h2⟩
  have d4 := h1.c4
  have ff := h1.fr
  have HQ : Hid (PrIn (w2.setCell ⟨P, 4, none⟩ (.int .i64 (dp + 1))) P s (nxt s k) (dp + 1) en ea ∧ w.grownBy (w2.setCell ⟨P, 4, none⟩ (.int .i64 (dp + 1))) (some P)) := ⟨h1.set 4 _ (nxt s k) (dp + 1) en ea (by omega) rfl rfl rfl rfl rfl rfl, grown_own h2 _ _⟩
  clear h1 h2 HN
  go_wp2_with fail
  go_end0
  exact ⟨rfl, HQ.out⟩

theorem close_ok (h : PrIn w P s k dp en ea) (hk : TokOk s k) (hs : s.size ≤ 4000) (hdb : 0 ≤ dp) (hdc : dp ≤ 21) (t : ByteArray) (ht : (k.text.toList == t.toList) = true) :
    Calls Tryz.prog 240 #[.pointer (some ⟨P, 0, none⟩), .string t] w fun e w' => e = .returned (.tuple #[]) ∧ PrIn w' P s (nxt s k) (dp - 1) en ea ∧ w.grownBy w' (some P) := by
  have HN : Hid (Calls Tryz.prog 239 #[.pointer (some ⟨P, 0, none⟩), .string t] w fun e w' => e = .returned (.tuple #[]) ∧ PrIn w' P s (nxt s k) dp en ea ∧ w.grownBy w' (some P)) := expect_ok h hk hs t ht
  clear h ht hk
  go_enter Tryz.func240, Tryz.ntmps240
  go_wp2_with fail
  refine HN.out.mono ?_
  rintro e w2 ⟨rfl, h1, h2⟩
  have d4 := h1.c4
  have ff := h1.fr
  have HQ : Hid (PrIn (w2.setCell ⟨P, 4, none⟩ (.int .i64 (dp - 1))) P s (nxt s k) (dp - 1) en ea ∧ w.grownBy (w2.setCell ⟨P, 4, none⟩ (.int .i64 (dp - 1))) (some P)) := ⟨h1.set 4 _ (nxt s k) (dp - 1) en ea (by omega) rfl rfl rfl rfl rfl rfl, grown_own h2 _ _⟩
  clear h1 h2 HN
  go_wp2_with fail
  go_end0
  exact ⟨rfl, HQ.out⟩

/-- total: costs added up, never above 1000001 -/
def totalOf (xs : List Int) : Int := xs.foldl (fun a c => min (a + c) 1000001) 0

theorem total_nil (w : World) : Calls Tryz.prog 143 #[.slice none 0 0] w fun e w' => e = .returned (.int .i64 0) ∧ w' = w := by
  go_enter Tryz.func143, Tryz.ntmps143
  go_wp2
  go_loop [3, 5, 8] (fun a _ i => a = .int .i64 0 ∧ i = .int .i64 0) (fun _ _ _ => 0)
  case atStart => exact ⟨rfl, rfl⟩
  case round =>
    obtain ⟨rfl, rfl⟩ := hrel
    go_wp2
    go_ret
    exact ⟨rfl, rfl⟩

theorem total_step (xs : List Int) (k : Nat) (h : k < xs.length) (a : Int) : (xs.drop k).foldl (fun a c => min (a + c) 1000001) a = (xs.drop (k + 1)).foldl (fun a c => min (a + c) 1000001) (min (a + xs[k]) 1000001) := by
  rw [List.drop_eq_getElem_cons h, List.foldl_cons]

set_option maxRecDepth 100000 in
set_option maxHeartbeats 1000000 in
theorem total_at (w : World) (b cap : Nat) (xs : List Int) (hx : ∀ x ∈ xs, 0 ≤ x ∧ x ≤ 1000001) (hn : xs.length ≤ 1000000) (hc : ∀ (i : Nat) (x : Int), xs[i]? = some x → w.cell? ⟨b, i, none⟩ = some (.int .i64 x)) :
    Calls Tryz.prog 143 #[.slice (some ⟨b, 0, none⟩) xs.length cap] w fun e w' => e = .returned (.int .i64 (totalOf xs)) ∧ w' = w := by
  have HR : Hid (totalOf xs = (xs.drop 0).foldl (fun a c => min (a + c) 1000001) 0) := rfl
  generalize hr : totalOf xs = r at *
  clear hr
  go_enter Tryz.func143, Tryz.ntmps143
  go_wp2
  go_loop [3, 5, 8] (fun a _ i => ∃ (k : Nat) (z : Int), k ≤ xs.length ∧ 0 ≤ z ∧ z ≤ 1000001 ∧ a = .int .i64 z ∧ i = .int .i64 k ∧ Hid (r = (xs.drop k).foldl (fun a c => min (a + c) 1000001) z)) (fun _ _ i => xs.length - (intOf i).toNat)
  case atStart => exact ⟨0, 0, Nat.zero_le _, by omega, by omega, rfl, rfl, HR⟩
  case round =>
    obtain ⟨k, z, hk, z0, z1, rfl, rfl, HK⟩ := hrel
    clear HR
    by_cases hlt : k < xs.length
    · have d1 : decide ((k : Int) < (xs.length : Int)) = true := by simp; omega
      have i0 : (0 : Int) ≤ (k : Int) := by omega
      have i1 : (k : Int) < (xs.length : Int) := by omega
      have hg : xs[k]? = some xs[k] := List.getElem?_eq_getElem hlt
      have ck := hc k _ hg
      have hb := hx _ (List.getElem_mem hlt)
      have HE := HK.out
      rw [total_step xs k hlt] at HE
      generalize xs[k] = x at *
      have HK2 : Hid (∀ y, y = min (z + x) 1000001 → r = (xs.drop (k + 1)).foldl (fun a c => min (a + c) 1000001) y) := fun y hy => by rw [hy]; exact HE
      clear HK HE hg hc
      generalize xs.length = n at *
      go_wp2
      all_goals (refine ⟨⟨k + 1, _, by omega, ?_, ?_, rfl, by go_num, HK2.out _ (by omega)⟩, by simp [intOf]; omega⟩)
      all_goals omega
    · have d1 : decide ((k : Int) < (xs.length : Int)) = false := by simp; omega
      have e : r = z := by rw [HK.out, List.drop_of_length_le (by omega)]; rfl
      subst e
      clear HK
      go_wp2
      go_ret
      exact ⟨rfl, rfl⟩
end Go.Proofs.YthllhabjfchgiaaGreatDoor

/- Package lang: newPart, level. -/
namespace Go.Proofs.YthllhabjfchgiaaGreatDoor
open Go.RowKit
open Hx (Tk)
attribute [local go_sem ↓] Go.wp_at_zero Go.wp_at_succ
attribute [local go_sem] setCell_drewN'
variable {w : World} {P : Nat} {s : ByteArray} {k : Tk} {dp en ea : Int}

/-- costs in memory -/
def Costs (w : World) (v : Value) (xs : List Int) : Prop :=
  (∀ x ∈ xs, 0 ≤ x ∧ x ≤ 1000001) ∧ xs.length ≤ 1000 ∧ ((v = .slice none 0 0 ∧ xs = []) ∨ ∃ b cap, v = .slice (some ⟨b, 0, none⟩) xs.length cap ∧ ∀ (i : Nat) (x : Int), xs[i]? = some x → w.cell? ⟨b, i, none⟩ = some (.int .i64 x))

theorem Costs.grow {v : Value} {xs : List Int} (h : Costs w v xs) {w' : World} (hg : w.grownBy w' none) : Costs w' v xs := by
  obtain ⟨h1, h2, h3 | ⟨b, cap, h3, h4⟩⟩ := h
  · exact ⟨h1, h2, Or.inl h3⟩
  · exact ⟨h1, h2, Or.inr ⟨b, cap, h3, fun i x hx => hg.cell (h4 i x hx) (by simp)⟩⟩

theorem total_is {v : Value} {xs : List Int} (h : Costs w v xs) : Calls Tryz.prog 143 #[v] w fun e w' => e = .returned (.int .i64 (totalOf xs)) ∧ w' = w := by
  obtain ⟨h1, h2, ⟨rfl, rfl⟩ | ⟨b, cap, rfl, h4⟩⟩ := h
  · exact total_nil w
  · exact total_at w b cap xs h1 (by omega) h4

theorem total_bd (xs : List Int) (hx : ∀ x ∈ xs, 0 ≤ x ∧ x ≤ 1000001) : 0 ≤ totalOf xs ∧ totalOf xs ≤ 1000001 := by
  have key : ∀ (xs : List Int) (a : Int), (∀ x ∈ xs, 0 ≤ x ∧ x ≤ 1000001) → 0 ≤ a → a ≤ 1000001 → 0 ≤ xs.foldl (fun a c => min (a + c) 1000001) a ∧ xs.foldl (fun a c => min (a + c) 1000001) a ≤ 1000001 := by
    intro xs
    induction xs with
    | nil => intro a _ h0 h1; exact ⟨h0, h1⟩
    | cons x xs ih =>
      intro a hx h0 h1
      have := hx x List.mem_cons_self
      exact ih _ (fun y hy => hx y (List.mem_cons_of_mem _ hy)) (by show 0 ≤ min (a + x) 1000001; omega) (by show min (a + x) 1000001 ≤ 1000001; omega)
  exact key xs 0 hx (by omega) (by omega)

def partCost (xs : List Int) : Int := totalOf [1, totalOf xs]

theorem part_results (tmps : Array Value) (w : World) (g : Nat) (a c : Int) (h2 : tmps[4]? = some (.pointer (some ⟨g, 0, none⟩))) (h0 : w.cell? ⟨g, 0, none⟩ = some (.int .i64 a)) (h1 : w.cell? ⟨g, 1, none⟩ = some (.int .i64 c)) :
    (results Tryz.f234 tmps).run Tryz.prog w = .ok (.agg #[.int .i64 a, .int .i64 c]) w := by
  simp [results, Tryz.results234, go_sem, h2, h0, h1]

set_option maxRecDepth 100000 in
set_option maxHeartbeats 1000000 in
theorem newPart_exact (at' : Int) (v : Value) (xs : List Int) (h : Costs w v xs) :
    Calls Tryz.prog 234 #[.int .i64 at', v] w fun e w' => e = .returned (.agg #[.int .i64 at', .int .i64 (partCost xs)]) ∧ w' = (w.alloc (.cells #[.int .i64 at', .int .i64 (partCost xs)] 323)).alloc (.cells #[.int .i64 1, .int .i64 (totalOf xs)] 3) := by
  have HT : Hid (∀ o, Calls Tryz.prog 143 #[v] (w.alloc o) fun e w' => e = .returned (.int .i64 (totalOf xs)) ∧ w' = w.alloc o) := fun o => total_is (h.grow (World.grownBy_alloc w o none))
  have hb := total_bd xs h.1
  have HT2 : Hid (∀ o T t, t = totalOf xs → Calls Tryz.prog 143 #[.slice (some ⟨w.heap.size + 1, 0, none⟩) 2 2] ((w.alloc o).alloc (.cells #[.int .i64 1, .int .i64 t] T)) fun e w' => e = .returned (.int .i64 (partCost xs)) ∧ w' = (w.alloc o).alloc (.cells #[.int .i64 1, .int .i64 t] T)) := by
    intro o T t ht
    subst ht
    refine total_is (xs := [1, totalOf xs]) ⟨fun x hx => ?_, by simp, Or.inr ⟨_, _, rfl, fun i x hx => ?_⟩⟩
    · simp only [List.mem_cons, List.not_mem_nil, or_false] at hx
      rcases hx with rfl | rfl <;> omega
    · have hh := (heap_two_new w o (.cells #[.int .i64 1, .int .i64 (totalOf xs)] T)).1
      rw [cell_at hh]
      match i, hx with
      | 0, hx => cases hx; rfl
      | 1, hx => cases hx; rfl
  generalize partCost xs = pc at *
  generalize totalOf xs = t at *
  clear h
  go_enter Tryz.func234, Tryz.ntmps234
  go_wp2_with fail
  refine (HT.out _).mono ?_
  rintro e w1 ⟨rfl, rfl⟩
  go_wp2_with fail
  refine (HT2.out _ _ _ rfl).mono ?_
  rintro e w1 ⟨rfl, rfl⟩
  go_wp2_with fail
  have hh := (heap_two_new w (.cells #[.int .i64 at', .int .i64 pc] 323) (.cells #[.int .i64 1, .int .i64 t] 3)).2
  exact bodyPost_ret (part_results _ _ w.heap.size at' pc rfl (cell_at hh) (cell_at hh)) rfl ⟨rfl, rfl⟩

theorem newPart_any (at' : Int) (v : Value) (xs : List Int) (h : Costs w v xs) :
    Calls Tryz.prog 234 #[.int .i64 at', v] w fun e w' => e = .returned (.agg #[.int .i64 at', .int .i64 (partCost xs)]) ∧ w.grownBy w' none :=
  (newPart_exact at' v xs h).mono fun _ _ ⟨h1, h2⟩ => ⟨h1, by rw [h2]; exact (World.grownBy_alloc w _ none).trans (World.grownBy_alloc _ _ none)⟩

def Hx.isSign (u : List UInt8) : Bool := u == [124, 124] || u == [38, 38] || u == [61, 61] || u == [33, 61] || u == [60] || u == [60, 61] || u == [62] || u == [62, 61] || u == [43] || u == [45] || u == [42] || u == [47] || u == [37]

theorem level_none (t : ByteArray) (ht : Hx.isSign t.toList = false) (w : World) : Calls Tryz.prog 266 #[.string t] w fun e w' => e = .returned (.int .i64 6) ∧ w' = w := by
  simp only [Hx.isSign, Bool.or_eq_false_iff] at ht
  obtain ⟨⟨⟨⟨⟨⟨⟨⟨⟨⟨⟨⟨h0, h1⟩, h2⟩, h3⟩, h4⟩, h5⟩, h6⟩, h7⟩, h8⟩, h9⟩, h10⟩, h11⟩, h12⟩ := ht
  go_enter Tryz.func266, Tryz.ntmps266
  go_wp2
  go_ret
  exact ⟨rfl, rfl⟩

/-- (*part).price, where a part lies in memory -/
theorem price_at (b o : Nat) (c : Int) (h : w.cell? ⟨b, o + 1, none⟩ = some (.int .i64 c)) : Calls Tryz.prog 244 #[.pointer (some ⟨b, o, none⟩)] w fun e w' => e = .returned (.int .i64 c) ∧ w' = w := by
  go_enter Tryz.func244, Tryz.ntmps244
  go_wp2
  go_ret
  exact ⟨rfl, rfl⟩
end Go.Proofs.YthllhabjfchgiaaGreatDoor

/- Package lang: a set of which something is asked. -/
namespace Go.Proofs.YthllhabjfchgiaaGreatDoor
open Go.RowKit
open Hx (Tk)
attribute [local go_sem ↓] Go.wp_at_zero Go.wp_at_succ
attribute [local go_sem] setCell_drewN'
variable {w : World} {P : Nat} {s : ByteArray} {k : Tk} {dp en ea : Int}

theorem is_lit (h : PrIn w P s k dp en ea) (l : List UInt8) (b : Bool) (hb : (k.text.toList == l) = b) : Calls Tryz.prog 242 #[.pointer (some ⟨P, 0, none⟩), .string ⟨l.toArray⟩] w fun e w' => e = .returned (.bool b) ∧ w' = w := by
  have := is_any h ⟨l.toArray⟩
  rw [show (⟨l.toArray⟩ : ByteArray).toList = l from ByteArray.toList_mk l, hb] at this
  exact this

/-- a set without filters -/
def SetAt (w : World) (S : Nat) (at' : Int) (base : ByteArray) (of : Int) : Prop := w.heap[S]? = some (.cells #[.int .i64 at', .int .i64 1, .string base, .int .i64 of, .slice none 0 0] 348)

theorem SetAt.grow {S : Nat} {at' of : Int} {base : ByteArray} (h : SetAt w S at' base of) {w' : World} (hg : w.grownBy w' (some P)) (hn : S ≠ P) : SetAt w' S at' base of :=
  (hg.block S (lt_of_some h) (by simpa using hn)).trans h

/-- the base of a set, and the type of what is in it -/
def setOf (u : List UInt8) : Option Int := if u == [82, 79, 65, 68, 83] then some 3 else if u == [70, 82, 69, 83, 72] || u == [65, 71, 65, 73, 78] then some 4 else none

theorem ext_newPart (at' : Int) (x : Ext w) : Calls Tryz.prog 234 #[.int .i64 at', .slice none 0 0] x.val fun e w'' => e = .returned (.agg #[.int .i64 at', .int .i64 1]) ∧ ∃ y : Ext w, w'' = y.val :=
  Calls.ext_of (newPart_any at' (.slice none 0 0) [] ⟨fun _ h => (List.not_mem_nil h).elim, by simp, Or.inl ⟨rfl, rfl⟩⟩)

set_option maxRecDepth 100000 in
set_option maxHeartbeats 1000000 in
theorem set_asked (h : PrIn w P s k dp en ea) (hs : s.size ≤ 4000) (k1 k2 : Tk) (of : Int) (hk : TokOk s k) (hof : setOf k.text.toList = some of) (hk1 : nxt s k = k1) (hok1 : TokOk s k1) (ht1 : (k1.text.toList == [46]) = true) (hk2 : nxt s k1 = k2) (ht2 : (k2.text.toList == [102, 105, 108, 116, 101, 114]) = false) :
    Calls Tryz.prog 243 #[.pointer (some ⟨P, 0, none⟩)] w fun e w' => ∃ S, e = .returned (.tuple #[.pointer (some ⟨S, 0, none⟩), .bool true]) ∧ w.heap.size ≤ S ∧ SetAt w' S k.at' k.text of ∧ PrIn w' P s k2 dp en ea ∧ w.grownBy w' (some P) := by
  have hL := h.lt
  have e2 : ∀ x : Ext w, x.val.cell? ⟨P, 2, none⟩ = some (.string k.text) := fun x => (h.grow x.grown).c2
  have e3 : ∀ x : Ext w, x.val.cell? ⟨P, 3, none⟩ = some (.int .i64 k.at') := fun x => (h.grow x.grown).c3
  have hne := ext_some w
  have HW : Hid (∀ w', w.grownBy w' none → PrIn w' P s k dp en ea) := fun w' hg => h.grow hg
  have HX : Hid (∀ x : Ext w, Calls Tryz.prog 234 #[.int .i64 k.at', .slice none 0 0] x.val fun e w'' => e = .returned (.agg #[.int .i64 k.at', .int .i64 1]) ∧ ∃ y : Ext w, w'' = y.val) := fun x => ext_newPart _ x
  have HK : Hid (∀ w', PrIn w' P s k dp en ea → Calls Tryz.prog 236 #[.pointer (some ⟨P, 0, none⟩)] w' fun e w'' => e = .returned (tkV k) ∧ PrIn w'' P s k1 dp en ea ∧ w'.grownBy w'' (some P)) := fun w' hp => by
    rw [← hk1]; exact next_ok hp hk hs
  have HK1 : Hid (∀ w', PrIn w' P s k1 dp en ea → Calls Tryz.prog 236 #[.pointer (some ⟨P, 0, none⟩)] w' fun e w'' => e = .returned (tkV k1) ∧ PrIn w'' P s k2 dp en ea ∧ w'.grownBy w'' (some P)) := fun w' hp => by
    rw [← hk2]; exact next_ok hp hok1 hs
  have HI1 : Hid (∀ w', PrIn w' P s k1 dp en ea → Calls Tryz.prog 242 #[.pointer (some ⟨P, 0, none⟩), .string ⟨#[46]⟩] w' fun e w'' => e = .returned (.bool true) ∧ w'' = w') := fun w' hp => is_lit hp [46] true ht1
  have HI2 : Hid (∀ w', PrIn w' P s k2 dp en ea → Calls Tryz.prog 242 #[.pointer (some ⟨P, 0, none⟩), .string ⟨#[102, 105, 108, 116, 101, 114]⟩] w' fun e w'' => e = .returned (.bool false) ∧ w'' = w') := fun w' hp => is_lit hp [102, 105, 108, 116, 101, 114] false ht2
  clear h hk hk1 hok1 ht1 hk2 ht2
  -- the rest, behind the set's block
  have HF : Hid (∀ wx, w.grownBy wx none → ∀ o, o = Obj.cells #[.int .i64 k.at', .int .i64 1, .string k.text, .int .i64 of, .slice none 0 0] 348 → PrIn (wx.alloc o) P s k dp en ea ∧ SetAt (wx.alloc o) wx.heap.size k.at' k.text of ∧ w.grownBy (wx.alloc o) (some P) ∧ w.heap.size ≤ wx.heap.size) := fun wx hg o ho => by
    subst ho
    exact ⟨(HW.out wx hg).grow (World.grownBy_alloc _ _ none), heap_alloc_new _ _, (hg.trans (World.grownBy_alloc _ _ none)).but _, hg.size⟩
  cases hr : (k.text.toList == [82, 79, 65, 68, 83]) with
  | true =>
    have hof3 : of = 3 := by simp only [setOf, hr, if_true, Option.some.injEq] at hof; omega
    subst hof3
    clear hof
    go_enter Tryz.func243, Tryz.ntmps243
    go_wp2_with fail
    refine wp_ext_tail 12 (by kernel_rfl) (by kernel_rfl) ?_
    simp only [List.take_succ_cons, List.take_zero, List.drop_succ_cons, List.drop_zero]
    repeat (go_big_quiet_step ((go_at_call 234; exact HX.out _)))
    refine wpQuiet_nil ?_
    intro wx hg
    have f2 := (HW.out wx hg).c2
    have hPx := (HW.out wx hg).lt
    have n1 : ¬ P = wx.heap.size := by omega
    obtain ⟨g1, g2, g3, g4⟩ := HF.out wx hg _ rfl
    have HG1 : Hid (PrIn (wx.alloc (Obj.cells #[.int .i64 k.at', .int .i64 1, .string k.text, .int .i64 3, .slice none 0 0] 348)) P s k dp en ea) := g1
    have HG2 : Hid (SetAt (wx.alloc (Obj.cells #[.int .i64 k.at', .int .i64 1, .string k.text, .int .i64 3, .slice none 0 0] 348)) wx.heap.size k.at' k.text 3) := g2
    have HG3 : Hid (w.grownBy (wx.alloc (Obj.cells #[.int .i64 k.at', .int .i64 1, .string k.text, .int .i64 3, .slice none 0 0] 348)) (some P)) := g3
    clear e2 e3 g1 g2 g3 hg HF HX HW
    go_wp2_with fail
    refine (HK.out _ HG1.out).mono ?_
    rintro e w2 ⟨rfl, p2, q2⟩
    have HS2 : Hid (SetAt w2 wx.heap.size k.at' k.text 3) := HG2.out.grow q2 (by omega)
    have HQ2 : Hid (w.grownBy w2 (some P)) := HG3.out.trans q2
    have HP2 : Hid (PrIn w2 P s k1 dp en ea) := p2
    clear p2 q2 HG1 HG2 HG3
    go_wp2_with fail
    refine wp_loop_rounds 1 ?_
    rw [rounds_succ]
    go_wp2_with fail
    refine (HI1.out _ HP2.out).mono ?_
    rintro e w3 ⟨rfl, rfl⟩
    go_wp2_with fail
    refine (HK1.out _ HP2.out).mono ?_
    rintro e w4 ⟨rfl, p4, q4⟩
    have HS4 : Hid (SetAt w4 wx.heap.size k.at' k.text 3) := HS2.out.grow q4 (by omega)
    have HQ4 : Hid (w.grownBy w4 (some P)) := HQ2.out.trans q4
    have HP4 : Hid (PrIn w4 P s k2 dp en ea) := p4
    clear p4 q4 HS2 HQ2 HP2
    go_wp2_with fail
    refine (HI2.out _ HP4.out).mono ?_
    rintro e w5 ⟨rfl, rfl⟩
    go_wp2_with fail
    go_ret2
    exact ⟨_, rfl, g4, HS4.out, HP4.out, HQ4.out⟩
  | false =>
    have hof4 : of = 4 ∧ ((k.text.toList == [70, 82, 69, 83, 72]) = true ∨ (k.text.toList == [65, 71, 65, 73, 78]) = true) := by
      simp only [setOf, hr, Bool.false_eq_true, if_false] at hof
      split at hof
      · rename_i hx
        rw [Bool.or_eq_true] at hx
        exact ⟨by simp at hof; omega, hx⟩
      · cases hof
    obtain ⟨hof3, hor⟩ := hof4
    subst hof3
    clear hof
    cases hf : (k.text.toList == [70, 82, 69, 83, 72]) with
    | true =>
      clear hor
      go_enter Tryz.func243, Tryz.ntmps243
      go_wp2_with fail
      refine wp_ext_tail 12 (by kernel_rfl) (by kernel_rfl) ?_
      simp only [List.take_succ_cons, List.take_zero, List.drop_succ_cons, List.drop_zero]
      repeat (go_big_quiet_step ((go_at_call 234; exact HX.out _)))
      refine wpQuiet_nil ?_
      intro wx hg
      have f2 := (HW.out wx hg).c2
      have hPx := (HW.out wx hg).lt
      have n1 : ¬ P = wx.heap.size := by omega
      obtain ⟨g1, g2, g3, g4⟩ := HF.out wx hg _ rfl
      have HG1 : Hid (PrIn (wx.alloc (Obj.cells #[.int .i64 k.at', .int .i64 1, .string k.text, .int .i64 4, .slice none 0 0] 348)) P s k dp en ea) := g1
      have HG2 : Hid (SetAt (wx.alloc (Obj.cells #[.int .i64 k.at', .int .i64 1, .string k.text, .int .i64 4, .slice none 0 0] 348)) wx.heap.size k.at' k.text 4) := g2
      have HG3 : Hid (w.grownBy (wx.alloc (Obj.cells #[.int .i64 k.at', .int .i64 1, .string k.text, .int .i64 4, .slice none 0 0] 348)) (some P)) := g3
      clear e2 e3 g1 g2 g3 hg HF HX HW
      go_wp2_with fail
      refine (HK.out _ HG1.out).mono ?_
      rintro e w2 ⟨rfl, p2, q2⟩
      have HS2 : Hid (SetAt w2 wx.heap.size k.at' k.text 4) := HG2.out.grow q2 (by omega)
      have HQ2 : Hid (w.grownBy w2 (some P)) := HG3.out.trans q2
      have HP2 : Hid (PrIn w2 P s k1 dp en ea) := p2
      clear p2 q2 HG1 HG2 HG3
      go_wp2_with fail
      refine wp_loop_rounds 1 ?_
      rw [rounds_succ]
      go_wp2_with fail
      refine (HI1.out _ HP2.out).mono ?_
      rintro e w3 ⟨rfl, rfl⟩
      go_wp2_with fail
      refine (HK1.out _ HP2.out).mono ?_
      rintro e w4 ⟨rfl, p4, q4⟩
      have HS4 : Hid (SetAt w4 wx.heap.size k.at' k.text 4) := HS2.out.grow q4 (by omega)
      have HQ4 : Hid (w.grownBy w4 (some P)) := HQ2.out.trans q4
      have HP4 : Hid (PrIn w4 P s k2 dp en ea) := p4
      clear p4 q4 HS2 HQ2 HP2
      go_wp2_with fail
      refine (HI2.out _ HP4.out).mono ?_
      rintro e w5 ⟨rfl, rfl⟩
      go_wp2_with fail
      go_ret2
      exact ⟨_, rfl, g4, HS4.out, HP4.out, HQ4.out⟩
    | false =>
      have ha : (k.text.toList == [65, 71, 65, 73, 78]) = true := by rcases hor with h | h; · rw [hf] at h; cases h
                                                                     · exact h
      clear hor
      go_enter Tryz.func243, Tryz.ntmps243
      go_wp2_with fail
      refine wp_ext_tail 12 (by kernel_rfl) (by kernel_rfl) ?_
      simp only [List.take_succ_cons, List.take_zero, List.drop_succ_cons, List.drop_zero]
      repeat (go_big_quiet_step ((go_at_call 234; exact HX.out _)))
      refine wpQuiet_nil ?_
      intro wx hg
      have f2 := (HW.out wx hg).c2
      have hPx := (HW.out wx hg).lt
      have n1 : ¬ P = wx.heap.size := by omega
      obtain ⟨g1, g2, g3, g4⟩ := HF.out wx hg _ rfl
      have HG1 : Hid (PrIn (wx.alloc (Obj.cells #[.int .i64 k.at', .int .i64 1, .string k.text, .int .i64 4, .slice none 0 0] 348)) P s k dp en ea) := g1
      have HG2 : Hid (SetAt (wx.alloc (Obj.cells #[.int .i64 k.at', .int .i64 1, .string k.text, .int .i64 4, .slice none 0 0] 348)) wx.heap.size k.at' k.text 4) := g2
      have HG3 : Hid (w.grownBy (wx.alloc (Obj.cells #[.int .i64 k.at', .int .i64 1, .string k.text, .int .i64 4, .slice none 0 0] 348)) (some P)) := g3
      clear e2 e3 g1 g2 g3 hg HF HX HW
      go_wp2_with fail
      refine (HK.out _ HG1.out).mono ?_
      rintro e w2 ⟨rfl, p2, q2⟩
      have HS2 : Hid (SetAt w2 wx.heap.size k.at' k.text 4) := HG2.out.grow q2 (by omega)
      have HQ2 : Hid (w.grownBy w2 (some P)) := HG3.out.trans q2
      have HP2 : Hid (PrIn w2 P s k1 dp en ea) := p2
      clear p2 q2 HG1 HG2 HG3
      go_wp2_with fail
      refine wp_loop_rounds 1 ?_
      rw [rounds_succ]
      go_wp2_with fail
      refine (HI1.out _ HP2.out).mono ?_
      rintro e w3 ⟨rfl, rfl⟩
      go_wp2_with fail
      refine (HK1.out _ HP2.out).mono ?_
      rintro e w4 ⟨rfl, p4, q4⟩
      have HS4 : Hid (SetAt w4 wx.heap.size k.at' k.text 4) := HS2.out.grow q4 (by omega)
      have HQ4 : Hid (w.grownBy w4 (some P)) := HQ2.out.trans q4
      have HP4 : Hid (PrIn w4 P s k2 dp en ea) := p4
      clear p4 q4 HS2 HQ2 HP2
      go_wp2_with fail
      refine (HI2.out _ HP4.out).mono ?_
      rintro e w5 ⟨rfl, rfl⟩
      go_wp2_with fail
      go_ret2
      exact ⟨_, rfl, g4, HS4.out, HP4.out, HQ4.out⟩
end Go.Proofs.YthllhabjfchgiaaGreatDoor

/- Package lang: asking. -/
namespace Go.Proofs.YthllhabjfchgiaaGreatDoor
open Go.RowKit
open Hx (Tk)
attribute [local go_sem ↓] Go.wp_at_zero Go.wp_at_succ
attribute [local go_sem] setCell_drewN'
variable {w : World} {P : Nat} {s : ByteArray} {k : Tk} {dp en ea : Int}

theorem field_text (a c : Int) (b : ByteArray) (w : World) : (Instr.field 249 (.agg #[.int .i64 a, .string b, .int .i64 c]) 1).run Tryz.prog w = .ok (.string b) w := by kernel_rfl
theorem field_at (a c : Int) (b : ByteArray) (w : World) : (Instr.field 249 (.agg #[.int .i64 a, .string b, .int .i64 c]) 2).run Tryz.prog w = .ok (.int .i64 c) w := by kernel_rfl

/-- what is asked of a set, in block A -/
def AskAt (w : World) (A S : Nat) (at' cost kind : Int) (what : ByteArray) : Prop := w.heap[A]? = some (.cells #[.int .i64 at', .int .i64 cost, .int .i64 kind, .string what, .pointer (some ⟨S, 0, none⟩)] 412)

theorem four_new (w : World) (a b c d : Obj) : ((((w.alloc a).alloc b).alloc c).alloc d).drew.heap[w.heap.size + 1 + 1 + 1]? = some d ∧ w.grownBy ((((w.alloc a).alloc b).alloc c).alloc d).drew none := by
  constructor
  · have e : ((((w.alloc a).alloc b).alloc c).alloc d).drew.heap = (((w.heap.push a).push b).push c).push d := rfl
    rw [e, Array.getElem?_push, if_pos (by simp)]
  · exact (World.grownBy_alloc w a none).trans ((World.grownBy_alloc _ b none).trans ((World.grownBy_alloc _ c none).trans ((World.grownBy_alloc _ d none).trans ⟨rfl, rfl, rfl, Nat.le_refl _, fun _ _ _ => rfl⟩)))

set_option maxRecDepth 100000 in
set_option maxHeartbeats 1000000 in
theorem asking_ok (h : PrIn w P s k dp en ea) (hs : s.size ≤ 4000) (hk : TokOk s k) (S : Nat) (at' : Int) (base : ByteArray) (of kind : Int) (hS : SetAt w S at' base of) (hne : S ≠ P) :
    Calls Tryz.prog 277 #[.pointer (some ⟨P, 0, none⟩), .pointer (some ⟨S, 0, none⟩), .int .i64 kind] w fun e w' => ∃ A, e = .returned (.iface 410 (.pointer (some ⟨A, 0, none⟩))) ∧ w.heap.size ≤ A ∧ AskAt w' A S at' 2 kind k.text ∧ SetAt w' S at' base of ∧ PrIn w' P s (nxt s k) dp en ea ∧ w.grownBy w' (some P) := by
  have HN : Hid (Calls Tryz.prog 236 #[.pointer (some ⟨P, 0, none⟩)] w fun e w' => e = .returned (tkV k) ∧ PrIn w' P s (nxt s k) dp en ea ∧ w.grownBy w' (some P)) := next_ok h hk hs
  have HS : Hid (SetAt w S at' base of) := hS
  clear h hS
  go_enter Tryz.func277, Tryz.ntmps277
  go_wp2_with fail
  refine HN.out.mono ?_
  rintro e w1 ⟨rfl, p1, q1⟩
  have hS1 := HS.out.grow q1 hne
  have c0 : w1.cell? ⟨S, 0, none⟩ = some (.int .i64 at') := cell_at hS1
  have c1 : w1.cell? ⟨S, 1, none⟩ = some (.int .i64 1) := cell_at hS1
  have hlt := lt_of_some hS1
  have n1 : ¬ S = w1.heap.size := by omega
  have n2 : ¬ S = w1.heap.size + 1 := by omega
  have n3 : ¬ S = w1.heap.size + 1 + 1 := by omega
  have HC : Hid (∀ x : World, x.cell? ⟨w1.heap.size, 0, none⟩ = some (.int .i64 1) → Calls Tryz.prog 234 #[.int .i64 at', .slice (some ⟨w1.heap.size, 0, none⟩) 1 1] x fun e w' => e = .returned (.agg #[.int .i64 at', .int .i64 2]) ∧ w' = (x.alloc (.cells #[.int .i64 at', .int .i64 2] 323)).alloc (.cells #[.int .i64 1, .int .i64 1] 3)) := fun x hx =>
    newPart_exact at' _ [1] ⟨by simp, by simp, Or.inr ⟨_, _, rfl, fun i y hy => by
      match i, hy with
      | 0, hy => cases hy; exact hx⟩⟩
  have HCd := HC.out (w1.alloc (.cells #[.int .i64 1] 3)).drew (by
    have hh : (w1.alloc (.cells #[.int .i64 1] 3)).drew.heap[w1.heap.size]? = some (.cells #[.int .i64 1] 3) := heap_alloc_new w1 _
    exact cell_at hh)
  have HCd : Hid (Calls Tryz.prog 234 #[.int .i64 at', .slice (some ⟨w1.heap.size, 0, none⟩) 1 1] (w1.alloc (.cells #[.int .i64 1] 3)).drew fun e w' => e = .returned (.agg #[.int .i64 at', .int .i64 2]) ∧ w' = ((w1.alloc (.cells #[.int .i64 1] 3)).drew.alloc (.cells #[.int .i64 at', .int .i64 2] 323)).alloc (.cells #[.int .i64 1, .int .i64 1] 3)) := HCd
  have hft := field_text k.kind k.at' k.text
  unfold tkV
  have HP1 : Hid (PrIn w1 P s (nxt s k) dp en ea) := p1
  have HQ1 : Hid (w.grownBy w1 (some P)) := q1
  have HS1 : Hid (SetAt w1 S at' base of) := hS1
  clear p1 q1 hS1 HN HS
  go_upto_region 2 with fail
  go_cut [6] (fun r wx => r = .iface 410 (.pointer (some ⟨w1.heap.size + 1 + 1 + 1, 0, none⟩)) ∧ AskAt wx (w1.heap.size + 1 + 1 + 1) S at' 2 kind k.text ∧ w1.grownBy wx none)
  case first =>
    go_region_with (first | (go_at_call 244; refine (price_at S 0 1 (by first | exact c1 | (simp; exact c1))).mono ?_; rintro e w' ⟨rfl, rfl⟩) | (go_at_call 234; refine HCd.out.mono ?_; rintro e w' ⟨rfl, rfl⟩))
    all_goals (go_wp2_with fail; go_meet; exact ⟨rfl, (four_new w1 _ _ _ _).1, (four_new w1 _ _ _ _).2⟩)
  case rest =>
    obtain ⟨rfl, h1, h2⟩ := hcut
    go_wp2_with fail
    go_ret
    refine ⟨_, rfl, by have := HQ1.out.size; omega, h1, HS1.out.grow (h2.but (some P)) hne, HP1.out.grow h2, HQ1.out.trans (h2.but _)⟩
end Go.Proofs.YthllhabjfchgiaaGreatDoor
