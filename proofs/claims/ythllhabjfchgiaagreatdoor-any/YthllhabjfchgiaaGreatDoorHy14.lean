import Derived.Test.YthllhabjfchgiaaGreatDoorHy13
import Derived.Deep.CutBlock
import Derived.Deep.DeepCutAuto
/- vm.Load. -/
namespace Go.Proofs.YthllhabjfchgiaaGreatDoor
open Go.RowKit
open Hx (St Bk Ls In64 Inv Final)
attribute [local go_sem ↓] Go.wp_at_zero Go.wp_at_succ
attribute [local go_sem] setCell_drewN'
variable {B : Nat} {w : World} {L : Nat} {s : ByteArray} {l : Ls} {vs vb vl : Value}

theorem Moves.below (h : LoadIn B w L s l vs vb vl) {w' : World} {vs' vb' vl' : Value} (hm : Moves L w vs vb vl w' vs' vb' vl') : Below B w w' := by
  refine ⟨hm.os, hm.tape, hm.output, hm.size, fun k hk => ?_⟩
  have hL := h.lt
  have hB := h.bL
  have aux : ∀ {v : Value} {e : TypeId} {sz n : Nat} {xs : List Value}, w.ownsRow B e sz v n xs → some k ≠ v.ownBlock := fun ho e => by
    have := (ho.lt k e.symm).1
    omega
  exact hm.block k (by omega) (by omega) (aux h.steps) (aux h.blocks) (aux h.loops)

/-- how far Load is -/
def Stage (bs : List UInt8) (g : Nat) (l : Ls) : Prop :=
  (l.bad = true ∧ (loaded bs).bad = true) ∨ (l.bad = false ∧ l = loaded bs ∧ Final l ∧ l.pos ≤ bs.length) ∨
  (Inv l ∧ 0 ≤ l.pos ∧ l.pos ≤ bs.length ∧ (l.steps.length : Int) ≤ l.pos ∧ (bs.length : Int) - l.pos < g ∧ loadGo bs g l = loaded bs)

theorem stage_first (bs : List UInt8) : Stage bs (bs.length + 1) firstLs :=
  Or.inr (Or.inr ⟨Hx.inv_first, by simp [firstLs], by simp [firstLs], by simp [firstLs], by simp only [firstLs]; omega, rfl⟩)

theorem stage_next {bs : List UInt8} (hbs : bs.length ≤ 100000) {g : Nat} {l l' : Ls} (hi : Inv l) (h0 : 0 ≤ l.pos) (h1 : l.pos ≤ bs.length) (h2 : (l.steps.length : Int) ≤ l.pos) (h3 : (bs.length : Int) - l.pos < (g + 1 : Nat)) (h4 : loadGo bs (g + 1) l = loaded bs) (ha : After bs l l') : Stage bs g l' := by
  have hn : ¬ (l.blocks = [] ∨ l.bad = true) := fun e => e.elim hi.blocks.1 (fun e => by rw [hi.bad] at e; cases e)
  unfold After at ha
  cases hr : readStep bs l with
  | none =>
    rw [hr] at ha
    refine Or.inl ⟨ha, ?_⟩
    rw [← h4]
    simp only [loadGo, if_neg hn, hr]
  | some q =>
    obtain ⟨st, l1⟩ := q
    rw [hr] at ha
    simp only at ha
    subst ha
    rw [Hx.loadGo_next bs g l l1 st hi hr] at h4
    obtain ⟨g1, g2, g3, g4, g5, g6⟩ := Hx.readStep_ok hr h0 hi.slots
    have hi1 : Inv l1 := by rw [g6]; exact hi.read g4 g5
    have hs1 : l1.steps = l.steps := by rw [g6]
    obtain ⟨k1, k2⟩ := Hx.instr_len l1 st
    cases hbb : (instr l1 st).bad with
    | true =>
      rw [Hx.loadGo_bad bs g _ hbb] at h4
      exact Or.inl ⟨hbb, by rw [← h4]; exact hbb⟩
    | false =>
      rcases Hx.inv_instr hi1 st g1 (by rw [hs1]; omega) hbb with hv | hv
      · exact Or.inr (Or.inr ⟨hv, by rw [k2]; omega, by rw [k2]; exact g3, by rw [k2]; rw [hs1] at k1; omega, by rw [k2]; push_cast at h3; omega, h4⟩)
      · rw [Hx.loadGo_done bs g _ hv.blocks] at h4
        exact Or.inr (Or.inl ⟨hbb, h4, hv, by rw [k2]; exact g3⟩)

/-- code in memory, as Load leaves it -/
structure Coded (w : World) (C : Nat) (l : Ls) : Prop where
  code : ∃ sb cap, CodeIn w.heap.size w C 0 sb 0 cap l.steps
  slots : w.cell? ⟨C, 1, none⟩ = some (.int .i64 l.slots)
  need : w.cell? ⟨C, 2, none⟩ = some (.int .i64 l.need)

def LoadPost (s : ByteArray) (w : World) (e : Ending) (w' : World) : Prop :=
  Below w.heap.size w w' ∧ ((takes s.data.toList = true ∧ ∃ C, w.heap.size ≤ C ∧ e = .returned (.tuple #[.pointer (some ⟨C, 0, none⟩), .int .i64 0]) ∧ Coded w' C (loaded s.data.toList)) ∨
    (takes s.data.toList = false ∧ e = .returned (.tuple #[.pointer none, .int .i64 5])))

/-- the code, once its block is laid behind the loader -/
theorem coded_of (h : LoadIn B w L s l vs vb vl) (hpos : 0 < l.steps.length) (k : Nat) (T : TypeId) : Coded ((w.drewN k).alloc (.cells #[vs, .int .i64 l.slots, .int .i64 l.need] T)) w.heap.size l := by
  have hb : ∀ j, ((w.drewN k).alloc (.cells #[vs, .int .i64 l.slots, .int .i64 l.need] T)).cell? ⟨w.heap.size, j, none⟩ = (#[vs, .int .i64 l.slots, .int .i64 l.need] : Array Value)[j]? := fun j => by
    have hh : ((w.drewN k).alloc (.cells #[vs, .int .i64 l.slots, .int .i64 l.need] T)).heap[w.heap.size]? = some (.cells #[vs, .int .i64 l.slots, .int .i64 l.need] T) := heap_alloc_new (w.drewN k) _
    exact cell_at hh
  have h' := (h.drewN k).alloc (.cells #[vs, .int .i64 l.slots, .int .i64 l.need] T)
  have hst0 : l.steps[0]? = some l.steps[0] := List.getElem?_eq_getElem hpos
  obtain ⟨g, cap, e1, e2, _⟩ := h'.stepAt hst0
  refine ⟨⟨g, cap, ?_, e2, ?_, ?_⟩, hb 1, hb 2⟩
  · show w.heap.size < ((w.drewN k).alloc _).heap.size
    rw [show ∀ (x : World) o, (x.alloc o).heap.size = x.heap.size + 1 from fun x o => by simp]
    exact Nat.lt_succ_self _
  · rw [hb 0, e1]; rfl
  · intro i st hst
    obtain ⟨g', cap', e1', _, _, _, _, _, hat, _⟩ := h'.stepAt hst
    rw [e1] at e1'
    cases e1'
    rw [Nat.zero_add]
    exact hat

set_option maxRecDepth 100000 in
set_option maxHeartbeats 1000000 in
theorem load_long (w : World) (s : ByteArray) (hs : 100000 < s.size) : Calls Tryz.prog 31 #[.string s] w (LoadPost s w) := by
  have d1 : decide ((100000 : Int) < (s.size : Int)) = true := by simp; omega
  have HT : Hid (takes s.data.toList = false) := by
    have : ¬ s.data.toList.length ≤ 100000 := by simp; omega
    show _ = _
    simp only [takes, decide_eq_false this, Bool.false_and]
  go_enter Tryz.func31, Tryz.ntmps31
  go_wp2_with fail
  go_ret2
  exact ⟨Below.refl _ w, Or.inr ⟨HT.out, rfl⟩⟩

set_option maxRecDepth 100000 in
set_option maxHeartbeats 2000000 in
theorem load_short (w : World) (s : ByteArray) (hs : s.size ≤ 100000) : Calls Tryz.prog 31 #[.string s] w (LoadPost s w) := by
  have d1 : decide ((100000 : Int) < (s.size : Int)) = false := by simp; omega
  have hbs : s.data.toList.length ≤ 100000 := by simpa using hs
  have hlen : s.data.toList.length = s.size := by simp
  go_enter Tryz.func31, Tryz.ntmps31
  go_wp2_with fail
  refine (newLoader_any w s).mono ?_
  rintro e w1 ⟨L, rfl, hL, hg1, g, cap, hl1⟩
  have HB : Hid (Below w.heap.size w w1) := ⟨hg1.os, hg1.tape, hg1.output, hg1.size, fun k hk => hg1.block k hk (by simp)⟩
  have HL : Hid (LoadIn w.heap.size w1 L s firstLs (.slice none 0 0) (.slice (some ⟨g, 0, none⟩) 1 cap) (.slice none 0 0)) := hl1
  clear hg1 hl1
  go_wp2_with fail
  go_loopg [] (s.data.toList.length + 1) (fun gg wr => ∃ l vs vb vl, LoadIn w.heap.size wr L s l vs vb vl ∧ Below w.heap.size w wr ∧ Stage s.data.toList gg l)
  case atStart => exact ⟨_, _, _, _, HL.out, HB.out, stage_first _⟩
  case round =>
    obtain ⟨l, vs, vb, vl, h1, h2, h3⟩ := hrel
    clear HL HB
    obtain ⟨ab, cb, rfl⟩ := slice_form h1.blocks
    obtain ⟨as', cs', rfl⟩ := slice_form h1.steps
    have c1 := h1.c1
    have c2 := h1.c2
    have c3 := h1.c3
    have c5 := h1.c5
    have c6 := h1.c6
    have c7 := h1.c7
    rcases h3 with ⟨hb, hld⟩ | ⟨hb, hld, hf, hps⟩ | ⟨hi, p0, p1, p2, p3, p4⟩
    · have HT : Hid (takes s.data.toList = false) := by
        show _ = _
        simp only [takes, hld, Bool.not_true, Bool.and_false, Bool.false_and]
      have HB : Hid (Below w.heap.size w wr) := h2
      rw [hb] at c7
      clear h1 h2 hld
      generalize l.blocks.length = n at *
      by_cases hn : n = 0
      · subst hn
        go_wp2_with fail
        go_ret2
        exact ⟨HB.out, Or.inr ⟨HT.out, rfl⟩⟩
      · have hn' : decide ((0 : Int) < (n : Int)) = true := by simp; omega
        go_wp2_with fail
        go_ret2
        exact ⟨HB.out, Or.inr ⟨HT.out, rfl⟩⟩
    · have hbl : l.blocks.length = 0 := by rw [hf.blocks]; rfl
      rw [hbl] at c3
      rw [hb] at c7
      have hLr := h1.lt
      have n1 : ¬ L = wr.heap.size := by omega
      have HB : Hid (Below w.heap.size w wr) := h2
      have HC : Hid (∀ k T, Coded ((wr.drewN k).alloc (.cells #[.slice as' l.steps.length cs', .int .i64 l.slots, .int .i64 l.need] T)) wr.heap.size (loaded s.data.toList)) := fun k T => by
        rw [← hld]; exact coded_of h1 hf.sound.fits.pos k T
      by_cases hp : l.pos < s.size
      · have HT : Hid (takes s.data.toList = false) := by
          show _ = _
          have : ¬ (loaded s.data.toList).pos = (s.data.toList.length : Int) := by rw [← hld]; omega
          simp only [takes, decide_eq_false this, Bool.and_false]
        have d2 : decide (l.pos < (s.size : Int)) = true := decide_eq_true hp
        clear h1 h2 hld hf
        generalize l.pos = pos at *
        go_wp2_with fail
        go_ret2
        exact ⟨HB.out, Or.inr ⟨HT.out, rfl⟩⟩
      · have HT : Hid (takes s.data.toList = true) := by
          show _ = _
          have e1 : (loaded s.data.toList).pos = (s.data.toList.length : Int) := by rw [← hld]; omega
          have e2 : (loaded s.data.toList).bad = false := by rw [← hld]; exact hb
          simp only [takes, decide_eq_true e1, decide_eq_true hbs, e2, Bool.not_false, Bool.and_self]
        have d2 : decide (l.pos < (s.size : Int)) = false := decide_eq_false hp
        clear h1 h2 hld hf
        generalize l.pos = pos at *
        generalize l.slots = sl at *
        generalize l.need = need at *
        generalize l.steps.length = nst at *
        go_wp2_with fail
        refine wp_quiet_tail 13 (by kernel_rfl) (by kernel_rfl) ?_
        simp only [List.take_succ_cons, List.take_zero, List.drop_succ_cons, List.drop_zero]
        repeat (go_big_quiet_step (fail))
        refine wpQuiet_nil ?_
        intro _ hw'
        obtain ⟨k3, hw''⟩ := hw'
        subst hw''
        go_wp2_with fail
        go_ret2
        refine ⟨?_, Or.inl ⟨HT.out, wr.heap.size, by have := HB.out.size; omega, rfl, HC.out k3 _⟩⟩
        have hb3 : Below w.heap.size w (wr.drewN k3) := HB.out.trans ⟨rfl, rfl, rfl, Nat.le_refl _, fun _ _ => rfl⟩
        exact hb3.alloc HB.out.size _
    · have hbp : 0 < l.blocks.length := List.length_pos_iff.2 hi.blocks.1
      have hn' : decide ((0 : Int) < (l.blocks.length : Int)) = true := by simp; omega
      rw [hi.bad] at c7
      obtain ⟨p, hp⟩ := Int.eq_ofNat_of_zero_le p0
      obtain ⟨g', rfl⟩ : ∃ g', gk = g' + 1 := ⟨gk - 1, by omega⟩
      have HC : Hid (Calls Tryz.prog 72 #[.pointer (some ⟨L, 0, none⟩)] wr (Instr1 w.heap.size wr L s (.slice as' l.steps.length cs') (.slice ab l.blocks.length cb) vl fun l' => After s.data.toList l l')) := instruction_any h1 hi p hp (by omega) hs (by omega)
      have HN : Hid (∀ e w', Instr1 w.heap.size wr L s (.slice as' l.steps.length cs') (.slice ab l.blocks.length cb) vl (fun l' => After s.data.toList l l') e w' → e = .returned (.tuple #[]) ∧ ∃ l' vs' vb' vl', LoadIn w.heap.size w' L s l' vs' vb' vl' ∧ Below w.heap.size w w' ∧ Stage s.data.toList g' l') := by
        rintro e w' ⟨q1, l', vs', vb', vl', q2, q3, q4⟩
        exact ⟨q1, l', vs', vb', vl', q2, h2.trans (Moves.below h1 q3), stage_next hbs hi p0 p1 p2 p3 p4 q4⟩
      clear h1 h2 hi p4
      generalize l.blocks.length = n at *
      go_wp2_with fail
      refine HC.out.mono ?_
      intro e w2 hq
      obtain ⟨rfl, hq2⟩ := HN.out _ _ hq
      have HQ : Hid (∃ l' vs' vb' vl', LoadIn w.heap.size w2 L s l' vs' vb' vl' ∧ Below w.heap.size w w2 ∧ Stage s.data.toList g' l') := hq2
      clear hq hq2 HC HN
      go_wp2_with fail
      go_roundg g'
      case measure => omega
      case rel => exact HQ.out

theorem load_any (w : World) (s : ByteArray) : Calls Tryz.prog 31 #[.string s] w (LoadPost s w) := by
  by_cases hs : s.size ≤ 100000
  · exact load_short w s hs
  · exact load_long w s (by omega)
end Go.Proofs.YthllhabjfchgiaaGreatDoor
