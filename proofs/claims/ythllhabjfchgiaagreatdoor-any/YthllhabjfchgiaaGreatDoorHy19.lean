import Derived.Test.YthllhabjfchgiaaGreatDoorHy09
import Derived.Test.YthllhabjfchgiaaGreatDoorHy10
import Derived.Test.YthllhabjfchgiaaGreatDoorHy17
import Derived.Deep.CutBlock
import Derived.Deep.DeepCutAuto
import Derived.Test.YthllhabjfchgiaaGreatDoorHy18
/- PLAIN LAWS: what comes of a run. -/
namespace Go.Proofs.YthllhabjfchgiaaGreatDoor.Hx
open Go.RowKit

/-- actions such as a run may tell -/
structure ActsOk (v : Vw) (acts : List (Int × Int)) : Prop where
  each : ∀ a ∈ acts, (∃ r ∈ v.roads, r.id = a.1) ∧ ((∃ p ∈ v.fresh, p.seq = a.2) ∨ (∃ p ∈ v.again, p.seq = a.2))
  len : acts.length ≤ 256

def OutOk (v : Vw) (regs : List Int) (o : Out) : Prop := (o.status = 0 ∧ ActsOk v o.acts) ∨ ((o.status = 1 ∨ o.status = 2) ∧ o.regs = regs ∧ o.acts = [])

theorem acts_nil (v : Vw) : ActsOk v [] := ⟨fun _ h => (List.not_mem_nil h).elim, by simp⟩

theorem choose_acts (s : St) (b : Bool) (m : Mc) : (choose s b m).acts = m.acts := by
  unfold choose; split <;> rfl

theorem work_acts (v : Vw) (s : St) (m : Mc) : (work v s m).acts = m.acts := by
  unfold work
  repeat' split
  all_goals first | rfl | exact choose_acts _ _ _

theorem turn_acts (s : St) (k : Int) (m : Mc) : (turn s k m).1.acts = m.acts := by
  unfold turn; split <;> rfl

theorem push_acts {v : Vw} {i j : Int} {m m' : Mc} (h : push v i j m = some m') (ha : ActsOk v m.acts) : ActsOk v m'.acts := by
  unfold push at h
  split at h
  · rename_i r p hr hp
    split at h
    · cases h
    · rename_i hl
      cases h
      refine ⟨fun a h => ?_, ?_⟩
      · rcases List.mem_append.1 h with h | h
        · exact ha.each a h
        · rw [List.mem_singleton] at h
          subst h
          refine ⟨⟨r, Vw.mem_road hr, rfl⟩, ?_⟩
          rcases Vw.mem_packet hp with h | h
          · exact Or.inl ⟨p, h, rfl⟩
          · exact Or.inr ⟨p, h, rfl⟩
      · have := ha.len
        simp only [List.length_append, List.length_singleton]
        omega
  · cases h; exact ha

theorem step_acts {v : Vw} {S : List St} {regs : List Int} {k : Nat} {s : St} {m : Mc} (ha : ActsOk v m.acts) :
    (∀ o, step v S regs k s m = .inl o → OutOk v regs o) ∧ (∀ k' m', step v S regs k s m = .inr (k', m') → ActsOk v m'.acts) := by
  unfold step
  by_cases h1 : s.op = 1
  · simp only [if_pos h1]
    exact ⟨fun o h => by cases h; exact Or.inl ⟨rfl, ha⟩, fun k' m' h => by cases h⟩
  by_cases h2 : s.op = 2
  · simp only [if_neg h1, if_pos h2]
    exact ⟨fun o h => (by cases h), fun k' m' h => by cases h; exact ha⟩
  by_cases h3 : s.op = 3
  · simp only [if_neg h1, if_neg h2, if_pos h3]
    exact ⟨fun o h => (by cases h), fun k' m' h => by cases h; exact ha⟩
  by_cases h4 : s.op = 4
  · simp only [if_neg h1, if_neg h2, if_neg h3, if_pos h4]
    exact ⟨fun o h => (by cases h), fun k' m' h => by cases h; rw [turn_acts]; exact ha⟩
  by_cases h5 : s.op = 5
  · simp only [if_neg h1, if_neg h2, if_neg h3, if_neg h4, if_pos h5]
    split
    · split
      · exact ⟨fun o h => (by cases h), fun k' m' h => by cases h; rw [turn_acts]; exact ha⟩
      · exact ⟨fun o h => by cases h; exact Or.inr ⟨Or.inr rfl, rfl, rfl⟩, fun k' m' h => by cases h⟩
    · exact ⟨fun o h => (by cases h), fun k' m' h => by cases h; exact ha⟩
  by_cases h0 : s.op = 0
  · simp only [if_neg h1, if_neg h2, if_neg h3, if_neg h4, if_neg h5, if_pos h0]
    split
    · exact ⟨fun o h => (by cases h), fun k' m' h => by cases h; rw [turn_acts]; exact ha⟩
    · exact ⟨fun o h => by cases h; exact Or.inr ⟨Or.inr rfl, rfl, rfl⟩, fun k' m' h => by cases h⟩
  by_cases h36 : s.op = 36
  · simp only [if_neg h1, if_neg h2, if_neg h3, if_neg h4, if_neg h5, if_neg h0, if_pos h36]
    cases hp : push v (m.get s.a) (m.get s.b) m with
    | none => exact ⟨fun o h => by cases h; exact Or.inr ⟨Or.inl rfl, rfl, rfl⟩, fun k' m' h => by cases h⟩
    | some m1 => exact ⟨fun o h => (by cases h), fun k' m' h => by cases h; exact push_acts hp ha⟩
  · simp only [if_neg h1, if_neg h2, if_neg h3, if_neg h4, if_neg h5, if_neg h0, if_neg h36]
    exact ⟨fun o h => (by cases h), fun k' m' h => by cases h; rw [work_acts]; exact ha⟩

theorem runs_ok (v : Vw) (S : List St) (regs : List Int) : ∀ (f : Nat) (k : Int) (m : Mc), ActsOk v m.acts → OutOk v regs (runs v S regs f k m)
  | 0, _, _, _ => Or.inr ⟨Or.inr rfl, rfl, rfl⟩
  | f + 1, k, m, ha => by
    simp only [runs]
    cases hk : S[k.toNat]? with
    | none => exact Or.inr ⟨Or.inr rfl, rfl, rfl⟩
    | some s =>
      obtain ⟨g1, g2⟩ := step_acts (v := v) (S := S) (regs := regs) (k := k.toNat) (s := s) ha
      simp only
      cases hs : step v S regs k.toNat s m with
      | inl o => exact g1 o hs
      | inr p =>
        obtain ⟨k', m'⟩ := p
        exact runs_ok v S regs f k' m' (g2 k' m' hs)
end Go.Proofs.YthllhabjfchgiaaGreatDoor.Hx

/- (*loader).instruction. -/
namespace Go.Proofs.YthllhabjfchgiaaGreatDoor
open Go.RowKit
open Hx (St Bk Ls In64 Inv)
attribute [local go_sem ↓] Go.wp_at_zero Go.wp_at_succ
attribute [local go_sem] setCell_drewN'
variable {B : Nat} {w : World} {L : Nat} {s : ByteArray} {l : Ls} {vs vb vl : Value}

/-- what a callee of instruction leaves -/
def Acts (B : Nat) (w : World) (L : Nat) (s : ByteArray) (vs vb vl : Value) (l' : Ls) (e : Ending) (w' : World) : Prop :=
  e = .returned (.tuple #[]) ∧ ∃ vs' vb' vl', LoadIn B w' L s l' vs' vb' vl' ∧ Moves L w vs vb vl w' vs' vb' vl'

def stepV (st : St) : Value := .agg #[.int .u8 st.op, .int .i64 st.a, .int .i64 st.b, .int .i64 st.c, .int .i64 st.d, .int .i64 st.depth, .int .i64 st.to]

section
set_option linter.unusedVariables false

theorem act_open (h : LoadIn B w L s l vs vb vl) (hi : Inv l) (hl : l.steps.length ≤ 100000) (st : St) (ho : st.op = 2) : Calls Tryz.prog 113 #[.pointer (some ⟨L, 0, none⟩), stepV st] w (Acts B w L s vs vb vl (instr l st)) := by
  obtain ⟨b1, b2⟩ := hi.blocks
  refine (open_any h b1 (by omega) (by omega) st.op st.a st.b st.c st.d st.depth st.to).mono ?_
  rintro e w' ⟨h1, vs', vb', h2, h3⟩
  refine ⟨h1, vs', vb', vl, ?_, h3⟩
  rw [show instr l st = openStep l st by simp [instr, ho]]
  exact h2

theorem act_loop (h : LoadIn B w L s l vs vb vl) (hi : Inv l) (hl : l.steps.length ≤ 100000) (st : St) (ho : st.op = 4) : Calls Tryz.prog 114 #[.pointer (some ⟨L, 0, none⟩), stepV st] w (Acts B w L s vs vb vl (instr l st)) := by
  obtain ⟨b1, b2⟩ := hi.blocks
  have h8 := hi.eight
  by_cases hx : l.loops.length = 8
  · refine (openLoop_full h hx st.op st.a st.b st.c st.d st.depth st.to).mono ?_
    rintro e w' ⟨h1, h2, h3⟩
    refine ⟨h1, vs, vb, vl, ?_, h3⟩
    rw [show instr l st = { l with bad := true } by simp [instr, ho, hx]]
    exact h2
  · refine (openLoop_more h b1 (by omega) (by omega) (by omega) st.op st.a st.b st.c st.d st.depth st.to).mono ?_
    rintro e w' ⟨h1, vs', vb', vl', h2, h3⟩
    refine ⟨h1, vs', vb', vl', ?_, h3⟩
    rw [show instr l st = loopStep l st by simp [instr, ho, hx]]
    exact h2

theorem act_divide (h : LoadIn B w L s l vs vb vl) (hi : Inv l) (hl : l.steps.length ≤ 100000) (st : St) (ho : st.op = 3) : Calls Tryz.prog 115 #[.pointer (some ⟨L, 0, none⟩), stepV st] w (Acts B w L s vs vb vl (instr l st)) := by
  obtain ⟨b1, b2⟩ := hi.blocks
  have b0 : 0 < l.blocks.length := List.length_pos_iff.2 b1
  by_cases hx : l.blocks.length = 1
  · refine (divide_one h hx st.op st.a st.b st.c st.d st.depth st.to).mono ?_
    rintro e w' ⟨h1, h2, h3⟩
    refine ⟨h1, vs, vb, vl, ?_, h3⟩
    rw [show instr l st = { l with bad := true } by simp [instr, ho, hx]]
    exact h2
  have hb2 : 2 ≤ l.blocks.length := by omega
  have hb9 : l.blocks.length ≤ 900000 := by omega
  have hl9 : l.steps.length ≤ 900000 := by omega
  have h89 : l.loops.length ≤ 900000 := by have := hi.eight; omega
  obtain ⟨init, bo, b, e⟩ := hi.split2 hx
  have hc := hi.chain
  rw [e, Hx.rev2] at hc
  obtain ⟨o, so, c1, c2, c3, c4, c5⟩ := hc
  have ht : l.top = b := Hx.top_eq e
  have hto : l.top.opener = o := by rw [ht, c1]
  by_cases hy : 0 < l.top.other
  · refine (divide_other h hb2 hb9 hy st.op st.a st.b st.c st.d st.depth st.to).mono ?_
    rintro e w' ⟨h1, h2, h3⟩
    refine ⟨h1, vs, vb, vl, ?_, h3⟩
    rw [show instr l st = { l with bad := true } by simp [instr, ho, hy]]
    exact h2
  by_cases hz : so.op = 2
  · refine (divide_good h hb2 hb9 hl9 hy o so c3 hto hz st.op st.a st.b st.c st.d st.depth st.to).mono ?_
    rintro e w' ⟨h1, vs', vb', vl', h2, h3⟩
    refine ⟨h1, vs', vb', vl', ?_, h3⟩
    rw [show instr l st = divideAt l st o so by simp [instr, ho, hx, hy, hto, c3, hz]]
    exact h2
  · refine (divide_wrong h hb2 hb9 hy o so c3 hto hz st.op st.a st.b st.c st.d st.depth st.to).mono ?_
    rintro e w' ⟨h1, h2, h3⟩
    refine ⟨h1, vs, vb, vl, ?_, h3⟩
    rw [show instr l st = { l with bad := true } by simp [instr, ho, hx, hy, hto, c3, hz]]
    exact h2

theorem act_end (h : LoadIn B w L s l vs vb vl) (hi : Inv l) (hl : l.steps.length ≤ 100000) (st : St) (ho : st.op = 0) : Calls Tryz.prog 116 #[.pointer (some ⟨L, 0, none⟩), stepV st] w (Acts B w L s vs vb vl (instr l st)) := by
  obtain ⟨b1, b2⟩ := hi.blocks
  have b0 : 0 < l.blocks.length := List.length_pos_iff.2 b1
  have h8 := hi.eight
  by_cases hx : l.blocks.length = 1
  · refine (end_code h hx (by omega) st.op st.a st.b st.c st.d st.depth st.to).mono ?_
    rintro e w' ⟨h1, vs', vb', vl', h2, h3⟩
    refine ⟨h1, vs', vb', vl', ?_, h3⟩
    rw [show instr l st = endCodeAt l by simp [instr, ho, hx]]
    exact h2
  have hb2 : 2 ≤ l.blocks.length := by omega
  have hb9 : l.blocks.length ≤ 900000 := by omega
  have hl9 : l.steps.length ≤ 900000 := by omega
  have h89 : l.loops.length ≤ 900000 := by have := hi.eight; omega
  obtain ⟨init, bo, b, e⟩ := hi.split2 hx
  have hc := hi.chain
  rw [e, Hx.rev2] at hc
  obtain ⟨o, so, c1, c2, c3, c4, c5⟩ := hc
  have ht : l.top = b := Hx.top_eq e
  have hto : l.top.opener = o := by rw [ht, c1]
  by_cases hz : so.op = 4
  · have hlo := hi.loops
    rcases c4 with ⟨a1, a2, a3, a4, _⟩ | ⟨a1, _⟩ | ⟨a1, _⟩
    · have hlo' : l.loops = ((Hx.stk l.steps o).reverse.map Int.ofNat) ++ [(o : Int)] := by rw [hlo, a4]; simp
      refine (end_loop h hb2 hb9 o so c3 hto hz _ _ hlo' h89 hl9 st.op st.a st.b st.c st.d st.depth st.to).mono ?_
      rintro e w' ⟨h1, vs', vb', vl', h2, h3⟩
      refine ⟨h1, vs', vb', vl', ?_, h3⟩
      rw [show instr l st = endLoopAt l st o so by simp [instr, ho, hx, hto, c3, hz]]
      exact h2
    · omega
    · omega
  · rcases c4 with ⟨a1, _⟩ | ⟨a1, a2, _⟩ | ⟨a1, x, t, a2, a3, a4, a5, _⟩
    · exact absurd a1 hz
    · have hy : ¬ 0 < l.top.other := by rw [ht, a2]; omega
      refine (end_if_only h hb2 hb9 o so c3 hto hz hy st.op st.a st.b st.c st.d st.depth st.to).mono ?_
      rintro e w' ⟨h1, vs', vb', vl', h2, h3⟩
      refine ⟨h1, vs', vb', vl', ?_, h3⟩
      rw [show instr l st = endIfAt l o so l.blocks.dropLast l.top by simp [instr, ho, hx, hto, c3, hz, hy]]
      exact h2
    · have hox : l.top.other = x := by rw [ht, a2]
      have hy : 0 < l.top.other := by rw [hox]; omega
      refine (end_if_other h hb2 hb9 o so c3 hto hz x t a5 (by omega) hox st.op st.a st.b st.c st.d st.depth st.to).mono ?_
      rintro e w' ⟨h1, vs', vb', vl', h2, h3⟩
      refine ⟨h1, vs', vb', vl', ?_, h3⟩
      have hx0 : 0 < x := by omega
      rw [show instr l st = endIfAt l x t l.blocks.dropLast l.top by simp [instr, ho, hx, hto, c3, hz, hox, hx0, a5]]
      exact h2

theorem act_skip (h : LoadIn B w L s l vs vb vl) (hi : Inv l) (hl : l.steps.length ≤ 100000) (st : St) (ho : st.op = 5) : Calls Tryz.prog 117 #[.pointer (some ⟨L, 0, none⟩), stepV st] w (Acts B w L s vs vb vl (instr l st)) := by
  obtain ⟨b1, b2⟩ := hi.blocks
  have h8 := hi.eight
  rcases List.eq_nil_or_concat l.loops with hx | ⟨init, x, hx⟩
  · refine (skip_none h hx st.op st.a st.b st.c st.d st.depth st.to).mono ?_
    rintro e w' ⟨h1, h2, h3⟩
    refine ⟨h1, vs, vb, vl, ?_, h3⟩
    rw [show instr l st = { l with bad := true } by simp [instr, ho, hx, skipStep]]
    exact h2
  · rw [List.concat_eq_append] at hx
    refine (skip_some h b1 (by omega) (by omega) (by omega) init x hx st.op st.a st.b st.c st.d st.depth st.to).mono ?_
    rintro e w' ⟨h1, vs', h2, h3⟩
    refine ⟨h1, vs', vb, vl, ?_, h3⟩
    rw [show instr l st = addStep l ⟨st.op, st.a, st.b, st.c, st.d, st.depth, x⟩ by simp [instr, ho, hx, skipStep]]
    exact h2

theorem act_add (h : LoadIn B w L s l vs vb vl) (hi : Inv l) (hl : l.steps.length ≤ 100000) (st : St) (h0 : ¬ st.op = 0) (h2 : ¬ st.op = 2) (h3 : ¬ st.op = 3) (h4 : ¬ st.op = 4) (h5 : ¬ st.op = 5) : Calls Tryz.prog 118 #[.pointer (some ⟨L, 0, none⟩), stepV st] w (Acts B w L s vs vb vl (instr l st)) := by
  obtain ⟨b1, b2⟩ := hi.blocks
  refine (add_any h b1 (by omega) (by omega) st.op st.a st.b st.c st.d st.depth st.to).mono ?_
  rintro e w' ⟨g1, vs', g2, g3⟩
  refine ⟨g1, vs', vb, vl, ?_, g3⟩
  rw [show instr l st = addStep l st by simp [instr, h0, h2, h3, h4, h5]]
  exact g2
end
end Go.Proofs.YthllhabjfchgiaaGreatDoor

/- (*loader).instruction, whole. -/
namespace Go.Proofs.YthllhabjfchgiaaGreatDoor
open Go.RowKit
open Hx (St Bk Ls In64 Inv)
attribute [local go_sem ↓] Go.wp_at_zero Go.wp_at_succ
attribute [local go_sem] setCell_drewN'
variable {B : Nat} {w : World} {L : Nat} {s : ByteArray} {l : Ls} {vs vb vl : Value}

/-- what instruction leaves -/
def Instr1 (B : Nat) (w : World) (L : Nat) (s : ByteArray) (vs vb vl : Value) (Q : Ls → Prop) (e : Ending) (w' : World) : Prop :=
  e = .returned (.tuple #[]) ∧ ∃ l' vs' vb' vl', LoadIn B w' L s l' vs' vb' vl' ∧ Moves L w vs vb vl w' vs' vb' vl' ∧ Q l'

set_option maxRecDepth 100000 in
set_option maxHeartbeats 1000000 in
theorem instr_bad (HR : Hid (Calls Tryz.prog 112 #[.pointer (some ⟨L, 0, none⟩)] w fun e w' => ∃ l' x0 x1 x2 x3 x4, LoadIn B w' L s l' vs vb vl ∧ Moves L w vs vb vl w' vs vb vl ∧ e = .returned (.tuple #[.agg #[.int .u8 x0, .int .i64 x1, .int .i64 x2, .int .i64 x3, .int .i64 x4, .int .i64 0, .int .i64 0], .bool false]))) :
    Calls Tryz.prog 72 #[.pointer (some ⟨L, 0, none⟩)] w (Instr1 B w L s vs vb vl fun l' => l'.bad = true) := by
  go_enter Tryz.func72, Tryz.ntmps72
  go_wp2_with fail
  refine HR.out.mono ?_
  rintro e w1 ⟨l', x0, x1, x2, x3, x4, h1, h2, rfl⟩
  have c7 := h1.c7
  have f7 := h1.fr 7
  have hL := h1.lt
  have n1 : ¬ L = w1.heap.size := by omega
  have HP : Hid (∀ o, LoadIn B ((w1.setCell ⟨L, 7, none⟩ (.bool true)).alloc o) L s { l' with bad := true } vs vb vl ∧ Moves L w vs vb vl ((w1.setCell ⟨L, 7, none⟩ (.bool true)).alloc o) vs vb vl) := fun o =>
    ⟨h1.putBad.alloc o, h2.trans ((Moves.own L w1 vs vb vl 7 _).trans (Moves.grow L _ _ _ _ (World.grownBy_alloc _ o none)))⟩
  clear h1 h2 HR
  go_wp2_with fail
  go_end0
  exact ⟨rfl, _, _, _, _, (HP.out _).1, (HP.out _).2, rfl⟩

set_option maxRecDepth 100000 in
set_option maxHeartbeats 1000000 in
theorem instr_good (l1 : Ls) (hi : Inv l1) (hl : l1.steps.length ≤ 100000) (st : St) (hd : st.depth = 0) (ht : st.to = 0)
    (HR : Hid (Calls Tryz.prog 112 #[.pointer (some ⟨L, 0, none⟩)] w fun e w' => LoadIn B w' L s l1 vs vb vl ∧ Moves L w vs vb vl w' vs vb vl ∧ e = .returned (.tuple #[stepV st, .bool true]))) :
    Calls Tryz.prog 72 #[.pointer (some ⟨L, 0, none⟩)] w (Instr1 B w L s vs vb vl fun l' => l' = instr l1 st) := by
  obtain ⟨q, a, b, c, d, dp, t⟩ := st
  simp only at hd ht
  subst hd
  subst ht
  have HF : Hid (∀ w1 o e w', LoadIn B w1 L s l1 vs vb vl → Moves L w vs vb vl w1 vs vb vl → Acts B (w1.alloc o) L s vs vb vl (instr l1 ⟨q, a, b, c, d, 0, 0⟩) e w' → Instr1 B w L s vs vb vl (fun l' => l' = instr l1 ⟨q, a, b, c, d, 0, 0⟩) e w') := by
    rintro w1 o e w' h1 h2 ⟨h3, vs', vb', vl', h4, h5⟩
    exact ⟨h3, _, _, _, _, h4, h2.trans ((Moves.grow L w1 _ _ _ (World.grownBy_alloc _ o none)).trans h5), rfl⟩
  by_cases o2 : q = 2
  · subst o2
    go_enter Tryz.func72, Tryz.ntmps72
    go_wp2_with fail
    refine HR.out.mono ?_
    rintro e w1 ⟨h1, h2, rfl⟩
    have HC : Hid (∀ o, Calls Tryz.prog 113 #[.pointer (some ⟨L, 0, none⟩), .agg #[.int .u8 2, .int .i64 a, .int .i64 b, .int .i64 c, .int .i64 d, .int .i64 0, .int .i64 0]] (w1.alloc o) (Acts B (w1.alloc o) L s vs vb vl (instr l1 ⟨2, a, b, c, d, 0, 0⟩))) := fun o => act_open (h1.alloc o) hi hl ⟨2, a, b, c, d, 0, 0⟩ rfl
    have HG : Hid (∀ o e w', Acts B (w1.alloc o) L s vs vb vl (instr l1 ⟨2, a, b, c, d, 0, 0⟩) e w' → Instr1 B w L s vs vb vl (fun l' => l' = instr l1 ⟨2, a, b, c, d, 0, 0⟩) e w') := fun o e w' ha => HF.out w1 o e w' h1 h2 ha
    clear h1 h2 HR hi HF
    simp only [stepV]
    go_wp2_with fail
    refine (HC.out _).mono ?_
    intro e w2 ha
    have hg := HG.out _ _ _ ha
    obtain ⟨rfl, _⟩ := ha
    have HH : Hid (Instr1 B w L s vs vb vl (fun l' => l' = instr l1 ⟨2, a, b, c, d, 0, 0⟩) (.returned (.tuple #[])) w2) := hg
    clear hg
    go_wp2_with fail
    go_end0
    exact HH.out
  by_cases o4 : q = 4
  · subst o4
    go_enter Tryz.func72, Tryz.ntmps72
    go_wp2_with fail
    refine HR.out.mono ?_
    rintro e w1 ⟨h1, h2, rfl⟩
    have HC : Hid (∀ o, Calls Tryz.prog 114 #[.pointer (some ⟨L, 0, none⟩), .agg #[.int .u8 4, .int .i64 a, .int .i64 b, .int .i64 c, .int .i64 d, .int .i64 0, .int .i64 0]] (w1.alloc o) (Acts B (w1.alloc o) L s vs vb vl (instr l1 ⟨4, a, b, c, d, 0, 0⟩))) := fun o => act_loop (h1.alloc o) hi hl ⟨4, a, b, c, d, 0, 0⟩ rfl
    have HG : Hid (∀ o e w', Acts B (w1.alloc o) L s vs vb vl (instr l1 ⟨4, a, b, c, d, 0, 0⟩) e w' → Instr1 B w L s vs vb vl (fun l' => l' = instr l1 ⟨4, a, b, c, d, 0, 0⟩) e w') := fun o e w' ha => HF.out w1 o e w' h1 h2 ha
    clear h1 h2 HR hi HF
    simp only [stepV]
    go_wp2_with fail
    refine (HC.out _).mono ?_
    intro e w2 ha
    have hg := HG.out _ _ _ ha
    obtain ⟨rfl, _⟩ := ha
    have HH : Hid (Instr1 B w L s vs vb vl (fun l' => l' = instr l1 ⟨4, a, b, c, d, 0, 0⟩) (.returned (.tuple #[])) w2) := hg
    clear hg
    go_wp2_with fail
    go_end0
    exact HH.out
  by_cases o3 : q = 3
  · subst o3
    go_enter Tryz.func72, Tryz.ntmps72
    go_wp2_with fail
    refine HR.out.mono ?_
    rintro e w1 ⟨h1, h2, rfl⟩
    have HC : Hid (∀ o, Calls Tryz.prog 115 #[.pointer (some ⟨L, 0, none⟩), .agg #[.int .u8 3, .int .i64 a, .int .i64 b, .int .i64 c, .int .i64 d, .int .i64 0, .int .i64 0]] (w1.alloc o) (Acts B (w1.alloc o) L s vs vb vl (instr l1 ⟨3, a, b, c, d, 0, 0⟩))) := fun o => act_divide (h1.alloc o) hi hl ⟨3, a, b, c, d, 0, 0⟩ rfl
    have HG : Hid (∀ o e w', Acts B (w1.alloc o) L s vs vb vl (instr l1 ⟨3, a, b, c, d, 0, 0⟩) e w' → Instr1 B w L s vs vb vl (fun l' => l' = instr l1 ⟨3, a, b, c, d, 0, 0⟩) e w') := fun o e w' ha => HF.out w1 o e w' h1 h2 ha
    clear h1 h2 HR hi HF
    simp only [stepV]
    go_wp2_with fail
    refine (HC.out _).mono ?_
    intro e w2 ha
    have hg := HG.out _ _ _ ha
    obtain ⟨rfl, _⟩ := ha
    have HH : Hid (Instr1 B w L s vs vb vl (fun l' => l' = instr l1 ⟨3, a, b, c, d, 0, 0⟩) (.returned (.tuple #[])) w2) := hg
    clear hg
    go_wp2_with fail
    go_end0
    exact HH.out
  by_cases o0 : q = 0
  · subst o0
    go_enter Tryz.func72, Tryz.ntmps72
    go_wp2_with fail
    refine HR.out.mono ?_
    rintro e w1 ⟨h1, h2, rfl⟩
    have HC : Hid (∀ o, Calls Tryz.prog 116 #[.pointer (some ⟨L, 0, none⟩), .agg #[.int .u8 0, .int .i64 a, .int .i64 b, .int .i64 c, .int .i64 d, .int .i64 0, .int .i64 0]] (w1.alloc o) (Acts B (w1.alloc o) L s vs vb vl (instr l1 ⟨0, a, b, c, d, 0, 0⟩))) := fun o => act_end (h1.alloc o) hi hl ⟨0, a, b, c, d, 0, 0⟩ rfl
    have HG : Hid (∀ o e w', Acts B (w1.alloc o) L s vs vb vl (instr l1 ⟨0, a, b, c, d, 0, 0⟩) e w' → Instr1 B w L s vs vb vl (fun l' => l' = instr l1 ⟨0, a, b, c, d, 0, 0⟩) e w') := fun o e w' ha => HF.out w1 o e w' h1 h2 ha
    clear h1 h2 HR hi HF
    simp only [stepV]
    go_wp2_with fail
    refine (HC.out _).mono ?_
    intro e w2 ha
    have hg := HG.out _ _ _ ha
    obtain ⟨rfl, _⟩ := ha
    have HH : Hid (Instr1 B w L s vs vb vl (fun l' => l' = instr l1 ⟨0, a, b, c, d, 0, 0⟩) (.returned (.tuple #[])) w2) := hg
    clear hg
    go_wp2_with fail
    go_end0
    exact HH.out
  by_cases o5 : q = 5
  · subst o5
    go_enter Tryz.func72, Tryz.ntmps72
    go_wp2_with fail
    refine HR.out.mono ?_
    rintro e w1 ⟨h1, h2, rfl⟩
    have HC : Hid (∀ o, Calls Tryz.prog 117 #[.pointer (some ⟨L, 0, none⟩), .agg #[.int .u8 5, .int .i64 a, .int .i64 b, .int .i64 c, .int .i64 d, .int .i64 0, .int .i64 0]] (w1.alloc o) (Acts B (w1.alloc o) L s vs vb vl (instr l1 ⟨5, a, b, c, d, 0, 0⟩))) := fun o => act_skip (h1.alloc o) hi hl ⟨5, a, b, c, d, 0, 0⟩ rfl
    have HG : Hid (∀ o e w', Acts B (w1.alloc o) L s vs vb vl (instr l1 ⟨5, a, b, c, d, 0, 0⟩) e w' → Instr1 B w L s vs vb vl (fun l' => l' = instr l1 ⟨5, a, b, c, d, 0, 0⟩) e w') := fun o e w' ha => HF.out w1 o e w' h1 h2 ha
    clear h1 h2 HR hi HF
    simp only [stepV]
    go_wp2_with fail
    refine (HC.out _).mono ?_
    intro e w2 ha
    have hg := HG.out _ _ _ ha
    obtain ⟨rfl, _⟩ := ha
    have HH : Hid (Instr1 B w L s vs vb vl (fun l' => l' = instr l1 ⟨5, a, b, c, d, 0, 0⟩) (.returned (.tuple #[])) w2) := hg
    clear hg
    go_wp2_with fail
    go_end0
    exact HH.out
  have e0 : (q == 0) = false := by simpa using o0
  have e2 : (q == 2) = false := by simpa using o2
  have e3 : (q == 3) = false := by simpa using o3
  have e4 : (q == 4) = false := by simpa using o4
  have e5 : (q == 5) = false := by simpa using o5
  go_enter Tryz.func72, Tryz.ntmps72
  go_wp2_with fail
  refine HR.out.mono ?_
  rintro e w1 ⟨h1, h2, rfl⟩
  have HC : Hid (∀ o, Calls Tryz.prog 118 #[.pointer (some ⟨L, 0, none⟩), .agg #[.int .u8 q, .int .i64 a, .int .i64 b, .int .i64 c, .int .i64 d, .int .i64 0, .int .i64 0]] (w1.alloc o) (Acts B (w1.alloc o) L s vs vb vl (instr l1 ⟨q, a, b, c, d, 0, 0⟩))) := fun o => act_add (h1.alloc o) hi hl ⟨q, a, b, c, d, 0, 0⟩ o0 o2 o3 o4 o5
  have HG : Hid (∀ o e w', Acts B (w1.alloc o) L s vs vb vl (instr l1 ⟨q, a, b, c, d, 0, 0⟩) e w' → Instr1 B w L s vs vb vl (fun l' => l' = instr l1 ⟨q, a, b, c, d, 0, 0⟩) e w') := fun o e w' ha => HF.out w1 o e w' h1 h2 ha
  clear h1 h2 HR hi HF
  simp only [stepV]
  go_wp2_with fail
  refine (HC.out _).mono ?_
  intro e w2 ha
  have hg := HG.out _ _ _ ha
  obtain ⟨rfl, _⟩ := ha
  have HH : Hid (Instr1 B w L s vs vb vl (fun l' => l' = instr l1 ⟨q, a, b, c, d, 0, 0⟩) (.returned (.tuple #[])) w2) := hg
  clear hg
  go_wp2_with fail
  go_end0
  exact HH.out

/-- what instruction does -/
def After (bs : List UInt8) (l l' : Ls) : Prop := match readStep bs l with
  | none => l'.bad = true
  | some (st, l1) => l' = instr l1 st

theorem instruction_any (h : LoadIn B w L s l vs vb vl) (hi : Inv l) (p : Nat) (hp : l.pos = p) (hps : p ≤ s.size) (hs : s.size ≤ 100000) (hl : l.steps.length ≤ p) :
    Calls Tryz.prog 72 #[.pointer (some ⟨L, 0, none⟩)] w (Instr1 B w L s vs vb vl fun l' => After s.data.toList l l') := by
  have hlen : s.data.toList.length = s.size := by simp
  by_cases he : p = s.size
  · have hn : readStep s.data.toList l = none := by
      unfold readStep
      rw [List.getElem?_eq_none (by omega)]
    simp only [After, hn]
    refine instr_bad ((read_end h (by omega)).mono ?_)
    rintro e w' ⟨rfl, hg⟩
    exact ⟨l, _, _, _, _, _, h.grow hg, Moves.grow L w vs vb vl hg, rfl⟩
  · have hlt : p < s.size := by omega
    have hb : s.data.toList[l.pos.toNat]? = some s[p] := by
      have e1 : l.pos.toNat = p := by omega
      rw [e1, List.getElem?_eq_getElem (by omega)]
      rfl
    have hpt : l.pos.toNat + 1 = p + 1 := by omega
    have hR := read_more h p hp hlt hs _ rfl
    cases hr : readNums s.data.toList (Hx.shape s[p].toNat) (p + 1) l.slots with
    | none =>
      have hn : readStep s.data.toList l = none := by
        unfold readStep
        rw [hb]
        simp only [hpt, hr]
        split <;> rfl
      simp only [After, hn]
      refine instr_bad (hR.mono ?_)
      rintro e w' ⟨l', h1, h2, ⟨ns, p', sl', h3, _⟩ | ⟨_, _, rfl⟩⟩
      · rw [hr] at h3; cases h3
      · exact ⟨l', _, _, _, _, _, h1, h2, rfl⟩
    | some r =>
      obtain ⟨ns, p', sl'⟩ := r
      cases hop : Hx.isOp s[p].toNat with
      | false =>
        have hn : readStep s.data.toList l = none := by
          unfold readStep
          rw [hb]
          simp [hop]
        simp only [After, hn]
        refine instr_bad (hR.mono ?_)
        rintro e w' ⟨l', h1, h2, ⟨ns, p', sl', h3, _, rfl⟩ | ⟨h3, _⟩⟩
        · rw [hop]; exact ⟨l', _, _, _, _, _, h1, h2, rfl⟩
        · rw [hr] at h3; cases h3
      | true =>
        have hn : readStep s.data.toList l = some (⟨s[p].toNat, ns.getD 0 0, ns.getD 1 0, ns.getD 2 0, ns.getD 3 0, 0, 0⟩, { l with pos := p', slots := sl' }) := by
          unfold readStep
          rw [hb]
          simp [hop, hpt, hr]
        have hok := Hx.readStep_ok hn (by omega) hi.slots
        simp only [After, hn]
        refine instr_good { l with pos := p', slots := sl' } (hi.read hok.2.2.2.1 hok.2.2.2.2.1) (by show l.steps.length ≤ 100000; omega) _ rfl rfl (hR.mono ?_)
        rintro e w' ⟨l', h1, h2, ⟨ns', p'', sl'', h3, h4, rfl⟩ | ⟨h3, _⟩⟩
        · rw [hr] at h3
          cases h3
          subst h4
          rw [hop]
          exact ⟨h1, h2, rfl⟩
        · rw [hr] at h3; cases h3
end Go.Proofs.YthllhabjfchgiaaGreatDoor

/- vm.Load. -/
namespace Go.Proofs.YthllhabjfchgiaaGreatDoor
open Go.RowKit
open Hx (St Bk Ls In64 Inv Final)
attribute [local go_sem ↓] Go.wp_at_zero Go.wp_at_succ
attribute [local go_sem] setCell_drewN'
variable {B : Nat} {w : World} {L : Nat} {s : ByteArray} {l : Ls} {vs vb vl : Value}

theorem Moves.below (h : LoadIn B w L s l vs vb vl) {w' : World} {vs' vb' vl' : Value} (hm : Moves L w vs vb vl w' vs' vb' vl') : Below B w w' := by
  refine ⟨hm.os, hm.tape, hm.output, hm.size, fun k hk => ?_⟩
  have hL := h.lt
  have hB := h.bL
  have aux : ∀ {v : Value} {e : TypeId} {sz n : Nat} {xs : List Value}, w.ownsRow B e sz v n xs → some k ≠ v.ownBlock := fun ho e => by
    have := (ho.lt k e.symm).1
    omega
  exact hm.block k (by omega) (by omega) (aux h.steps) (aux h.blocks) (aux h.loops)

/-- how far Load is -/
def Stage (bs : List UInt8) (g : Nat) (l : Ls) : Prop :=
  (l.bad = true ∧ (loaded bs).bad = true) ∨ (l.bad = false ∧ l = loaded bs ∧ Final l ∧ l.pos ≤ bs.length) ∨
  (Inv l ∧ 0 ≤ l.pos ∧ l.pos ≤ bs.length ∧ (l.steps.length : Int) ≤ l.pos ∧ (bs.length : Int) - l.pos < g ∧ loadGo bs g l = loaded bs)

theorem stage_first (bs : List UInt8) : Stage bs (bs.length + 1) firstLs :=
  Or.inr (Or.inr ⟨Hx.inv_first, by simp [firstLs], by simp [firstLs], by simp [firstLs], by simp only [firstLs]; omega, rfl⟩)

theorem stage_next {bs : List UInt8} (hbs : bs.length ≤ 100000) {g : Nat} {l l' : Ls} (hi : Inv l) (h0 : 0 ≤ l.pos) (h1 : l.pos ≤ bs.length) (h2 : (l.steps.length : Int) ≤ l.pos) (h3 : (bs.length : Int) - l.pos < (g + 1 : Nat)) (h4 : loadGo bs (g + 1) l = loaded bs) (ha : After bs l l') : Stage bs g l' := by
  have hn : ¬ (l.blocks = [] ∨ l.bad = true) := fun e => e.elim hi.blocks.1 (fun e => by rw [hi.bad] at e; cases e)
  unfold After at ha
  cases hr : readStep bs l with
  | none =>
    rw [hr] at ha
    refine Or.inl ⟨ha, ?_⟩
    rw [← h4]
    simp only [loadGo, if_neg hn, hr]
  | some q =>
    obtain ⟨st, l1⟩ := q
    rw [hr] at ha
    simp only at ha
    subst ha
    rw [Hx.loadGo_next bs g l l1 st hi hr] at h4
    obtain ⟨g1, g2, g3, g4, g5, g6⟩ := Hx.readStep_ok hr h0 hi.slots
    have hi1 : Inv l1 := by rw [g6]; exact hi.read g4 g5
    have hs1 : l1.steps = l.steps := by rw [g6]
    obtain ⟨k1, k2⟩ := Hx.instr_len l1 st
    cases hbb : (instr l1 st).bad with
    | true =>
      rw [Hx.loadGo_bad bs g _ hbb] at h4
      exact Or.inl ⟨hbb, by rw [← h4]; exact hbb⟩
    | false =>
      rcases Hx.inv_instr hi1 st g1 (by rw [hs1]; omega) hbb with hv | hv
      · exact Or.inr (Or.inr ⟨hv, by rw [k2]; omega, by rw [k2]; exact g3, by rw [k2]; rw [hs1] at k1; omega, by rw [k2]; push_cast at h3; omega, h4⟩)
      · rw [Hx.loadGo_done bs g _ hv.blocks] at h4
        exact Or.inr (Or.inl ⟨hbb, h4, hv, by rw [k2]; exact g3⟩)

/-- code in memory, as Load leaves it -/
structure Coded (w : World) (C : Nat) (l : Ls) : Prop where
  code : ∃ sb cap, CodeIn w.heap.size w C 0 sb 0 cap l.steps
  slots : w.cell? ⟨C, 1, none⟩ = some (.int .i64 l.slots)
  need : w.cell? ⟨C, 2, none⟩ = some (.int .i64 l.need)

def LoadPost (s : ByteArray) (w : World) (e : Ending) (w' : World) : Prop :=
  Below w.heap.size w w' ∧ ((takes s.data.toList = true ∧ ∃ C, w.heap.size ≤ C ∧ e = .returned (.tuple #[.pointer (some ⟨C, 0, none⟩), .int .i64 0]) ∧ Coded w' C (loaded s.data.toList)) ∨
    (takes s.data.toList = false ∧ e = .returned (.tuple #[.pointer none, .int .i64 5])))

/-- the code, once its block is laid behind the loader -/
theorem coded_of (h : LoadIn B w L s l vs vb vl) (hpos : 0 < l.steps.length) (k : Nat) (T : TypeId) : Coded ((w.drewN k).alloc (.cells #[vs, .int .i64 l.slots, .int .i64 l.need] T)) w.heap.size l := by
  have hb : ∀ j, ((w.drewN k).alloc (.cells #[vs, .int .i64 l.slots, .int .i64 l.need] T)).cell? ⟨w.heap.size, j, none⟩ = (#[vs, .int .i64 l.slots, .int .i64 l.need] : Array Value)[j]? := fun j => by
    have hh : ((w.drewN k).alloc (.cells #[vs, .int .i64 l.slots, .int .i64 l.need] T)).heap[w.heap.size]? = some (.cells #[vs, .int .i64 l.slots, .int .i64 l.need] T) := heap_alloc_new (w.drewN k) _
    exact cell_at hh
  have h' := (h.drewN k).alloc (.cells #[vs, .int .i64 l.slots, .int .i64 l.need] T)
  have hst0 : l.steps[0]? = some l.steps[0] := List.getElem?_eq_getElem hpos
  obtain ⟨g, cap, e1, e2, _⟩ := h'.stepAt hst0
  refine ⟨⟨g, cap, ?_, e2, ?_, ?_⟩, hb 1, hb 2⟩
  · show w.heap.size < ((w.drewN k).alloc _).heap.size
    rw [show ∀ (x : World) o, (x.alloc o).heap.size = x.heap.size + 1 from fun x o => by simp]
    exact Nat.lt_succ_self _
  · rw [hb 0, e1]; rfl
  · intro i st hst
    obtain ⟨g', cap', e1', _, _, _, _, _, hat, _⟩ := h'.stepAt hst
    rw [e1] at e1'
    cases e1'
    rw [Nat.zero_add]
    exact hat

set_option maxRecDepth 100000 in
set_option maxHeartbeats 1000000 in
theorem load_long (w : World) (s : ByteArray) (hs : 100000 < s.size) : Calls Tryz.prog 31 #[.string s] w (LoadPost s w) := by
  have d1 : decide ((100000 : Int) < (s.size : Int)) = true := by simp; omega
  have HT : Hid (takes s.data.toList = false) := by
    have : ¬ s.data.toList.length ≤ 100000 := by simp; omega
    show _ = _
    simp only [takes, decide_eq_false this, Bool.false_and]
  go_enter Tryz.func31, Tryz.ntmps31
  go_wp2_with fail
  go_ret2
  exact ⟨Below.refl _ w, Or.inr ⟨HT.out, rfl⟩⟩

set_option maxRecDepth 100000 in
set_option maxHeartbeats 2000000 in
theorem load_short (w : World) (s : ByteArray) (hs : s.size ≤ 100000) : Calls Tryz.prog 31 #[.string s] w (LoadPost s w) := by
  have d1 : decide ((100000 : Int) < (s.size : Int)) = false := by simp; omega
  have hbs : s.data.toList.length ≤ 100000 := by simpa using hs
  have hlen : s.data.toList.length = s.size := by simp
  go_enter Tryz.func31, Tryz.ntmps31
  go_wp2_with fail
  refine (newLoader_any w s).mono ?_
  rintro e w1 ⟨L, rfl, hL, hg1, g, cap, hl1⟩
  have HB : Hid (Below w.heap.size w w1) := ⟨hg1.os, hg1.tape, hg1.output, hg1.size, fun k hk => hg1.block k hk (by simp)⟩
  have HL : Hid (LoadIn w.heap.size w1 L s firstLs (.slice none 0 0) (.slice (some ⟨g, 0, none⟩) 1 cap) (.slice none 0 0)) := hl1
  clear hg1 hl1
  go_wp2_with fail
  go_loopg [] (s.data.toList.length + 1) (fun gg wr => ∃ l vs vb vl, LoadIn w.heap.size wr L s l vs vb vl ∧ Below w.heap.size w wr ∧ Stage s.data.toList gg l)
  case atStart => exact ⟨_, _, _, _, HL.out, HB.out, stage_first _⟩
  case round =>
    obtain ⟨l, vs, vb, vl, h1, h2, h3⟩ := hrel
    clear HL HB
    obtain ⟨ab, cb, rfl⟩ := slice_form h1.blocks
    obtain ⟨as', cs', rfl⟩ := slice_form h1.steps
    have c1 := h1.c1
    have c2 := h1.c2
    have c3 := h1.c3
    have c5 := h1.c5
    have c6 := h1.c6
    have c7 := h1.c7
    rcases h3 with ⟨hb, hld⟩ | ⟨hb, hld, hf, hps⟩ | ⟨hi, p0, p1, p2, p3, p4⟩
    · have HT : Hid (takes s.data.toList = false) := by
        show _ = _
        simp only [takes, hld, Bool.not_true, Bool.and_false, Bool.false_and]
      have HB : Hid (Below w.heap.size w wr) := h2
      rw [hb] at c7
      clear h1 h2 hld
      generalize l.blocks.length = n at *
      by_cases hn : n = 0
      · subst hn
        go_wp2_with fail
        go_ret2
        exact ⟨HB.out, Or.inr ⟨HT.out, rfl⟩⟩
      · have hn' : decide ((0 : Int) < (n : Int)) = true := by simp; omega
        go_wp2_with fail
        go_ret2
        exact ⟨HB.out, Or.inr ⟨HT.out, rfl⟩⟩
    · have hbl : l.blocks.length = 0 := by rw [hf.blocks]; rfl
      rw [hbl] at c3
      rw [hb] at c7
      have hLr := h1.lt
      have n1 : ¬ L = wr.heap.size := by omega
      have HB : Hid (Below w.heap.size w wr) := h2
      have HC : Hid (∀ k T, Coded ((wr.drewN k).alloc (.cells #[.slice as' l.steps.length cs', .int .i64 l.slots, .int .i64 l.need] T)) wr.heap.size (loaded s.data.toList)) := fun k T => by
        rw [← hld]; exact coded_of h1 hf.sound.fits.pos k T
      by_cases hp : l.pos < s.size
      · have HT : Hid (takes s.data.toList = false) := by
          show _ = _
          have : ¬ (loaded s.data.toList).pos = (s.data.toList.length : Int) := by rw [← hld]; omega
          simp only [takes, decide_eq_false this, Bool.and_false]
        have d2 : decide (l.pos < (s.size : Int)) = true := decide_eq_true hp
        clear h1 h2 hld hf
        generalize l.pos = pos at *
        go_wp2_with fail
        go_ret2
        exact ⟨HB.out, Or.inr ⟨HT.out, rfl⟩⟩
      · have HT : Hid (takes s.data.toList = true) := by
          show _ = _
          have e1 : (loaded s.data.toList).pos = (s.data.toList.length : Int) := by rw [← hld]; omega
          have e2 : (loaded s.data.toList).bad = false := by rw [← hld]; exact hb
          simp only [takes, decide_eq_true e1, decide_eq_true hbs, e2, Bool.not_false, Bool.and_self]
        have d2 : decide (l.pos < (s.size : Int)) = false := decide_eq_false hp
        clear h1 h2 hld hf
        generalize l.pos = pos at *
        generalize l.slots = sl at *
        generalize l.need = need at *
        generalize l.steps.length = nst at *
        go_wp2_with fail
        refine wp_quiet_tail 13 (by kernel_rfl) (by kernel_rfl) ?_
        simp only [List.take_succ_cons, List.take_zero, List.drop_succ_cons, List.drop_zero]
        repeat (go_big_quiet_step (fail))
        refine wpQuiet_nil ?_
        intro _ hw'
        obtain ⟨k3, hw''⟩ := hw'
        subst hw''
        go_wp2_with fail
        go_ret2
        refine ⟨?_, Or.inl ⟨HT.out, wr.heap.size, by have := HB.out.size; omega, rfl, HC.out k3 _⟩⟩
        have hb3 : Below w.heap.size w (wr.drewN k3) := HB.out.trans ⟨rfl, rfl, rfl, Nat.le_refl _, fun _ _ => rfl⟩
        exact hb3.alloc HB.out.size _
    · have hbp : 0 < l.blocks.length := List.length_pos_iff.2 hi.blocks.1
      have hn' : decide ((0 : Int) < (l.blocks.length : Int)) = true := by simp; omega
      rw [hi.bad] at c7
      obtain ⟨p, hp⟩ := Int.eq_ofNat_of_zero_le p0
      obtain ⟨g', rfl⟩ : ∃ g', gk = g' + 1 := ⟨gk - 1, by omega⟩
      have HC : Hid (Calls Tryz.prog 72 #[.pointer (some ⟨L, 0, none⟩)] wr (Instr1 w.heap.size wr L s (.slice as' l.steps.length cs') (.slice ab l.blocks.length cb) vl fun l' => After s.data.toList l l')) := instruction_any h1 hi p hp (by omega) hs (by omega)
      have HN : Hid (∀ e w', Instr1 w.heap.size wr L s (.slice as' l.steps.length cs') (.slice ab l.blocks.length cb) vl (fun l' => After s.data.toList l l') e w' → e = .returned (.tuple #[]) ∧ ∃ l' vs' vb' vl', LoadIn w.heap.size w' L s l' vs' vb' vl' ∧ Below w.heap.size w w' ∧ Stage s.data.toList g' l') := by
        rintro e w' ⟨q1, l', vs', vb', vl', q2, q3, q4⟩
        exact ⟨q1, l', vs', vb', vl', q2, h2.trans (Moves.below h1 q3), stage_next hbs hi p0 p1 p2 p3 p4 q4⟩
      clear h1 h2 hi p4
      generalize l.blocks.length = n at *
      go_wp2_with fail
      refine HC.out.mono ?_
      intro e w2 hq
      obtain ⟨rfl, hq2⟩ := HN.out _ _ hq
      have HQ : Hid (∃ l' vs' vb' vl', LoadIn w.heap.size w2 L s l' vs' vb' vl' ∧ Below w.heap.size w w2 ∧ Stage s.data.toList g' l') := hq2
      clear hq hq2 HC HN
      go_wp2_with fail
      go_roundg g'
      case measure => omega
      case rel => exact HQ.out

theorem load_any (w : World) (s : ByteArray) : Calls Tryz.prog 31 #[.string s] w (LoadPost s w) := by
  by_cases hs : s.size ≤ 100000
  · exact load_short w s hs
  · exact load_long w s (by omega)
end Go.Proofs.YthllhabjfchgiaaGreatDoor

/- Package helmkeep: pick. -/
namespace Go.Proofs.YthllhabjfchgiaaGreatDoor
open Go.RowKit
open Hx (Rd Pk Vw St Mc In64)
attribute [local go_sem ↓] Go.wp_at_zero Go.wp_at_succ
attribute [local go_sem] setCell_drewN'

def pickN (c n : Int) : Int := (if c < 0 then -(c + 1) else c) % n

theorem pickN_bd {c n : Int} (hn : 0 < n) : 0 ≤ pickN c n ∧ pickN c n < n := ⟨Int.emod_nonneg _ (by omega), Int.emod_lt_of_pos _ hn⟩

set_option maxRecDepth 100000 in
set_option maxHeartbeats 1000000 in
theorem pick_any (w : World) (c n : Int) (hc : In64 c) (hn : 0 < n) (hn2 : n ≤ 9223372036854775807) :
    Calls Tryz.prog 28 #[.int .i64 c, .int .i64 n] w fun e w' => e = .returned (.int .i64 (pickN c n)) ∧ w' = w := by
  obtain ⟨c0, c1⟩ := hc
  have n0 : ¬ n = 0 := by omega
  by_cases h : c < 0
  · have d : decide (c < 0) = true := decide_eq_true h
    go_enter Tryz.func28, Tryz.ntmps28
    go_wp2
    go_ret
    refine ⟨ret_int ?_, rfl⟩
    rw [pickN, if_pos h]
    first
      | (rw [← Int.neg_tmod]; exact Int.tmod_eq_emod_of_nonneg (by omega))
      | exact Int.tmod_eq_emod_of_nonneg (by omega)
  · have d : decide (c < 0) = false := decide_eq_false h
    go_enter Tryz.func28, Tryz.ntmps28
    go_wp2
    go_ret
    refine ⟨ret_int ?_, rfl⟩
    rw [pickN, if_neg (by omega)]
end Go.Proofs.YthllhabjfchgiaaGreatDoor
