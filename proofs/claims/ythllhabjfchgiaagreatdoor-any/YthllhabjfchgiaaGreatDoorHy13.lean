import Derived.Test.YthllhabjfchgiaaGreatDoorHy12
import Derived.Scope
import Derived.ScopeJumps
import Derived.Test.YthllhabjfchgiaaGreatDoorHy04
import Derived.Test.YthllhabjfchgiaaGreatDoorHy03
import Derived.Test.YthllhabjfchgiaaGreatDoorHy01
import Derived.Test.YthllhabjfchgiaaGreatDoorHy02
import Derived.Deep.DrawnRows
import Derived.BigRegion
import Derived.StillTailTactics
/- Package lang: parse. -/
namespace Go.Proofs.YthllhabjfchgiaaGreatDoor
open Go.RowKit
open Hx (Tk)
attribute [local go_sem ↓] Go.wp_at_zero Go.wp_at_succ
attribute [local go_sem] setCell_drewN'
variable {w : World} {s : ByteArray} {E : World → Nat → Value → Prop}

theorem parse_results (tmps : Array Value) (w : World) (g : Nat) (v : Value) (h2 : tmps[2]? = some v) (h3 : tmps[3]? = some (.pointer (some ⟨g, 0, none⟩))) (q0 : w.cell? ⟨g, 0, none⟩ = some (.int .i64 0)) (q1 : w.cell? ⟨g, 1, none⟩ = some (.int .i64 0)) :
    (results Tryz.f88 tmps).run Tryz.prog w = .ok (.tuple #[v, .agg #[.int .i64 0, .int .i64 0]]) w := by
  simp [results, Tryz.results88, go_sem, h2, h3, q0, q1]

set_option maxRecDepth 100000 in
set_option maxHeartbeats 1000000 in
theorem parse_ok (hs : s.size ≤ 4000) (k2 : Tk) (hk : k2.kind = 1) (hE : Local E) (hdn : ∀ w B B' v, B' ≤ B → E w B v → E w B' v) (hq : ∀ P, Reads 141 [] P s (Hx.scan s 0) k2 0 0 0 E) :
    Calls Tryz.prog 88 #[.string s] w fun e w' => ∃ v, e = .returned (.tuple #[v, .agg #[.int .i64 0, .int .i64 0]]) ∧ E w' w.heap.size v ∧ w.grownBy w' none := by
  have d1 : decide ((4000 : Int) < (s.size : Int)) = false := by simp; omega
  have HS : Hid (∀ w, Calls Tryz.prog 140 #[.string s, .int .i64 0] w fun e w' => e = .returned (tkV (Hx.scan s 0)) ∧ w.grownBy w' none) := fun w => scan_any s 0 w hs (by omega)
  have HQ : Hid (∀ P x, PrIn x P s (Hx.scan s 0) 0 0 0 → Calls Tryz.prog 141 #[.pointer (some ⟨P, 0, none⟩)] x fun e w' => ∃ v, e = .returned v ∧ E w' x.heap.size v ∧ PrIn w' P s k2 0 0 0 ∧ x.grownBy w' (some P)) := fun P x h => hq P x h
  clear hq
  generalize Hx.scan s 0 = k at *
  go_enter Tryz.func88, Tryz.ntmps88
  go_wp2_with fail
  refine (HS.out _).mono ?_
  rintro e w1 ⟨rfl, g1⟩
  have hf1 : w1.heap[w.heap.size]? = some (.cells #[.int .i64 0, .int .i64 0] 107) := (g1.block _ (by simp) (by simp)).trans (heap_alloc_new w _)
  have HG1 : Hid (w.grownBy w1 none ∧ w1.heap[w.heap.size]? = some (.cells #[.int .i64 0, .int .i64 0] 107)) := ⟨(World.grownBy_alloc w _ none).trans g1, hf1⟩
  clear g1 hf1 HS
  have HP : Hid (∀ o, o = Obj.cells #[.string s, .int .i64 k.kind, .string k.text, .int .i64 k.at', .int .i64 0, .int .i64 0, .int .i64 0] 252 → PrIn (w1.alloc o) w1.heap.size s k 0 0 0) := by
    intro o ho
    have hh : (w1.alloc o).heap[w1.heap.size]? = some (.cells #[.string s, .int .i64 k.kind, .string k.text, .int .i64 k.at', .int .i64 0, .int .i64 0, .int .i64 0] 252) := by rw [← ho]; exact heap_alloc_new w1 o
    exact ⟨cell_at hh, cell_at hh, cell_at hh, cell_at hh, cell_at hh, cell_at hh, cell_at hh, fun j => frozen_at hh⟩
  unfold tkV
  go_wp2_with fail
  refine (HQ.out _ _ (HP.out _ rfl)).mono ?_
  rintro e w2 ⟨v, rfl, e2, p2, g2⟩
  have s1 := HG1.out.1.size
  have hlt := lt_of_some HG1.out.2
  have hf2 : w2.heap[w.heap.size]? = some (.cells #[.int .i64 0, .int .i64 0] 107) := (g2.block _ (by simp; omega) (by simp; omega)).trans (((World.grownBy_alloc w1 _ none).block _ (by omega) (by simp)).trans HG1.out.2)
  have c1 := p2.c1
  have c5 := p2.c5
  have r0 : w2.cell? ⟨w.heap.size, 0, none⟩ = some (.int .i64 0) := cell_at hf2
  have r1 : w2.cell? ⟨w.heap.size, 1, none⟩ = some (.int .i64 0) := cell_at hf2
  have rf : ∀ j, w2.frozen? ⟨w.heap.size, j, none⟩ = false := fun j => frozen_at hf2
  rw [hk] at c1
  have hgf : w.grownBy w2 none := by
    have h1 := HG1.out.1.trans (World.grownBy_alloc w1 (Obj.cells #[.string s, .int .i64 k.kind, .string k.text, .int .i64 k.at', .int .i64 0, .int .i64 0, .int .i64 0] 252) none)
    exact h1.andThen g2 (fun j e => by cases e; exact Or.inl s1)
  have HF : Hid (∀ X, X = (w2.setCell ⟨w.heap.size, 0, none⟩ (.int .i64 0)).setCell ⟨w.heap.size, 1, none⟩ (.int .i64 0) → X.cell? ⟨w.heap.size, 0, none⟩ = some (.int .i64 0) ∧ X.cell? ⟨w.heap.size, 1, none⟩ = some (.int .i64 0) ∧ E X w.heap.size v ∧ w.grownBy X none) := by
    intro X hX
    subst hX
    have h0 : (w2.setCell ⟨w.heap.size, 0, none⟩ (.int .i64 0)).heap[w.heap.size]? = some (.cells #[.int .i64 0, .int .i64 0] 107) := heap_setCell_same _ _ _ _ _ _ hf2
    have h1 : ((w2.setCell ⟨w.heap.size, 0, none⟩ (.int .i64 0)).setCell ⟨w.heap.size, 1, none⟩ (.int .i64 0)).heap[w.heap.size]? = some (.cells #[.int .i64 0, .int .i64 0] 107) := heap_setCell_same _ _ _ _ _ _ h0
    refine ⟨cell_at h1, cell_at h1, hdn _ _ _ _ (by simp; omega) (hE _ _ _ _ e2 fun j hj1 hj2 => ?_), grown_new (grown_new hgf (Nat.le_refl _) _ _) (Nat.le_refl _) _ _⟩
    have hne : j ≠ w.heap.size := by simp at hj1; omega
    rw [Below.heap_setCell _ _ _ _ hne, Below.heap_setCell _ _ _ _ hne]
  clear e2 p2 g2 hf2 hgf HP HQ HG1
  go_wp2_with fail
  obtain ⟨x0, x1, x2, x3⟩ := HF.out _ rfl
  exact bodyPost_ret (parse_results _ _ w.heap.size v rfl rfl x0 x1) rfl ⟨v, rfl, x2, x3⟩
end Go.Proofs.YthllhabjfchgiaaGreatDoor

/- A scope with several labels: what holds at each jump, and a measure that every pass lessens. -/
namespace Go.Proofs.YthllhabjfchgiaaGreatDoor
open Go

/-- As Q; by a goto to label l: J l. -/
def Jumps (J : Nat → Act → World → Prop) (Q : Exit → Act → World → Prop) : Exit → Act → World → Prop
  | .goto l, a, w => J l a w
  | e, a, w => Q e a w

variable {P : Program} {a : Act} {w : World} {Q : Exit → Act → World → Prop}

theorem wp_scope_labels {c : Code} (rest : Nat → Code) (J : Nat → Act → World → Prop) (μ : Nat → Act → World → Nat) (hf : ∀ l a w, J l a w → findLabel c l = some (rest l))
    (first : c.wp P (Jumps J Q) a w)
    (pass : ∀ l a w, J l a w → (rest l).wp P (Jumps (fun l' a' w' => J l' a' w' ∧ μ l' a' w' < μ l a w) Q) a w) : (Code.scope c).wp P Q a w := by
  intro b k cs
  have hg : ∀ l a w, J l a w → gotoIn l (.inScope c :: k) = some (.code (rest l) :: .inScope c :: k) := fun l a w h => by simp [gotoIn, hf l a w h]
  have key : ∀ n l a w, μ l a w = n → J l a w → ∃ e a' w', Q e a' w' ∧ Arrives P (lone (b.at a (.code (rest l) :: .inScope c :: k)) cs w) b k cs e a' w' := by
    intro n
    induction n using Nat.strongRecOn with
    | _ n ih =>
      intro l a w hn hJ
      obtain ⟨e, a1, w1, hq, harr⟩ := pass l a w hJ b (.inScope c :: k) cs
      cases e with
      | normal => exact ⟨.normal, a1, w1, hq, Steps.trans harr (.one step_inScope)⟩
      | exit id => exact ⟨.exit id, a1, w1, hq, fun k' hk => harr k' (by simp [exitTo, hk])⟩
      | goto l' =>
        obtain ⟨hJ', hlt⟩ := hq
        obtain ⟨e2, a2, w2, hq2, harr2⟩ := ih _ (by omega) l' a1 w1 rfl hJ'
        exact ⟨e2, a2, w2, hq2, .of_steps (harr _ (hg l' a1 w1 hJ')) harr2⟩
      | ret => exact ⟨_, a1, w1, hq, harr⟩
      | panic ch => exact ⟨_, a1, w1, hq, harr⟩
      | outgrown => exact ⟨_, a1, w1, hq, harr⟩
  obtain ⟨e, a1, w1, hq, harr⟩ := first b (.inScope c :: k) cs
  cases e with
  | normal => exact ⟨.normal, a1, w1, hq, .head step_scope (Steps.trans harr (.one step_inScope))⟩
  | exit id => exact ⟨.exit id, a1, w1, hq, fun k' hk => .head step_scope (harr k' (by simp [exitTo, hk]))⟩
  | goto l' =>
    obtain ⟨e2, a2, w2, hq2, harr2⟩ := key _ l' a1 w1 rfl hq
    exact ⟨e2, a2, w2, hq2, .of_steps (.head step_scope (harr _ (hg l' a1 w1 hq))) harr2⟩
  | ret => exact ⟨_, a1, w1, hq, .of_steps (.one step_scope) harr⟩
  | panic ch => exact ⟨_, a1, w1, hq, .of_steps (.one step_scope) harr⟩
  | outgrown => exact ⟨_, a1, w1, hq, .of_steps (.one step_scope) harr⟩
end Go.Proofs.YthllhabjfchgiaaGreatDoor

/- (*machine).done; push whole. -/
namespace Go.Proofs.YthllhabjfchgiaaGreatDoor
open Go.RowKit
open Hx (Rd Pk Vw St Mc In64)
variable {B C : Nat} {w : World} {M SB : Nat} {v : Vw} {m : Mc}

theorem push_any (hm : MachIn B C w M SB v m) (i j : Int) (hj : j ≤ 9223372036854775807) (hl : m.acts.length ≤ 256) :
    Calls Tryz.prog 54 #[.pointer (some ⟨M, 0, none⟩), .int .i64 i, .int .i64 j] w fun e w' => e = .returned (.bool (Hx.push v i j m).isSome) ∧ (∀ m', Hx.push v i j m = some m' → MachIn B C w' M SB v m') ∧ Below B w w' := by
  cases hr : v.road i with
  | none =>
    refine (push_none hm i j hj (Or.inl hr)).mono ?_
    rintro e w' ⟨rfl, rfl⟩
    have e1 : Hx.push v i j m = some m := by simp [Hx.push, hr]
    rw [e1]
    exact ⟨rfl, fun m' h => by cases h; exact hm, Below.refl _ _⟩
  | some r =>
    cases hp : v.packet j with
    | none =>
      refine (push_none hm i j hj (Or.inr hp)).mono ?_
      rintro e w' ⟨rfl, rfl⟩
      have e1 : Hx.push v i j m = some m := by simp [Hx.push, hr, hp]
      rw [e1]
      exact ⟨rfl, fun m' h => by cases h; exact hm, Below.refl _ _⟩
    | some p =>
      by_cases hf : m.acts.length = 256
      · refine (push_full hm i j r p hj hr hp hf).mono ?_
        rintro e w' ⟨rfl, rfl⟩
        have e1 : Hx.push v i j m = none := by simp [Hx.push, hr, hp, hf]
        rw [e1]
        exact ⟨rfl, fun m' h => (by cases h), Below.refl _ _⟩
      · refine (push_more hm i j r p hj hr hp (by omega)).mono ?_
        rintro e w' ⟨rfl, h1, h2⟩
        have e1 : Hx.push v i j m = some { m with acts := m.acts ++ [(r.id, p.seq)] } := by simp [Hx.push, hr, hp, hf]
        rw [e1]
        exact ⟨rfl, fun m' h => (by cases h; exact h1), h2⟩

/-- a Result as a value -/
def resultV (status : Int) (va : Value) (regs : List Int) : Value :=
  .agg #[.int .u8 status, va, .int .i64 (regs.getD 0 0), .int .i64 (regs.getD 1 0), .int .i64 (regs.getD 2 0), .int .i64 (regs.getD 3 0), .int .i64 (regs.getD 4 0), .int .i64 (regs.getD 5 0), .int .i64 (regs.getD 6 0), .int .i64 (regs.getD 7 0)]

theorem setCell_drewN (w : World) (n : Nat) (x : Addr) (u : Value) : (w.drewN n).setCell x u = (w.setCell x u).drewN n := rfl
attribute [local go_sem] setCell_drewN

theorem run_arrayAt (P : Program) (t n : Nat) (e : TypeId) (h : P.underlying t = some (.array n e)) (a : Option Addr) (len cap : Nat) (hl : n ≤ len) (w : World) :
    (Instr.arrayAt t (.slice a len cap)).run P w = .ok (.pointer a) w := by
  have hl' : ¬ len < n := by omega
  simp [Instr.arrayAt, go_sem, run_underlying h, hl']

set_option maxRecDepth 100000 in
set_option maxHeartbeats 1000000 in
theorem done_any (hm : MachIn B C w M SB v m) (h8 : 8 ≤ m.slots.length) :
    Calls Tryz.prog 51 #[.pointer (some ⟨M, 0, none⟩)] w fun e w' => ∃ va, e = .returned (resultV 0 va m.slots) ∧ w'.ownsRow C 76 2 va m.acts.length (actCells m.acts) ∧ Below B w w' := by
  obtain ⟨va, hva, hown⟩ := hm.acts
  have h0 := hm.size
  have h1 := hm.cS
  have h2 := hm.cM
  have h3 := hm.bM
  have HO : Hid (∀ (o : Obj) (n : Nat), ((w.alloc o).drewN n).ownsRow C 76 2 va m.acts.length (actCells m.acts) ∧ Below B w ((w.alloc o).drewN n)) := fun o n =>
    ⟨(hown.alloc o).kept (w' := (w.alloc o).drewN n) (row := none) ⟨rfl, rfl, rfl, Nat.le_refl _, fun _ _ _ => rfl⟩ (by cases va.ownBlock <;> simp), below_drewN ((Below.refl _ _).alloc (by omega) o) n⟩
  obtain ⟨aa, cap, hval⟩ : ∃ aa cap, va = .slice aa m.acts.length cap := by
    obtain ⟨h1, h2⟩ := hown
    rcases h2 with ⟨h3, h4⟩ | ⟨g, cap, cur, h3, h4⟩
    · exact ⟨none, 0, by rw [h3, h4]⟩
    · exact ⟨_, _, h3⟩
  subst hval
  have hs := hm.slots
  have c0 := hm.slot 0 (by omega)
  have c1 := hm.slot 1 (by omega)
  have c2 := hm.slot 2 (by omega)
  have c3 := hm.slot 3 (by omega)
  have c4 := hm.slot 4 (by omega)
  have c5 := hm.slot 5 (by omega)
  have c6 := hm.slot 6 (by omega)
  have c7 := hm.slot 7 (by omega)
  have n1 : ¬ SB = w.heap.size := by omega
  have n2 : ¬ M = w.heap.size := by omega
  have hSB : SB < w.heap.size := by omega
  have hM : M < w.heap.size := by omega
  have h8' : (8 : Int) ≤ (m.slots.length : Int) := by omega
  unfold resultV
  clear hm h0 h1 h2 h3 hown
  generalize actCells m.acts = cells at *
  generalize m.acts.length = na at *
  generalize m.slots.getD 0 0 = x0 at *
  generalize m.slots.getD 1 0 = x1 at *
  generalize m.slots.getD 2 0 = x2 at *
  generalize m.slots.getD 3 0 = x3 at *
  generalize m.slots.getD 4 0 = x4 at *
  generalize m.slots.getD 5 0 = x5 at *
  generalize m.slots.getD 6 0 = x6 at *
  generalize m.slots.getD 7 0 = x7 at *
  generalize m.slots.length = len at *
  have ka := fun (w : World) => run_arrayAt Tryz.prog 26 8 3 Tryz.underlying26 (some ⟨SB, 0, none⟩) len len (by omega) w
  go_enter Tryz.func51, Tryz.ntmps51
  go_wp2_with fail
  refine wp_quiet_tail 11 (by kernel_rfl) (by kernel_rfl) ?_
  simp only [List.take_succ_cons, List.take_zero, List.drop_succ_cons, List.drop_zero]
  repeat (go_big_quiet_step (fail))
  refine wpQuiet_nil ?_
  intro _ hw'
  obtain ⟨n3, hw''⟩ := hw'
  subst hw''
  go_wp2
  exact bodyPost_ret (v := .agg #[.int .u8 0, .slice aa na cap, .int .i64 x0, .int .i64 x1, .int .i64 x2, .int .i64 x3, .int .i64 x4, .int .i64 x5, .int .i64 x6, .int .i64 x7]) (by simp [results, Tryz.results51, go_sem]) rfl ⟨_, rfl, HO.out _ _⟩
end Go.Proofs.YthllhabjfchgiaaGreatDoor

/- (*machine).begin and (*machine).turn. -/
namespace Go.Proofs.YthllhabjfchgiaaGreatDoor
open Go.RowKit
open Hx (Rd Pk Vw St Mc In64)
variable {B C : Nat} {w : World} {M SB : Nat} {v : Vw} {m : Mc}

set_option maxRecDepth 100000 in
set_option maxHeartbeats 1000000 in
theorem begin_any (hm : MachIn B C w M SB v m) (b o : Nat) (q l x : Int) (c : Nat) (d : Int) (dp : Nat) (t : Int) (hst : StepAt w b o ⟨q, l, x, c, d, dp, t⟩) (hc : c < m.slots.length) (hd : dp < 8) :
    Calls Tryz.prog 52 #[.pointer (some ⟨M, 0, none⟩), .pointer (some ⟨b, o, none⟩)] w fun e w' => e = .returned (.tuple #[]) ∧ MachIn B C w' M SB v (Hx.begins v ⟨q, l, x, c, d, dp, t⟩ m) ∧ Below B w w' := by
  have HP : Hid (∀ n, MachIn B C ((w.drewN n).setCell ⟨M, 4 + dp, none⟩ (.int .u64 (Hx.unsigned (bits .and .i64 (m.slots.getD c 0) (v.all l))))) M SB v (Hx.begins v ⟨q, l, x, c, d, dp, t⟩ m) ∧
    Below B w ((w.drewN n).setCell ⟨M, 4 + dp, none⟩ (.int .u64 (Hx.unsigned (bits .and .i64 (m.slots.getD c 0) (v.all l)))))) := fun n => by
    refine ⟨?_, (below_drewN (Below.refl _ _) n).setCell (p := ⟨M, 4 + dp, none⟩) hm.bM _⟩
    have := (hm.drewN n).putLeft hd (Hx.unsigned_bd (bits .and .i64 (m.slots.getD c 0) (v.all l)))
    simpa [Hx.begins, Hx.Mc.get] using this
  have HV : Hid (∀ n, ViewIn B (w.drewN n) M v) := fun n => (hm.drewN n).view
  have hs := hm.slots
  have cc := hm.slot c hc
  have cl := hm.left dp hd
  have fl := hm.leftF dp hd
  obtain ⟨s0, s1, s2, s3, s4, s5, s6⟩ := hst
  simp only at s0 s1 s2 s3 s4 s5
  clear hm s6 s4 s2 s0
  generalize Hx.begins v ⟨q, l, x, c, d, dp, t⟩ m = m' at HP ⊢
  generalize m.slots.getD c 0 = xc at *
  generalize m.left.getD dp 0 = xl at *
  generalize hy : Hx.unsigned (bits .and .i64 xc (v.all l)) = y at HP
  have HY : Hid (IntKind.u64.wrap (bits .and .i64 xc (v.all l)) = y) := hy
  clear hy
  generalize m.slots.length = len at *
  have i3 : (0 : Int) ≤ (c : Int) := by omega
  have j3 : (c : Int) < (len : Int) := by omega
  have i4 : (0 : Int) ≤ (dp : Int) := by omega
  have j4 : (dp : Int) < 8 := by omega
  go_enter Tryz.func52, Tryz.ntmps52
  go_wp2_with fail
  go_quiet (fail)
  go_wp2_with fail
  refine wp_quiet_tailN 14 (by kernel_rfl) (by kernel_rfl) ?_
  simp only [List.take_succ_cons, List.take_zero, List.drop_succ_cons, List.drop_zero]
  repeat (go_big_quiet_step ((go_at_call 95; exact Calls.quiet_of_same (all_any B M l v _ (HV.out _)))))
  refine wpQuiet_nil ?_
  intro _ hw'
  obtain ⟨n2, hw''⟩ := hw'
  subst hw''
  rw [HY.out]
  go_wp2
  go_end0
  exact ⟨rfl, HP.out _⟩

set_option maxRecDepth 100000 in
set_option maxHeartbeats 1000000 in
theorem turn_out (hm : MachIn B C w M SB v m) (b o n cap : Nat) (k : Nat) (q l x c d : Int) (dp : Nat) (t : Int) (hk : k < n) (hst : StepAt w b (o + k * 7) ⟨q, l, x, c, d, dp, t⟩) (hd : dp < 8) (hz : m.left.getD dp 0 = 0) :
    Calls Tryz.prog 53 #[.pointer (some ⟨M, 0, none⟩), .slice (some ⟨b, o, none⟩) n cap, .int .i64 k] w fun e w' => e = .returned (.int .i64 t) ∧ MachIn B C w' M SB v m ∧ Below B w w' := by
  have HP : Hid (∀ n, MachIn B C (w.drewN n) M SB v m ∧ Below B w (w.drewN n)) := fun n => ⟨hm.drewN n, below_drewN (Below.refl _ _) n⟩
  have cl := hm.left dp hd
  rw [hz] at cl
  obtain ⟨s0, s1, s2, s3, s4, s5, s6⟩ := hst
  simp only at s0 s1 s2 s3 s4 s5 s6
  clear hm s4 s2 s0 s3 s1 hz
  have i4 : (0 : Int) ≤ (dp : Int) := by omega
  have j4 : (dp : Int) < 8 := by omega
  have i5 : (0 : Int) ≤ (k : Int) := by omega
  have j5 : (k : Int) < (n : Int) := by omega
  go_enter Tryz.func53, Tryz.ntmps53
  go_wp2_with fail
  go_quiet (fail)
  go_wp2_with fail
  go_ret
  exact ⟨rfl, HP.out _⟩

set_option maxRecDepth 100000 in
set_option maxHeartbeats 2000000 in
theorem turn_in (hm : MachIn B C w M SB v m) (b o n cap : Nat) (k : Nat) (q l : Int) (x : Nat) (c d : Int) (dp : Nat) (t : Int) (hb : b < B) (hk : k < n) (hn : n ≤ 1000000) (hst : StepAt w b (o + k * 7) ⟨q, l, x, c, d, dp, t⟩) (hx : x < m.slots.length) (hd : dp < 8) (hz : ¬ m.left.getD dp 0 = 0) :
    Calls Tryz.prog 53 #[.pointer (some ⟨M, 0, none⟩), .slice (some ⟨b, o, none⟩) n cap, .int .i64 k] w fun e w' => e = .returned (.int .i64 (k + 1)) ∧
      MachIn B C w' M SB v ((m.put x (Hx.tz (m.left.getD dp 0))).putLeft dp (bits .and .u64 (m.left.getD dp 0) (IntKind.u64.wrap (m.left.getD dp 0 - 1)))) ∧ Below B w w' := by
  have htz := Hx.tz_bd _ (hm.inLeft dp).1 (hm.inLeft dp).2
  have HP : Hid (∀ n1 n2, MachIn B C ((((w.drewN n1).setCell ⟨SB, x, none⟩ (.int .i64 (Hx.tz (m.left.getD dp 0)))).drewN n2).setCell ⟨M, 4 + dp, none⟩ (.int .u64 (bits .and .u64 (m.left.getD dp 0) (IntKind.u64.wrap (m.left.getD dp 0 - 1))))) M SB v
        ((m.put x (Hx.tz (m.left.getD dp 0))).putLeft dp (bits .and .u64 (m.left.getD dp 0) (IntKind.u64.wrap (m.left.getD dp 0 - 1)))) ∧
      Below B w ((((w.drewN n1).setCell ⟨SB, x, none⟩ (.int .i64 (Hx.tz (m.left.getD dp 0)))).drewN n2).setCell ⟨M, 4 + dp, none⟩ (.int .u64 (bits .and .u64 (m.left.getD dp 0) (IntKind.u64.wrap (m.left.getD dp 0 - 1)))))) := fun n1 n2 => by
    refine ⟨?_, (below_drewN ((below_drewN (Below.refl _ _) n1).setCell (p := ⟨SB, x, none⟩) hm.bS _) n2).setCell (p := ⟨M, 4 + dp, none⟩) hm.bM _⟩
    refine (((hm.drewN n1).put hx ?_).drewN n2).putLeft hd ?_
    · exact ⟨by omega, by omega⟩
    · exact ⟨bits_lo_u64 _ _ _, by have := bits_hi_u64 .and (m.left.getD dp 0) (IntKind.u64.wrap (m.left.getD dp 0 - 1)); omega⟩
  have HT : Hid (∀ n, Tab64 (w.drewN n)) := fun n => (hm.drewN n).tab
  have hs := hm.slots
  have cx := hm.slot x hx
  have fx := hm.slotF x hx
  have cl := hm.left dp hd
  have fl := hm.leftF dp hd
  have ne1 : ¬ SB = M := fun e => hm.ne e.symm
  have ne2 : ¬ b = SB := by have := hm.bS; omega
  have ne3 : ¬ SB = b := fun e => ne2 e.symm
  have il := hm.inLeft dp
  obtain ⟨s0, s1, s2, s3, s4, s5, s6⟩ := hst
  simp only at s0 s1 s2 s3 s4 s5 s6
  clear hm s4 s0 s3 s1 s6 htz
  generalize ((m.put x (Hx.tz (m.left.getD dp 0))).putLeft dp (bits .and .u64 (m.left.getD dp 0) (IntKind.u64.wrap (m.left.getD dp 0 - 1)))) = m' at HP ⊢
  generalize m.left.getD dp 0 = xl at *
  generalize m.slots.getD x 0 = xx at *
  obtain ⟨il0, il1⟩ := il
  have hz' : (xl == 0) = false := by simpa using hz
  have HL : Hid (0 ≤ xl ∧ xl < 18446744073709551616) := ⟨il0, il1⟩
  clear hz il1
  generalize m.slots.length = len at *
  have i3 : (0 : Int) ≤ (x : Int) := by omega
  have j3 : (x : Int) < (len : Int) := by omega
  have i4 : (0 : Int) ≤ (dp : Int) := by omega
  have j4 : (dp : Int) < 8 := by omega
  have i5 : (0 : Int) ≤ (k : Int) := by omega
  have j5 : (k : Int) < (n : Int) := by omega
  go_enter Tryz.func53, Tryz.ntmps53
  go_wp2_with fail
  go_quiet (fail)
  go_wp2_with fail
  refine wp_quiet_tailN 12 (by kernel_rfl) (by kernel_rfl) ?_
  simp only [List.take_succ_cons, List.take_zero, List.drop_succ_cons, List.drop_zero]
  repeat (go_big_quiet_step ((go_at_call 96; exact Calls.quiet_of_same (tz_any xl HL.out.1 HL.out.2 _ (HT.out _)))))
  refine wpQuiet_nil ?_
  intro _ hw'
  obtain ⟨n2, hw''⟩ := hw'
  subst hw''
  go_wp2_with fail
  refine wp_quiet_tail 12 (by kernel_rfl) (by kernel_rfl) ?_
  simp only [List.take_succ_cons, List.take_zero, List.drop_succ_cons, List.drop_zero]
  repeat (go_big_quiet_step (fail))
  refine wpQuiet_nil ?_
  intro _ hw'
  obtain ⟨n3, hw''⟩ := hw'
  subst hw''
  go_wp2
  go_ret
  exact ⟨rfl, HP.out _ _⟩

theorem turn_any (hm : MachIn B C w M SB v m) (b o n cap : Nat) (k : Nat) (s : St) (hb : b < B) (hk : k < n) (hn : n ≤ 1000000) (hst : StepAt w b (o + k * 7) s) (hx : St.slot m.slots.length s.b) (hd : 0 ≤ s.depth ∧ s.depth < 8) :
    Calls Tryz.prog 53 #[.pointer (some ⟨M, 0, none⟩), .slice (some ⟨b, o, none⟩) n cap, .int .i64 k] w fun e w' => e = .returned (.int .i64 (Hx.turn s k m).2) ∧ MachIn B C w' M SB v (Hx.turn s k m).1 ∧ Below B w w' := by
  obtain ⟨q, a, x, c, d, dp, t⟩ := s
  obtain ⟨hx0, hx⟩ := hx
  simp only at hx0 hx hd
  obtain ⟨x, rfl⟩ := Int.eq_ofNat_of_zero_le hx0
  obtain ⟨dp, rfl⟩ := Int.eq_ofNat_of_zero_le hd.1
  by_cases hz : m.left.getD dp 0 = 0
  · refine (turn_out hm b o n cap k q a x c d dp t hk hst (by omega) hz).mono ?_
    rintro e w' ⟨rfl, h2, h3⟩
    have e1 : Hx.turn ⟨q, a, x, c, d, dp, t⟩ k m = (m, t) := by
      unfold Hx.turn
      rw [if_pos]
      simpa [Hx.Mc.leftAt] using hz
    rw [e1]
    exact ⟨rfl, h2, h3⟩
  · refine (turn_in hm b o n cap k q a x c d dp t hb hk hn hst (by omega) (by omega) hz).mono ?_
    rintro e w' ⟨rfl, h2, h3⟩
    have e1 : Hx.turn ⟨q, a, x, c, d, dp, t⟩ k m = ((m.put x (Hx.tz (m.left.getD dp 0))).putLeft dp (bits .and .u64 (m.left.getD dp 0) (IntKind.u64.wrap (m.left.getD dp 0 - 1))), (k : Int) + 1) := by
      unfold Hx.turn
      rw [if_neg]
      · simp [Hx.Mc.leftAt]
      · simpa [Hx.Mc.leftAt] using hz
    rw [e1]
    exact ⟨rfl, h2, h3⟩
end Go.Proofs.YthllhabjfchgiaaGreatDoor

/- (*machine).choose. -/
namespace Go.Proofs.YthllhabjfchgiaaGreatDoor
open Go.RowKit
open Hx (Rd Pk Vw St Mc In64)
variable {B C : Nat} {w : World} {M SB : Nat} {v : Vw} {m : Mc}

theorem put_put (hm : MachIn B C w M SB v m) {a b : Nat} {x y : Int} (ha : a < m.slots.length) (hb : b < m.slots.length) (hx : In64 x) (hy : In64 y) (o : Obj) (n : Nat) :
    MachIn B C ((((w.alloc o).drewN n).setCell ⟨SB, a, none⟩ (.int .i64 x)).setCell ⟨SB, b, none⟩ (.int .i64 y)) M SB v ((m.put a x).put b y) ∧
    Below B w ((((w.alloc o).drewN n).setCell ⟨SB, a, none⟩ (.int .i64 x)).setCell ⟨SB, b, none⟩ (.int .i64 y)) := by
  refine ⟨(((hm.alloc o).drewN n).put ha hx).put (by simpa [Hx.Mc.put] using hb) hy, ?_⟩
  have := hm.bS
  have h0 := hm.size
  have h1 := hm.cS
  exact ((below_drewN ((Below.refl _ _).alloc (by omega) o) n).setCell (p := ⟨SB, a, none⟩) this _).setCell (p := ⟨SB, b, none⟩) this _

set_option maxHeartbeats 2000000 in
/-- the two stores of choose, behind what it has asked -/
theorem choose_take (hm : MachIn B C w M SB v m) (a b c d : Nat) (better : Bool) (ha : a < m.slots.length) (hb : b < m.slots.length) (hc : c < m.slots.length) (hd : d < m.slots.length)
    (hbet : better = true ∨ m.slots.getD a 0 = -1) :
    Calls Tryz.prog 99 #[.pointer (some ⟨M, 0, none⟩), .agg #[.int .i64 a, .int .i64 b, .int .i64 c, .int .i64 d], .bool better] w fun e w' => e = .returned (.tuple #[]) ∧ MachIn B C w' M SB v ((m.put a (m.slots.getD c 0)).put b (m.slots.getD d 0)) ∧ Below B w w' := by
  have HP : Hid (∀ o n, MachIn B C ((((w.alloc o).drewN n).setCell ⟨SB, a, none⟩ (.int .i64 (m.slots.getD c 0))).setCell ⟨SB, b, none⟩ (.int .i64 (m.slots.getD d 0))) M SB v ((m.put a (m.slots.getD c 0)).put b (m.slots.getD d 0)) ∧
      Below B w ((((w.alloc o).drewN n).setCell ⟨SB, a, none⟩ (.int .i64 (m.slots.getD c 0))).setCell ⟨SB, b, none⟩ (.int .i64 (m.slots.getD d 0)))) := fun o n => put_put hm ha hb (hm.inSlots c) (hm.inSlots d) o n
  have hs := hm.slots
  have ca := hm.slot a ha
  have cb := hm.slot b hb
  have cc := hm.slot c hc
  have cd := hm.slot d hd
  have fa := hm.slotF a ha
  have fb := hm.slotF b hb
  have h0 := hm.size
  have h1 := hm.cS
  have h2 := hm.cM
  have n1 : ¬ SB = w.heap.size := by omega
  have n3 : ¬ SB = M := fun e => hm.ne e.symm
  have n2 : ¬ M = w.heap.size := by omega
  have hSB : SB < w.heap.size := by omega
  have hM : M < w.heap.size := by omega
  generalize hm1 : (m.put a (m.slots.getD c 0)).put b (m.slots.getD d 0) = m' at HP ⊢
  clear hm1 hm h0 h1 h2
  generalize m.slots.getD a 0 = xa at *
  generalize m.slots.getD b 0 = xb at *
  generalize m.slots.getD c 0 = xc at *
  generalize m.slots.getD d 0 = xd at *
  generalize m.slots.length = len at *
  have i1 : (0 : Int) ≤ (a : Int) := by omega
  have i2 : (0 : Int) ≤ (b : Int) := by omega
  have i3 : (0 : Int) ≤ (c : Int) := by omega
  have i4 : (0 : Int) ≤ (d : Int) := by omega
  have j1 : (a : Int) < (len : Int) := by omega
  have j2 : (b : Int) < (len : Int) := by omega
  have j3 : (c : Int) < (len : Int) := by omega
  have j4 : (d : Int) < (len : Int) := by omega
  have hbet' : better = true ∨ better = false ∧ xa = -1 := by
    cases better
    · exact Or.inr ⟨rfl, hbet.resolve_left (by simp)⟩
    · exact Or.inl rfl
  clear hbet
  rcases hbet' with rfl | ⟨rfl, rfl⟩
  all_goals
    by_cases hab : a = b
    · subst hab
      go_enter Tryz.func99, Tryz.ntmps99
      go_wp2_with fail
      go_quiet (fail)
      go_wp2_with fail
      go_quiet (fail)
      go_wp2_with fail
      go_region_held3 (fun w' => w'.cell? ⟨M, 3, none⟩ = some (.slice (some ⟨SB, 0, none⟩) len len) ∧ w'.cell? ⟨w.heap.size, 0, none⟩ = some (.int .i64 a) ∧ w'.cell? ⟨w.heap.size, 1, none⟩ = some (.int .i64 a)) (go_keep) (fail)
      go_wp2
      go_end0
      exact ⟨rfl, HP.out _ _⟩
    · have hba : ¬ b = a := fun h => hab h.symm
      go_enter Tryz.func99, Tryz.ntmps99
      go_wp2_with fail
      go_quiet (fail)
      go_wp2_with fail
      go_quiet (fail)
      go_wp2_with fail
      go_region_held3 (fun w' => w'.cell? ⟨M, 3, none⟩ = some (.slice (some ⟨SB, 0, none⟩) len len) ∧ w'.cell? ⟨w.heap.size, 0, none⟩ = some (.int .i64 a) ∧ w'.cell? ⟨w.heap.size, 1, none⟩ = some (.int .i64 b)) (go_keep) (fail)
      go_wp2
      go_end0
      exact ⟨rfl, HP.out _ _⟩

set_option maxHeartbeats 1000000 in
theorem choose_leave (hm : MachIn B C w M SB v m) (a b c d : Nat) (ha : a < m.slots.length) (hc : c < m.slots.length) (hd : d < m.slots.length)
    (hbet : ¬ m.slots.getD a 0 = -1) :
    Calls Tryz.prog 99 #[.pointer (some ⟨M, 0, none⟩), .agg #[.int .i64 a, .int .i64 b, .int .i64 c, .int .i64 d], .bool false] w fun e w' => e = .returned (.tuple #[]) ∧ MachIn B C w' M SB v m ∧ Below B w w' := by
  have h0 := hm.size
  have h1 := hm.cS
  have h2 := hm.cM
  have h3 := hm.bM
  have HP : Hid (∀ o n, MachIn B C ((w.alloc o).drewN n) M SB v m ∧ Below B w ((w.alloc o).drewN n)) := fun o n => ⟨(hm.alloc o).drewN n, below_drewN ((Below.refl _ _).alloc (by omega) o) n⟩
  have hs := hm.slots
  have ca := hm.slot a ha
  have cc := hm.slot c hc
  have cd := hm.slot d hd
  have n1 : ¬ SB = w.heap.size := by omega
  have n2 : ¬ M = w.heap.size := by omega
  have hSB : SB < w.heap.size := by omega
  have hM : M < w.heap.size := by omega
  clear hm h0 h1 h2 h3
  generalize m.slots.getD a 0 = xa at *
  generalize m.slots.getD c 0 = xc at *
  generalize m.slots.getD d 0 = xd at *
  generalize m.slots.length = len at *
  have i1 : (0 : Int) ≤ (a : Int) := by omega
  have i3 : (0 : Int) ≤ (c : Int) := by omega
  have i4 : (0 : Int) ≤ (d : Int) := by omega
  have j1 : (a : Int) < (len : Int) := by omega
  have j3 : (c : Int) < (len : Int) := by omega
  have j4 : (d : Int) < (len : Int) := by omega
  have hx : (xa == -1) = false := by simpa using hbet
  go_enter Tryz.func99, Tryz.ntmps99
  go_wp2_with fail
  go_quiet (fail)
  go_wp2_with fail
  go_quiet (fail)
  go_wp2
  go_end0
  exact ⟨rfl, by rw [World.drewN_drewN]; exact HP.out _ _⟩

theorem choose_any (hm : MachIn B C w M SB v m) (a b c d : Nat) (better : Bool) (ha : a < m.slots.length) (hb : b < m.slots.length) (hc : c < m.slots.length) (hd : d < m.slots.length) :
    Calls Tryz.prog 99 #[.pointer (some ⟨M, 0, none⟩), .agg #[.int .i64 a, .int .i64 b, .int .i64 c, .int .i64 d], .bool better] w fun e w' => e = .returned (.tuple #[]) ∧
      MachIn B C w' M SB v (Hx.choose ⟨0, a, b, c, d, 0, 0⟩ better m) ∧ Below B w w' := by
  by_cases h : better = true ∨ m.slots.getD a 0 = -1
  · refine (choose_take hm a b c d better ha hb hc hd h).mono ?_
    rintro e w' ⟨rfl, h1, h2⟩
    have hk : (better || m.get (a : Int) == -1) = true := by
      rcases h with rfl | h
      · rfl
      · simp only [Hx.Mc.get, Int.toNat_natCast, h]; simp
    refine ⟨rfl, ?_, h2⟩
    unfold Hx.choose
    rw [if_pos hk]
    simpa [Hx.Mc.get] using h1
  · have hb' : better = false := by
      cases better
      · rfl
      · exact absurd (Or.inl rfl) h
    subst hb'
    have hx : ¬ m.slots.getD a 0 = -1 := fun e => h (Or.inr e)
    refine (choose_leave hm a b c d ha hc hd hx).mono ?_
    rintro e w' ⟨rfl, h1, h2⟩
    refine ⟨rfl, ?_, h2⟩
    unfold Hx.choose
    have hk : ¬ (false || m.get (a : Int) == -1) = true := by
      simp only [Hx.Mc.get, Int.toNat_natCast, Bool.false_or, beq_iff_eq]; exact hx
    rw [if_neg hk]
    exact h1
end Go.Proofs.YthllhabjfchgiaaGreatDoor

/- (*machine).work: an instruction that leads to the next one. -/
namespace Go.Proofs.YthllhabjfchgiaaGreatDoor
open Go.RowKit
open Hx (Rd Pk Vw St Mc In64)
variable {B C : Nat} {w : World} {M SB : Nat} {v : Vw} {m : Mc}
attribute [local go_sem ↓] Go.wp_at_zero Go.wp_at_succ

/-- one store of a slot, behind a box and draws -/
theorem put_one (hm : MachIn B C w M SB v m) {a : Nat} {x : Int} (ha : a < m.slots.length) (hx : In64 x) (o : Obj) (n : Nat) :
    MachIn B C (((w.alloc o).drewN n).setCell ⟨SB, a, none⟩ (.int .i64 x)) M SB v (m.put a x) ∧
    Below B w (((w.alloc o).drewN n).setCell ⟨SB, a, none⟩ (.int .i64 x)) := by
  refine ⟨((hm.alloc o).drewN n).put ha hx, ?_⟩
  have := hm.bS
  have h0 := hm.size
  have h1 := hm.cS
  exact (below_drewN ((Below.refl _ _).alloc (by omega) o) n).setCell (p := ⟨SB, a, none⟩) this _

/-- a box that was made ahead of a store elsewhere -/
theorem cell_box (w : World) (x : Addr) (u : Value) (c : Array Value) (t : TypeId) (i : Nat) : ((w.setCell x u).alloc (.cells c t)).cell? ⟨w.heap.size, i, none⟩ = c[i]? :=
  World.cell?_alloc_at _ _ _ _ (by simp)

theorem put_one' (hm : MachIn B C w M SB v m) {a : Nat} {x : Int} (ha : a < m.slots.length) (hx : In64 x) (o : Obj) (n : Nat) :
    MachIn B C (((w.setCell ⟨SB, a, none⟩ (.int .i64 x)).alloc o).drewN n) M SB v (m.put a x) ∧
    Below B w (((w.setCell ⟨SB, a, none⟩ (.int .i64 x)).alloc o).drewN n) := by
  refine ⟨((hm.put ha hx).alloc o).drewN n, ?_⟩
  have := hm.bS
  have h0 := hm.size
  have h1 := hm.cS
  exact below_drewN (((Below.refl _ _).setCell (p := ⟨SB, a, none⟩) this _).alloc (by simp; omega) o) n

set_option maxHeartbeats 1000000 in
theorem work_number (hm : MachIn B C w M SB v m) (b o : Nat) (a : Nat) (x c d dp t : Int) (hb : b < B) (hst : StepAt w b o ⟨6, a, x, c, d, dp, t⟩) (ha : a < m.slots.length) (hx : In64 x) :
    Calls Tryz.prog 55 #[.pointer (some ⟨M, 0, none⟩), .pointer (some ⟨b, o, none⟩)] w fun e w' => e = .returned (.tuple #[]) ∧ MachIn B C w' M SB v (m.put a x) ∧ Below B w w' := by
  have HP : Hid (∀ o n, MachIn B C (((w.setCell ⟨SB, a, none⟩ (.int .i64 x)).alloc o).drewN n) M SB v (m.put a x) ∧
    Below B w (((w.setCell ⟨SB, a, none⟩ (.int .i64 x)).alloc o).drewN n)) := fun o n => put_one' hm ha hx o n
  have kb := fun (u : Value) (c : Array Value) (i : Nat) => cell_box w ⟨SB, a, none⟩ u c 123 i
  have hs := hm.slots
  have ca := hm.slot a ha
  have fa := hm.slotF a ha
  have h0 := hm.size
  have h1 := hm.cS
  have h2 := hm.cM
  have h3 := hm.bM
  have n1 : ¬ SB = w.heap.size := by omega
  have n3 : ¬ SB = M := fun e => hm.ne e.symm
  have n2 : ¬ M = w.heap.size := by omega
  have n4 : ¬ b = w.heap.size := by omega
  have hSB : SB < w.heap.size := by omega
  have hM : M < w.heap.size := by omega
  have hbs : b < w.heap.size := by omega
  obtain ⟨s0, s1, s2, s3, s4, s5, s6⟩ := hst
  simp only at s0 s1 s2 s3 s4
  clear hm h0 h1 h2 h3 s5 s6
  generalize m.slots.getD a 0 = xa at *
  generalize m.slots.length = len at *
  have i1 : (0 : Int) ≤ (a : Int) := by omega
  have j1 : (a : Int) < (len : Int) := by omega
  go_enter Tryz.func55, Tryz.ntmps55
  go_wp2_with fail
  go_region_held3 (fun w' => w'.cell? ⟨M, 3, none⟩ = some (.slice (some ⟨SB, 0, none⟩) len len) ∧ w'.cell? ⟨w.heap.size, 0, none⟩ = some (.int .i64 a) ∧ w'.cell? ⟨w.heap.size, 1, none⟩ = some (.int .i64 x)) (go_keep) (fail)
  go_wp2
  go_end0
  exact ⟨rfl, HP.out _ 1⟩

theorem all_in (v : Vw) (l : Int) : In64 (v.all l) := by
  unfold Hx.Vw.all Hx.allOf
  repeat' split
  all_goals exact Hx.in_wrap _

set_option maxHeartbeats 1000000 in
theorem work_all (hm : MachIn B C w M SB v m) (b o : Nat) (a : Nat) (l c d dp t : Int) (hb : b < B) (hst : StepAt w b o ⟨21, a, l, c, d, dp, t⟩) (ha : a < m.slots.length) :
    Calls Tryz.prog 55 #[.pointer (some ⟨M, 0, none⟩), .pointer (some ⟨b, o, none⟩)] w fun e w' => e = .returned (.tuple #[]) ∧ MachIn B C w' M SB v (m.put a (v.all l)) ∧ Below B w w' := by
  have HP : Hid (∀ o n, MachIn B C (((w.alloc o).drewN n).setCell ⟨SB, a, none⟩ (.int .i64 (v.all l))) M SB v (m.put a (v.all l)) ∧
    Below B w (((w.alloc o).drewN n).setCell ⟨SB, a, none⟩ (.int .i64 (v.all l)))) := fun o n => put_one hm ha (all_in v l) o n
  have kb := fun (u : Value) (c : Array Value) (i : Nat) => cell_box w ⟨SB, a, none⟩ u c 123 i
  have HV : Hid (∀ o n, ViewIn B ((w.alloc o).drewN n) M v) := fun o n => ((hm.alloc o).drewN n).view
  have ca := hm.slot a ha
  have fa := hm.slotF a ha
  have hs := hm.slots
  have h0 := hm.size
  have h1 := hm.cS
  have h2 := hm.cM
  have h3 := hm.bM
  have n1 : ¬ SB = w.heap.size := by omega
  have n3 : ¬ SB = M := fun e => hm.ne e.symm
  have n2 : ¬ M = w.heap.size := by omega
  have n4 : ¬ b = w.heap.size := by omega
  have hSB : SB < w.heap.size := by omega
  have hM : M < w.heap.size := by omega
  have hbs : b < w.heap.size := by omega
  obtain ⟨s0, s1, s2, s3, s4, s5, s6⟩ := hst
  simp only at s0 s1 s2 s3 s4
  clear hm h0 h1 h2 h3 s5 s6
  generalize m.slots.getD a 0 = xa at *
  generalize m.slots.length = len at *
  have i1 : (0 : Int) ≤ (a : Int) := by omega
  have j1 : (a : Int) < (len : Int) := by omega
  go_enter Tryz.func55, Tryz.ntmps55
  go_wp2_with fail
  go_region_held3 (fun w' => w'.cell? ⟨M, 3, none⟩ = some (.slice (some ⟨SB, 0, none⟩) len len) ∧ w'.cell? ⟨w.heap.size, 0, none⟩ = some (.int .i64 a) ∧ w'.cell? ⟨w.heap.size, 1, none⟩ = some (.int .i64 l)) (go_keep)
    ((go_at_call 95; refine (all_any B M _ v _ (HV.out _ 1)).mono ?_; rintro e w' ⟨rfl, rfl⟩))
  go_wp2
  go_end0
  exact ⟨rfl, HP.out _ 1⟩

set_option maxHeartbeats 1000000 in
theorem work_keep (hm : MachIn B C w M SB v m) (b o : Nat) (a x : Nat) (c d dp t : Int) (hb : b < B) (hst : StepAt w b o ⟨22, a, x, c, d, dp, t⟩) (ha : a < m.slots.length) (hx : x < m.slots.length) :
    Calls Tryz.prog 55 #[.pointer (some ⟨M, 0, none⟩), .pointer (some ⟨b, o, none⟩)] w fun e w' => e = .returned (.tuple #[]) ∧ MachIn B C w' M SB v (m.put a (Hx.keepBit (m.slots.getD a 0) (m.slots.getD x 0))) ∧ Below B w w' := by
  have HP : Hid (∀ o n, MachIn B C (((w.setCell ⟨SB, a, none⟩ (.int .i64 (Hx.keepBit (m.slots.getD a 0) (m.slots.getD x 0)))).alloc o).drewN n) M SB v (m.put a (Hx.keepBit (m.slots.getD a 0) (m.slots.getD x 0))) ∧
    Below B w (((w.setCell ⟨SB, a, none⟩ (.int .i64 (Hx.keepBit (m.slots.getD a 0) (m.slots.getD x 0)))).alloc o).drewN n)) := fun o n => put_one' hm ha (Hx.in_bits _ _ _) o n
  have kb := fun (u : Value) (c : Array Value) (i : Nat) => cell_box w ⟨SB, a, none⟩ u c 123 i
  have ca := hm.slot a ha
  have fa := hm.slotF a ha
  have cx := hm.slot x hx
  have hs := hm.slots
  have h0 := hm.size
  have h1 := hm.cS
  have h2 := hm.cM
  have h3 := hm.bM
  have n1 : ¬ SB = w.heap.size := by omega
  have n3 : ¬ SB = M := fun e => hm.ne e.symm
  have n2 : ¬ M = w.heap.size := by omega
  have n4 : ¬ b = w.heap.size := by omega
  have hSB : SB < w.heap.size := by omega
  have hM : M < w.heap.size := by omega
  have hbs : b < w.heap.size := by omega
  obtain ⟨s0, s1, s2, s3, s4, s5, s6⟩ := hst
  simp only at s0 s1 s2 s3 s4
  clear hm h0 h1 h2 h3 s5 s6
  generalize hk : Hx.keepBit (m.slots.getD a 0) (m.slots.getD x 0) = kk at HP ⊢
  have HK := hk.symm
  clear hk
  generalize m.slots.getD a 0 = xa at *
  generalize m.slots.getD x 0 = xx at *
  generalize m.slots.length = len at *
  unfold Hx.keepBit Hx.unsigned at HK
  subst HK
  have i1 : (0 : Int) ≤ (a : Int) := by omega
  have j1 : (a : Int) < (len : Int) := by omega
  have i2 : (0 : Int) ≤ (x : Int) := by omega
  have j2 : (x : Int) < (len : Int) := by omega
  have u0 : 0 ≤ IntKind.u64.wrap xx := by rw [IntKind.wrap_u64]; omega
  have u1 : IntKind.u64.wrap xx % 64 < 64 := by omega
  have u2 : 0 ≤ IntKind.u64.wrap xx % 64 := by omega
  go_enter Tryz.func55, Tryz.ntmps55
  go_wp2_with fail
  go_region
  go_wp2
  go_end0
  exact ⟨rfl, HP.out _ 1⟩
end Go.Proofs.YthllhabjfchgiaaGreatDoor

/- (*machine).work: Least and Most, and all others. -/
namespace Go.Proofs.YthllhabjfchgiaaGreatDoor
open Go.RowKit
open Hx (Rd Pk Vw St Mc In64)
variable {B C : Nat} {w : World} {M SB : Nat} {v : Vw} {m : Mc}
attribute [local go_sem ↓] Go.wp_at_zero Go.wp_at_succ

/-- a region whose last operations stand in one order, behind operations that only read -/
theorem wp_still_tail {P : Program} {id : Nat} {Q : Exit → Act → World → Prop} {a : Act} {w : World} {l : List Oper} (n : Nat) (hm : P.follows .mixedOrders = true) (hB : Region.lexTailB .any l.toArray n = true)
    (h : wpStill P l.toArray w.drew (fun a' => wpList P l.toArray Q (l.drop n) a' w.drew) (l.take n) a) : (Code.region id l.toArray true).wp P Q a w :=
  wp_region_still_tail n hm hB h

set_option maxRecDepth 100000 in
set_option maxHeartbeats 1000000 in
theorem work_least (hm : MachIn B C w M SB v m) (b o : Nat) (a x c d : Nat) (dp t : Int) (hb : b < B) (hst : StepAt w b o ⟨25, a, x, c, d, dp, t⟩) (ha : a < m.slots.length) (hx : x < m.slots.length) (hc : c < m.slots.length) (hd : d < m.slots.length) :
    Calls Tryz.prog 55 #[.pointer (some ⟨M, 0, none⟩), .pointer (some ⟨b, o, none⟩)] w fun e w' => e = .returned (.tuple #[]) ∧ MachIn B C w' M SB v (Hx.choose ⟨0, a, x, c, d, 0, 0⟩ (decide (m.slots.getD d 0 < m.slots.getD x 0)) m) ∧ Below B w w' := by
  have HC : Hid (∀ (o : Obj) (better : Bool), Calls Tryz.prog 99 #[.pointer (some ⟨M, 0, none⟩), .agg #[.int .i64 a, .int .i64 x, .int .i64 c, .int .i64 d], .bool better] ((w.alloc o).drew) fun e w' => e = .returned (.tuple #[]) ∧
      MachIn B C w' M SB v (Hx.choose ⟨0, a, x, c, d, 0, 0⟩ better m) ∧ Below B ((w.alloc o).drew) w') := fun o better => choose_any ((hm.alloc o).drewN 1) a x c d better ha hx hc hd
  have HB : Hid (∀ (o : Obj) (n : Nat), Below B w ((w.alloc o).drewN n)) := fun o n => below_drewN ((Below.refl _ _).alloc (by have := hm.size; have := hm.cM; have := hm.bM; omega) o) n
  have cx := hm.slot x hx
  have cd := hm.slot d hd
  have hs := hm.slots
  have h0 := hm.size
  have h1 := hm.cS
  have h2 := hm.cM
  have h3 := hm.bM
  have n1 : ¬ SB = w.heap.size := by omega
  have n3 : ¬ SB = M := fun e => hm.ne e.symm
  have n2 : ¬ M = w.heap.size := by omega
  have n4 : ¬ b = w.heap.size := by omega
  have hSB : SB < w.heap.size := by omega
  have hM : M < w.heap.size := by omega
  have hbs : b < w.heap.size := by omega
  obtain ⟨s0, s1, s2, s3, s4, s5, s6⟩ := hst
  simp only at s0 s1 s2 s3 s4
  clear hm h0 h1 h2 h3 s5 s6
  generalize m.slots.getD x 0 = xx at *
  generalize m.slots.getD d 0 = xd at *
  generalize m.slots.length = len at *
  have i2 : (0 : Int) ≤ (x : Int) := by omega
  have j2 : (x : Int) < (len : Int) := by omega
  have i4 : (0 : Int) ≤ (d : Int) := by omega
  have j4 : (d : Int) < (len : Int) := by omega
  go_enter Tryz.func55, Tryz.ntmps55
  go_wp2_with fail
  refine wp_still_tail 19 (by kernel_rfl) (by kernel_rfl) ?_
  simp only [List.take_succ_cons, List.take_zero, List.drop_succ_cons, List.drop_zero]
  repeat still_step
  refine wpStill_nil ?_
  go_wp2_with fail
  refine (HC.out _ _).mono ?_
  rintro e w1 ⟨rfl, hm1, hb1⟩
  go_wp2
  go_end0
  exact ⟨rfl, hm1, (HB.out _ 1).trans hb1⟩

set_option maxRecDepth 100000 in
set_option maxHeartbeats 1000000 in
theorem work_most (hm : MachIn B C w M SB v m) (b o : Nat) (a x c d : Nat) (dp t : Int) (hb : b < B) (hst : StepAt w b o ⟨26, a, x, c, d, dp, t⟩) (ha : a < m.slots.length) (hx : x < m.slots.length) (hc : c < m.slots.length) (hd : d < m.slots.length) :
    Calls Tryz.prog 55 #[.pointer (some ⟨M, 0, none⟩), .pointer (some ⟨b, o, none⟩)] w fun e w' => e = .returned (.tuple #[]) ∧ MachIn B C w' M SB v (Hx.choose ⟨0, a, x, c, d, 0, 0⟩ (decide (m.slots.getD x 0 < m.slots.getD d 0)) m) ∧ Below B w w' := by
  have HC : Hid (∀ (o : Obj) (better : Bool), Calls Tryz.prog 99 #[.pointer (some ⟨M, 0, none⟩), .agg #[.int .i64 a, .int .i64 x, .int .i64 c, .int .i64 d], .bool better] ((w.alloc o).drew) fun e w' => e = .returned (.tuple #[]) ∧
      MachIn B C w' M SB v (Hx.choose ⟨0, a, x, c, d, 0, 0⟩ better m) ∧ Below B ((w.alloc o).drew) w') := fun o better => choose_any ((hm.alloc o).drewN 1) a x c d better ha hx hc hd
  have HB : Hid (∀ (o : Obj) (n : Nat), Below B w ((w.alloc o).drewN n)) := fun o n => below_drewN ((Below.refl _ _).alloc (by have := hm.size; have := hm.cM; have := hm.bM; omega) o) n
  have cx := hm.slot x hx
  have cd := hm.slot d hd
  have hs := hm.slots
  have h0 := hm.size
  have h1 := hm.cS
  have h2 := hm.cM
  have h3 := hm.bM
  have n1 : ¬ SB = w.heap.size := by omega
  have n3 : ¬ SB = M := fun e => hm.ne e.symm
  have n2 : ¬ M = w.heap.size := by omega
  have n4 : ¬ b = w.heap.size := by omega
  have hSB : SB < w.heap.size := by omega
  have hM : M < w.heap.size := by omega
  have hbs : b < w.heap.size := by omega
  obtain ⟨s0, s1, s2, s3, s4, s5, s6⟩ := hst
  simp only at s0 s1 s2 s3 s4
  clear hm h0 h1 h2 h3 s5 s6
  generalize m.slots.getD x 0 = xx at *
  generalize m.slots.getD d 0 = xd at *
  generalize m.slots.length = len at *
  have i2 : (0 : Int) ≤ (x : Int) := by omega
  have j2 : (x : Int) < (len : Int) := by omega
  have i4 : (0 : Int) ≤ (d : Int) := by omega
  have j4 : (d : Int) < (len : Int) := by omega
  go_enter Tryz.func55, Tryz.ntmps55
  go_wp2_with fail
  refine wp_still_tail 19 (by kernel_rfl) (by kernel_rfl) ?_
  simp only [List.take_succ_cons, List.take_zero, List.drop_succ_cons, List.drop_zero]
  repeat still_step
  refine wpStill_nil ?_
  go_wp2_with fail
  refine (HC.out _ _).mono ?_
  rintro e w1 ⟨rfl, hm1, hb1⟩
  go_wp2
  go_end0
  exact ⟨rfl, hm1, (HB.out _ 1).trans hb1⟩
end Go.Proofs.YthllhabjfchgiaaGreatDoor
