import Derived.StillTail
import Derived.Deep.Quiet
import Derived.Deep.QuietTactic
import Derived.BigQuiet
import Derived.WalkKit
import Derived.Test.YthllhabjfchgiaaGreatDoorHy01
import Derived.Laws.IdiomCopy
import Derived.Deep.Slices
import Derived.Deep.Fields
import Derived.Deep.Strs
import Derived.OpenShut
/- A region that draws its order, whose last operations stand in one order behind operations (calls among them) that are quiet in a class of worlds: one walk in the order of the text serves. -/
namespace Go.Proofs.YthllhabjfchgiaaGreatDoor
open Go
variable {P : Program} {ops : Array Oper} {md : Region.Mode} {C : World → Prop}

/-- some f operations, each below n and quiet, in whatever order; then L -/
def HeadQ (P : Program) (md : Region.Mode) (ops : Array Oper) (C : World → Prop) (n : Nat) (L : Array Bool → Act → Prop) : Nat → Array Bool → Act → Prop
  | 0, done, a => L done a
  | f + 1, done, a => Region.ready md ops done ≠ [] ∧ ∀ i ∈ Region.ready md ops done, i < n ∧ qOp P ops C i (HeadQ P md ops C n L f (done.setIfInBounds i true)) a

theorem HeadQ.any {n g : Nat} {L : Array Bool → Act → Prop} {Q : Exit → Act → World → Prop} (hL : ∀ done a w, C w → L done a → wpAny P md ops Q g done a w) :
    ∀ (f : Nat) (done : Array Bool) (a : Act) (w : World), C w → HeadQ P md ops C n L f done a → wpAny P md ops Q (f + g) done a w
  | 0, done, a, w, hw, h => by rw [Nat.zero_add]; exact hL _ _ _ hw h
  | f + 1, done, a, w, hw, h => by
    have e : f + 1 + g = (f + g) + 1 := by omega
    rw [e]
    exact ⟨fun h0 => absurd h0 h.1, fun i hi => wpOp_of_qOp hw (fun a' w' hw' h' => HeadQ.any hL f _ a' w' hw' h') (h.2 i hi).2⟩

theorem HeadQ.first {n i : Nat} {oi : Oper} {v : Value} {L : Array Bool → Act → Prop} (hi : ops[i]? = some oi) (hsel : ∀ (j : Nat) (o : Oper) cs b, ops[j]? = some o → o.op ≠ .select cs b)
    (hs : Region.sinkB md ops n = true) (hc : Region.chainB md ops n = true) (hn : n < ops.size) (hin : i < n)
    (hend : ∀ done a, L done a → ∀ j ∈ Region.ready md ops done, n ≤ j) :
    ∀ (f : Nat) (done : Array Bool) (a : Act), HeadInv md ops n done →
      (∀ j oj, ops[j]? = some oj → j ≠ i → done.getD j true = false → (∀ e ∈ oj.after, Region.binds md e = true → e.on ≠ i) → oi.apart ops oj = true) →
      i ∈ Region.ready md ops done → YieldsIn P ops C oi v a →
      HeadQ P md ops C n L f (done.setIfInBounds i true) (a.put oi.dst v) → HeadQ P md ops C n L (f + 1) done a := by
  intro f
  induction f with
  | zero =>
    intro done a inv _ hr hy H
    have hun := (mem_ready.1 hr).1
    refine ⟨fun h => (by rw [h] at hr; cases hr), fun j hj => ?_⟩
    have hjn : j < n := Nat.lt_of_not_le fun h => tail_waits hs hc hn inv _ i rfl hin hun j h hj
    refine ⟨hjn, ?_⟩
    by_cases hji : j = i
    · subst hji; exact hy.qOp hi H
    · exact absurd (hend _ _ H j (ready_mono hj hji)) (by omega)
  | succ f ih =>
    intro done a inv hfree hr hy H
    have hun := (mem_ready.1 hr).1
    refine ⟨fun h => (by rw [h] at hr; cases hr), fun j hj => ?_⟩
    have hjn : j < n := Nat.lt_of_not_le fun h => tail_waits hs hc hn inv _ i rfl hin hun j h hj
    refine ⟨hjn, ?_⟩
    by_cases hji : j = i
    · subst hji; exact hy.qOp hi H
    · obtain ⟨hjun, oj, hoj, hall⟩ := mem_ready.1 hj
      have hnot : ∀ e ∈ oj.after, Region.binds md e = true → e.on ≠ i := fun e he hb heq => by
        have h1 := hall e he hb
        rw [heq, getD_both hun] at h1
        cases h1
      have h2 := qOp_put hoj (hfree j oj hoj hji hjun hnot) (fun cs b => hsel i oi cs b hi) (fun cs b => hsel j oj cs b hoj) hy (H.2 j (ready_mono hj hji)).2
      have hfree' : ∀ k ok, ops[k]? = some ok → k ≠ i → (done.setIfInBounds j true).getD k true = false →
          (∀ e ∈ ok.after, Region.binds md e = true → e.on ≠ i) → oi.apart ops ok = true := fun k ok hk hki hu hno => by
        refine hfree k ok hk hki ?_ hno
        by_cases hjk : j = k
        · subst hjk; exact hjun
        · rw [getD_set_ne true hjk] at hu; exact hu
      refine qOp_mono (fun a' h3 => ih (done.setIfInBounds j true) a' (inv.set hj hjn) hfree' (ready_mono hr (Ne.symm hji)) h3.1 ?_) h2
      rw [Array.setIfInBounds_comm _ _ hji]
      exact h3.2

theorem HeadQ.lex {n g : Nat} {Lq : Act → Prop} (hsel : Region.noSelect ops = true) (hs : Region.sinkB md ops n = true) (hc : Region.chainB md ops n = true) (hn : n < ops.size) :
    ∀ (l : List Oper) (k : Nat) (done : Array Bool) (a : Act), (∀ j, j < l.length → l[j]? = ops[k + j]?) → k + l.length = n → HeadInv md ops n done →
    Region.lexHead md ops g l.length k done = true → wpQuiet P ops C Lq l a →
    HeadQ P md ops C n (fun done' a' => Region.seqB md ops g n done' = true ∧ Lq a') l.length done a
  | [], k, done, a, _, hk, _, hB, h => by
    obtain rfl : k = n := by simpa using hk
    exact ⟨by simpa [Region.lexHead] using hB, h⟩
  | o :: l, k, done, a, hl, hk, inv, hB, h => by
    have h0 : ops[k]? = some o := by simpa using (hl 0 (by simp)).symm
    simp only [List.length_cons, Region.lexHead, Bool.and_eq_true] at hB
    obtain ⟨⟨hr, hf⟩, hB'⟩ := hB
    have hkn : k < n := by simp only [List.length_cons] at hk; omega
    have hr' : k ∈ Region.ready md ops done := by simpa using hr
    have hst : qOp P ops C k (wpQuiet P ops C Lq l) a := by unfold qOp; simp only [h0]; exact h
    obtain ⟨v, hy, hK⟩ := yieldsIn_of_qOp h0 hst
    exact HeadQ.first h0 (Region.noSelect_spec hsel) hs hc hn hkn (fun done' a' hL => seqB_ready hL.1) l.length done a inv (Region.free_spec h0 hf) hr' hy
      (HeadQ.lex hsel hs hc hn l (k + 1) _ _ (fun j hj => by have := hl (j + 1) (by simp; omega); simpa [Nat.add_assoc, Nat.add_comm 1 j] using this) (by simp only [List.length_cons] at hk; omega) (inv.set hr' hkn) hB' hK)

theorem wp_quiet_tail_of {id : Nat} {Q : Exit → Act → World → Prop} {a : Act} {w : World} {l : List Oper} (n : Nat) (hm : P.follows .mixedOrders = true) (hB : Region.lexTailB .any l.toArray n = true) (hC : C w.drew)
    (h : wpQuiet P l.toArray C (fun a' => ∀ w', C w' → wpList P l.toArray Q (l.drop n) a' w') (l.take n) a) : (Code.region id l.toArray true).wp P Q a w := by
  simp only [Region.lexTailB, Bool.and_eq_true, decide_eq_true_eq] at hB
  obtain ⟨⟨⟨⟨hsel, hn⟩, hs⟩, hc⟩, hlex⟩ := hB
  have hn' : n < l.length := by simpa using hn
  have htl : (l.take n).length = n := by simp; omega
  have hdl : (l.drop n).length = l.toArray.size - n := by simp
  have inv0 : HeadInv .any l.toArray n (Array.replicate l.toArray.size false) :=
    ⟨by simp, fun j oj _ hl => (by rw [getD_replicate_false] at hl; cases hl), fun t _ ht => getD_in (by simpa using ht) (getD_replicate_false _ _)⟩
  have H := HeadQ.lex (P := P) (C := C) (md := .any) (g := l.toArray.size - n) hsel hs hc hn (l.take n) 0 _ a (fun j hj => by
    have hj' : j < n := by rw [htl] at hj; exact hj
    simp [hj']) (by simpa using htl) inv0 (by rw [htl]; exact hlex) h
  refine wp_region_any hm ?_
  have := HeadQ.any (Q := Q) (g := l.toArray.size - n) (fun done a' w' hw' hL => by
    have := wpAny_of_seq (P := P) (md := .any) (Q' := Q) (l.drop n) n done a' w' (fun j => by simp [List.getElem?_drop]) (by rw [hdl]; exact hL.1) (hL.2 w' hw')
    rwa [hdl] at this) _ _ _ w.drew hC H
  rw [htl, show n + (l.toArray.size - n) = l.toArray.size by omega] at this
  exact this

theorem wp_quiet_tail {id : Nat} {Q : Exit → Act → World → Prop} {a : Act} {w : World} {l : List Oper} (n : Nat) (hm : P.follows .mixedOrders = true) (hB : Region.lexTailB .any l.toArray n = true)
    (h : wpQuiet P l.toArray (fun w' => ∃ n, w' = w.drewN n) (fun a' => ∀ w', (∃ n, w' = w.drewN n) → wpList P l.toArray Q (l.drop n) a' w') (l.take n) a) : (Code.region id l.toArray true).wp P Q a w :=
  wp_quiet_tail_of n hm hB ⟨1, rfl⟩ h

/-- the same behind draws -/
theorem wp_quiet_tailN {id : Nat} {Q : Exit → Act → World → Prop} {a : Act} {w : World} {k : Nat} {l : List Oper} (n : Nat) (hm : P.follows .mixedOrders = true) (hB : Region.lexTailB .any l.toArray n = true)
    (h : wpQuiet P l.toArray (fun w' => ∃ n, w' = w.drewN n) (fun a' => ∀ w', (∃ n, w' = w.drewN n) → wpList P l.toArray Q (l.drop n) a' w') (l.take n) a) : (Code.region id l.toArray true).wp P Q a (w.drewN k) :=
  wp_quiet_tail_of n hm hB ⟨k + 1, rfl⟩ h
end Go.Proofs.YthllhabjfchgiaaGreatDoor

/- newMachine. -/
namespace Go.Proofs.YthllhabjfchgiaaGreatDoor
open Go.RowKit
open Hx (Rd Pk Vw St Mc In64)
variable {B C : Nat} {w : World} {M SB : Nat} {v : Vw} {m : Mc}

theorem info_int : (Tryz.prog.info? 3).map (fun i => (i.zero, i.size, i.bytes)) = some (some (.int .i64 0), 1, 8) := by kernel_rfl

theorem run_make_ints (n : Nat) (hn : n ≤ 100000) (w : World) :
    (Instr.makeSlice 91 (.int .i64 (n : Int)) (.int .i64 (n : Int))).run Tryz.prog w = .ok (.slice (some ⟨w.heap.size, 0, none⟩) n n) (w.alloc (.cells (madeCells #[.int .i64 0] n) 3)) := by
  obtain ⟨i0, hi0, hz0, hz1, hz2⟩ := info_parts info_int
  have := run_makeSlice (P := Tryz.prog) w 91 3 i0 (.int .i64 0) Tryz.underlying91 hi0 hz0 .i64 .i64 n n (by omega) (by omega) (by rw [hz1]; simp; omega) (by rw [hz2]; omega) (by omega)
  rw [this, hz1]
  simp [Value.cells]

def regCells (x0 x1 x2 x3 x4 x5 x6 x7 : Int) : List Value := [.int .i64 x0, .int .i64 x1, .int .i64 x2, .int .i64 x3, .int .i64 x4, .int .i64 x5, .int .i64 x6, .int .i64 x7]

/-- the world in which newMachine has made its blocks -/
def newWorld (w : World) (ar af aa : Option Addr) (nr cr nf cf na ca : Nat) (x0 x1 x2 x3 x4 x5 x6 x7 : Int) (n : Nat) (zs : Array Value) : World :=
  (((w.alloc (Obj.cells #[.slice ar nr cr, .slice af nf cf, .slice aa na ca] 25)).alloc
    (Obj.cells #[.int .i64 x0, .int .i64 x1, .int .i64 x2, .int .i64 x3, .int .i64 x4, .int .i64 x5, .int .i64 x6, .int .i64 x7] 26)).alloc
    (Obj.cells zs 3)).alloc
    (Obj.cells #[.slice ar nr cr, .slice af nf cf, .slice aa na ca, .slice (some ⟨w.heap.size + 1 + 1, 0, none⟩) n n, .int .u64 0, .int .u64 0, .int .u64 0, .int .u64 0, .int .u64 0, .int .u64 0, .int .u64 0, .int .u64 0, .slice none 0 0] 130)

section
variable (w : World) (ar af aa : Option Addr) (nr cr nf cf na ca : Nat) (x0 x1 x2 x3 x4 x5 x6 x7 : Int) (n : Nat) (zs : Array Value)

theorem newWorld_size : (newWorld w ar af aa nr cr nf cf na ca x0 x1 x2 x3 x4 x5 x6 x7 n zs).heap.size = w.heap.size + 4 := by simp [newWorld]
theorem newWorld_mach (k : Nat) : (newWorld w ar af aa nr cr nf cf na ca x0 x1 x2 x3 x4 x5 x6 x7 n zs).cell? ⟨w.heap.size + 1 + 1 + 1, k, none⟩ = #[Value.slice ar nr cr, .slice af nf cf, .slice aa na ca, .slice (some ⟨w.heap.size + 1 + 1, 0, none⟩) n n, .int .u64 0, .int .u64 0, .int .u64 0, .int .u64 0, .int .u64 0, .int .u64 0, .int .u64 0, .int .u64 0, .slice none 0 0][k]? :=
  World.cell?_alloc_at _ _ _ _ (by simp)
theorem newWorld_machF (k : Nat) : (newWorld w ar af aa nr cr nf cf na ca x0 x1 x2 x3 x4 x5 x6 x7 n zs).frozen? ⟨w.heap.size + 1 + 1 + 1, k, none⟩ = false :=
  World.frozen?_alloc_at _ _ _ _ (by simp)
theorem newWorld_slot (k : Nat) : (newWorld w ar af aa nr cr nf cf na ca x0 x1 x2 x3 x4 x5 x6 x7 n zs).cell? ⟨w.heap.size + 1 + 1, k, none⟩ = zs[k]? := by
  unfold newWorld
  rw [World.cell?_alloc_past _ _ _ (by simp)]
  exact World.cell?_alloc_at _ _ _ _ (by simp)
theorem newWorld_slotF (k : Nat) : (newWorld w ar af aa nr cr nf cf na ca x0 x1 x2 x3 x4 x5 x6 x7 n zs).frozen? ⟨w.heap.size + 1 + 1, k, none⟩ = false := by
  unfold newWorld
  rw [World.frozen?_alloc_past _ _ _ (by simp)]
  exact World.frozen?_alloc_at _ _ _ _ (by simp)
theorem newWorld_reg (k : Nat) : (newWorld w ar af aa nr cr nf cf na ca x0 x1 x2 x3 x4 x5 x6 x7 n zs).cell? ⟨w.heap.size + 1, k, none⟩ = (regCells x0 x1 x2 x3 x4 x5 x6 x7)[k]? := by
  unfold newWorld
  rw [World.cell?_alloc_past _ _ _ (by simp), World.cell?_alloc_past _ _ _ (by simp)]
  rw [World.cell?_alloc_at _ _ _ _ (by simp)]
  simp [regCells]
theorem newWorld_old : w.grownBy (newWorld w ar af aa nr cr nf cf na ca x0 x1 x2 x3 x4 x5 x6 x7 n zs) none := by
  unfold newWorld
  have h1 := World.grownBy_alloc w (Obj.cells #[Value.slice ar nr cr, .slice af nf cf, .slice aa na ca] 25) none
  exact ((h1.trans (World.grownBy_alloc _ _ none)).trans (World.grownBy_alloc _ _ none)).trans (World.grownBy_alloc _ _ none)
end

set_option maxRecDepth 100000 in
set_option maxHeartbeats 1000000 in
theorem new_walk (ar af aa : Option Addr) (nr cr nf cf na ca : Nat) (x0 x1 x2 x3 x4 x5 x6 x7 : Int) (n : Nat) (w : World) (hn : n ≤ 100000) (h8 : 8 ≤ n) :
    Calls Tryz.prog 49 #[.agg #[.slice ar nr cr, .slice af nf cf, .slice aa na ca], .agg #[.int .i64 x0, .int .i64 x1, .int .i64 x2, .int .i64 x3, .int .i64 x4, .int .i64 x5, .int .i64 x6, .int .i64 x7], .int .i64 n] w fun e w' =>
      e = .returned (.pointer (some ⟨w.heap.size + 1 + 1 + 1, 0, none⟩)) ∧ ∃ k, w' = ((newWorld w ar af aa nr cr nf cf na ca x0 x1 x2 x3 x4 x5 x6 x7 n (madeCells #[.int .i64 0] n)).drewN k).setCells (w.heap.size + 1 + 1) 0 (regCells x0 x1 x2 x3 x4 x5 x6 x7) := by
  have km := fun (w : World) => run_make_ints n hn w
  have hz : (madeCells #[.int .i64 0] n).size = n := size_madeCells _ _
  generalize madeCells #[Value.int .i64 0] n = zs at *
  have h3 := newWorld_mach w ar af aa nr cr nf cf na ca x0 x1 x2 x3 x4 x5 x6 x7 n zs 3
  have kc := fun (ty : TypeId) (k : Nat) => run_copy_cells (P := Tryz.prog) ((newWorld w ar af aa nr cr nf cf na ca x0 x1 x2 x3 x4 x5 x6 x7 n zs).drewN k) 91 91 ty 3 (w.heap.size + 1 + 1) 0 n n ⟨w.heap.size + 1, 0, none⟩ 8 8 (regCells x0 x1 x2 x3 x4 x5 x6 x7)
    Tryz.underlying91 (by kernel_rfl) (by show 8 = min 8 n; omega)
    (by
      intro j u hj
      have e : (⟨w.heap.size + 1, 0, none⟩ : Addr).add j = ⟨w.heap.size + 1, j, none⟩ := by unfold Addr.add; split <;> simp_all
      rw [e, World.cell?_drewN, newWorld_reg]; exact hj)
    (by
      intro j hj
      have : j < 8 := by simpa [regCells] using hj
      rw [World.cell?_drewN, Nat.zero_add, newWorld_slot]
      simp; omega)
    (by intro j _; rw [World.frozen?_drewN]; exact newWorld_slotF w ar af aa nr cr nf cf na ca x0 x1 x2 x3 x4 x5 x6 x7 n zs _)
    (by simp [regCells, Value.oneCell'])
  simp only [List.getElem?_toArray, List.getElem?_cons_succ, List.getElem?_cons_zero] at h3
  go_enter Tryz.func49, Tryz.ntmps49
  go_wp2_with fail
  go_region_held3 (fun w' => w'.cell? ⟨w.heap.size, 0, none⟩ = some (.slice ar nr cr) ∧ w'.cell? ⟨w.heap.size, 1, none⟩ = some (.slice af nf cf) ∧ w'.cell? ⟨w.heap.size, 2, none⟩ = some (.slice aa na ca)) (go_keep) (fail)
  go_wp2_with fail
  rename_i hheld kk hkk
  clear hheld
  rw [show ((((w.alloc (Obj.cells #[.slice ar nr cr, .slice af nf cf, .slice aa na ca] 25)).alloc
    (Obj.cells #[.int .i64 x0, .int .i64 x1, .int .i64 x2, .int .i64 x3, .int .i64 x4, .int .i64 x5, .int .i64 x6, .int .i64 x7] 26)).alloc
    (Obj.cells zs 3)).alloc
    (Obj.cells #[.slice ar nr cr, .slice af nf cf, .slice aa na ca, .slice (some ⟨w.heap.size + 1 + 1, 0, none⟩) n n, .int .u64 0, .int .u64 0, .int .u64 0, .int .u64 0, .int .u64 0, .int .u64 0, .int .u64 0, .int .u64 0, .slice none 0 0] 130)) = newWorld w ar af aa nr cr nf cf na ca x0 x1 x2 x3 x4 x5 x6 x7 n zs from rfl]
  generalize hW : newWorld w ar af aa nr cr nf cf na ca x0 x1 x2 x3 x4 x5 x6 x7 n zs = W at *
  have HW : Hid (newWorld w ar af aa nr cr nf cf na ca x0 x1 x2 x3 x4 x5 x6 x7 n zs = W) := hW
  clear hW
  refine wp_quiet_tailN (w := W) (k := 1) 5 (by kernel_rfl) (by kernel_rfl) ?_
  simp only [List.take_succ_cons, List.take_zero, List.drop_succ_cons, List.drop_zero]
  repeat (go_big_quiet_step (fail))
  refine wpQuiet_nil ?_
  intro _ hw'
  obtain ⟨n3, hw''⟩ := hw'
  subst hw''
  go_wp2
  go_ret
  exact ⟨rfl, n3, by rw [HW.out]⟩

/-- a view as three slices, its arrays below block B -/
structure ViewV (B : Nat) (w : World) (ar af aa : Option Addr) (nr nf na : Nat) (v : Vw) : Prop where
  roads : RoadsAt B w ar v.roads
  fresh : PacksAt B w af v.fresh
  again : PacksAt B w aa v.again
  lenR : nr = v.roads.length
  lenF : nf = v.fresh.length
  lenA : na = v.again.length
  rng : v.inRange

/-- the view keeps its bounds -/
structure Good (v : Vw) : Prop where
  maxRoads : v.roads.length ≤ 8
  maxFresh : v.fresh.length ≤ 16
  maxAgain : v.again.length ≤ 16
  ids : ∀ r ∈ v.roads, 0 ≤ r.id ∧ r.id < 8

def machine0 (x0 x1 x2 x3 x4 x5 x6 x7 : Int) (n : Nat) : Mc := ⟨[x0, x1, x2, x3, x4, x5, x6, x7] ++ List.replicate (n - 8) 0, List.replicate 8 0, []⟩

theorem made_get (n k : Nat) (hk : k < n) : (madeCells #[Value.int .i64 0] n)[k]? = some (.int .i64 0) := by
  have := toList_madeCells_one (.int .i64 0) n
  rw [← Array.getElem?_toList, this]
  simp [hk]

theorem regCells_at (x0 x1 x2 x3 x4 x5 x6 x7 : Int) : ∀ j (h : j < (regCells x0 x1 x2 x3 x4 x5 x6 x7).length), (regCells x0 x1 x2 x3 x4 x5 x6 x7)[j] = .int .i64 ([x0, x1, x2, x3, x4, x5, x6, x7].getD j 0)
  | 0, _ => rfl
  | 1, _ => rfl
  | 2, _ => rfl
  | 3, _ => rfl
  | 4, _ => rfl
  | 5, _ => rfl
  | 6, _ => rfl
  | 7, _ => rfl

theorem left_at (a b c d e : Value) : ∀ j, j < 8 → #[a, b, c, d, Value.int .u64 0, .int .u64 0, .int .u64 0, .int .u64 0, .int .u64 0, .int .u64 0, .int .u64 0, .int .u64 0, e][4 + j]? = some (.int .u64 0)
  | 0, _ => rfl
  | 1, _ => rfl
  | 2, _ => rfl
  | 3, _ => rfl
  | 4, _ => rfl
  | 5, _ => rfl
  | 6, _ => rfl
  | 7, _ => rfl

theorem zeros_at (j : Nat) (n : Nat) : (List.replicate n (0 : Int)).getD j 0 = 0 := by
  simp only [List.getD_eq_getElem?_getD, List.getElem?_replicate]
  split <;> simp

theorem newWorld_in (hB : 1 < B) (hBw : B ≤ w.heap.size) (hT : Tab64 w) {ar af aa : Option Addr} {nr cr nf cf na ca : Nat} (hv : ViewV B w ar af aa nr nf na v) (hg : Good v) (x0 x1 x2 x3 x4 x5 x6 x7 : Int) (n : Nat) (h8 : 8 ≤ n)
    (hx : ∀ x ∈ [x0, x1, x2, x3, x4, x5, x6, x7], In64 x) (k : Nat) :
    MachIn B (w.heap.size + 4) (((newWorld w ar af aa nr cr nf cf na ca x0 x1 x2 x3 x4 x5 x6 x7 n (madeCells #[.int .i64 0] n)).drewN k).setCells (w.heap.size + 1 + 1) 0 (regCells x0 x1 x2 x3 x4 x5 x6 x7)) (w.heap.size + 1 + 1 + 1) (w.heap.size + 1 + 1) v (machine0 x0 x1 x2 x3 x4 x5 x6 x7 n) := by
  generalize hW : newWorld w ar af aa nr cr nf cf na ca x0 x1 x2 x3 x4 x5 x6 x7 n (madeCells #[.int .i64 0] n) = W
  have hsz : W.heap.size = w.heap.size + 4 := by rw [← hW]; exact newWorld_size ..
  have hmach : ∀ k, W.cell? ⟨w.heap.size + 1 + 1 + 1, k, none⟩ = #[Value.slice ar nr cr, .slice af nf cf, .slice aa na ca, .slice (some ⟨w.heap.size + 1 + 1, 0, none⟩) n n, .int .u64 0, .int .u64 0, .int .u64 0, .int .u64 0, .int .u64 0, .int .u64 0, .int .u64 0, .int .u64 0, .slice none 0 0][k]? := fun k => by rw [← hW]; exact newWorld_mach ..
  have hmachF : ∀ k, W.frozen? ⟨w.heap.size + 1 + 1 + 1, k, none⟩ = false := fun k => by rw [← hW]; exact newWorld_machF ..
  have hslot : ∀ k, W.cell? ⟨w.heap.size + 1 + 1, k, none⟩ = (madeCells #[.int .i64 0] n)[k]? := fun k => by rw [← hW]; exact newWorld_slot ..
  have hslotF : ∀ k, W.frozen? ⟨w.heap.size + 1 + 1, k, none⟩ = false := fun k => by rw [← hW]; exact newWorld_slotF ..
  have hold : w.grownBy W none := by rw [← hW]; exact newWorld_old ..
  clear hW
  have hlenr : (regCells x0 x1 x2 x3 x4 x5 x6 x7).length = 8 := rfl
  have hfar : ∀ x : Addr, ¬ x.block = w.heap.size + 1 + 1 → ((W.drewN k).setCells (w.heap.size + 1 + 1) 0 (regCells x0 x1 x2 x3 x4 x5 x6 x7)).cell? x = W.cell? x := fun x hx => by
    rw [World.cell?_setCells_out _ _ _ _ _ (fun e => absurd e hx), World.cell?_drewN]
  have hfr : ∀ x : Addr, ((W.drewN k).setCells (w.heap.size + 1 + 1) 0 (regCells x0 x1 x2 x3 x4 x5 x6 x7)).frozen? x = W.frozen? x := fun x => by
    rw [World.frozen?_setCells, World.frozen?_drewN]
  have hOld : ∀ x : Addr, x.block < w.heap.size → ((W.drewN k).setCells (w.heap.size + 1 + 1) 0 (regCells x0 x1 x2 x3 x4 x5 x6 x7)).cell? x = w.cell? x := fun x hx => by
    rw [hfar x (by omega)]
    exact World.cell?_of_block (hold.block _ hx (by simp))
  have hM : ∀ k', ((W.drewN k).setCells (w.heap.size + 1 + 1) 0 (regCells x0 x1 x2 x3 x4 x5 x6 x7)).cell? ⟨w.heap.size + 1 + 1 + 1, k', none⟩ = #[Value.slice ar nr cr, .slice af nf cf, .slice aa na ca, .slice (some ⟨w.heap.size + 1 + 1, 0, none⟩) n n, .int .u64 0, .int .u64 0, .int .u64 0, .int .u64 0, .int .u64 0, .int .u64 0, .int .u64 0, .int .u64 0, .slice none 0 0][k']? := fun k' => by
    rw [hfar _ (by show ¬ w.heap.size + 1 + 1 + 1 = _; omega)]; exact hmach k'
  have hlen : (machine0 x0 x1 x2 x3 x4 x5 x6 x7 n).slots.length = n := by simp [machine0]; omega
  have hget : ∀ j, j < n → (machine0 x0 x1 x2 x3 x4 x5 x6 x7 n).slots.getD j 0 = [x0, x1, x2, x3, x4, x5, x6, x7].getD j 0 := fun j hj => by
    simp only [machine0, List.getD_eq_getElem?_getD]
    by_cases h : j < 8
    · rw [List.getElem?_append_left (by simpa using h)]
    · rw [List.getElem?_append_right (by simp; omega)]
      simp [List.getElem?_replicate]
      split <;> simp_all
  have hsz2 : ((W.drewN k).setCells (w.heap.size + 1 + 1) 0 (regCells x0 x1 x2 x3 x4 x5 x6 x7)).heap.size = w.heap.size + 4 := by
    simp [regCells, World.setCells, hsz]
  refine ⟨⟨?_, ?_, ?_, hg.maxRoads, hg.maxFresh, hg.maxAgain, hg.ids, hv.rng⟩, by omega, by omega, by omega, by omega, by omega, by omega, ?_, ?_, ?_, ?_, ?_, by simp [machine0], ?_, ?_, ?_, ?_, ?_, hB⟩
  · refine ⟨ar, cr, by rw [hM 0, ← hv.lenR]; rfl, fun i r hr => ?_⟩
    obtain ⟨b, o, e, hb, hp⟩ := hv.roads i r hr
    exact ⟨b, o, e, hb, hp.keep hb (fun x hx => hOld x (by omega))⟩
  · refine ⟨af, cf, by rw [hM 1, ← hv.lenF]; rfl, fun i r hr => ?_⟩
    obtain ⟨b, o, e, hb, hp⟩ := hv.fresh i r hr
    exact ⟨b, o, e, hb, hp.keep hb (fun x hx => hOld x (by omega))⟩
  · refine ⟨aa, ca, by rw [hM 2, ← hv.lenA]; rfl, fun i r hr => ?_⟩
    obtain ⟨b, o, e, hb, hp⟩ := hv.again i r hr
    exact ⟨b, o, e, hb, hp.keep hb (fun x hx => hOld x (by omega))⟩
  · rw [hM 3, hlen]; rfl
  · intro j hj
    rw [hlen] at hj
    rw [hget j hj]
    by_cases h : j < 8
    · have := World.cell?_setCells_in (w.heap.size + 1 + 1) (regCells x0 x1 x2 x3 x4 x5 x6 x7) 0 (W.drewN k) (fun j' hj' => by
        rw [hlenr] at hj'
        rw [World.cell?_drewN, Nat.zero_add, hslot, made_get n j' (by omega)]; rfl) j (by rw [hlenr]; exact h)
      rw [Nat.zero_add] at this
      rw [this, regCells_at]
    · rw [World.cell?_setCells_out _ _ _ _ _ (fun _ _ => Or.inr (by rw [hlenr]; show 0 + 8 ≤ j; omega)), World.cell?_drewN, hslot, made_get n j hj]
      simp [List.getD_eq_getElem?_getD, List.getElem?_eq_none (show [x0, x1, x2, x3, x4, x5, x6, x7].length ≤ j by simp; omega)]
  · intro j _; rw [hfr]; exact hslotF j
  · intro j hj
    rw [hM, left_at _ _ _ _ _ j hj]
    exact congrArg (fun z => some (Value.int .u64 z)) (zeros_at j 8).symm
  · intro j _; rw [hfr]; exact hmachF _
  · exact ⟨.slice none 0 0, by rw [hM]; rfl, World.ownsRow_nil _ _ _ _⟩
  · rw [hfr]; exact hmachF _
  · intro j
    by_cases h : j < n
    · rw [hget j h, List.getD_eq_getElem?_getD]
      cases hq : [x0, x1, x2, x3, x4, x5, x6, x7][j]? with
      | none => exact Hx.in_zero
      | some y => exact hx y (List.mem_of_getElem? hq)
    · rw [List.getD_eq_getElem?_getD, List.getElem?_eq_none (by omega)]; exact Hx.in_zero
  · intro j
    have : (machine0 x0 x1 x2 x3 x4 x5 x6 x7 n).left.getD j 0 = 0 := zeros_at j 8
    rw [this]; omega
  · intro j hj
    rw [hOld _ (by show 1 < _; omega)]; exact hT j hj

theorem new_any (ar af aa : Option Addr) (nr cr nf cf na ca : Nat) (x0 x1 x2 x3 x4 x5 x6 x7 : Int) (n : Nat) (w : World) (hn : n ≤ 100000) (h8 : 8 ≤ n) :
    Calls Tryz.prog 49 #[.agg #[.slice ar nr cr, .slice af nf cf, .slice aa na ca], .agg #[.int .i64 x0, .int .i64 x1, .int .i64 x2, .int .i64 x3, .int .i64 x4, .int .i64 x5, .int .i64 x6, .int .i64 x7], .int .i64 n] w fun e w' =>
      e = .returned (.pointer (some ⟨w.heap.size + 1 + 1 + 1, 0, none⟩)) ∧ Below w.heap.size w w' ∧
      (∀ B v, 1 < B → B ≤ w.heap.size → Tab64 w → ViewV B w ar af aa nr nf na v → Good v → (∀ x ∈ [x0, x1, x2, x3, x4, x5, x6, x7], In64 x) →
        MachIn B (w.heap.size + 4) w' (w.heap.size + 1 + 1 + 1) (w.heap.size + 1 + 1) v (machine0 x0 x1 x2 x3 x4 x5 x6 x7 n)) := by
  refine (new_walk ar af aa nr cr nf cf na ca x0 x1 x2 x3 x4 x5 x6 x7 n w hn h8).mono ?_
  rintro e w' ⟨rfl, k, rfl⟩
  refine ⟨rfl, ?_, fun B v h1 h2 h3 h4 h5 h6 => newWorld_in h1 h2 h3 h4 h5 x0 x1 x2 x3 x4 x5 x6 x7 n h8 h6 k⟩
  have h1 : Below w.heap.size w (newWorld w ar af aa nr cr nf cf na ca x0 x1 x2 x3 x4 x5 x6 x7 n (madeCells #[.int .i64 0] n)) := (Below.refl _ _).grown (newWorld_old ..) (Nat.le_refl _) (by simp)
  have h2 := below_drewN h1 k
  simp only [regCells, World.setCells]
  repeat (refine Below.setCell ?_ (by show w.heap.size ≤ w.heap.size + 1 + 1; omega) _)
  exact h2
end Go.Proofs.YthllhabjfchgiaaGreatDoor

/- Arguments as the row's reader reads them: slices of roads and of packets, an array of ints. -/
namespace Go.Proofs.YthllhabjfchgiaaGreatDoor
open Go.ChangeShapes Go.WideShapes Go.Deep
section
variable {H : Type} {enc : TypeId × Value → H} {P : Program} {w : World} {base : Nat} {spare : Nat → Bool} {held : Bool}

/-- A slice of structs whose fields are one cell each: each field of each element lies in its cell and reads. -/
theorem struct_slice {t e : TypeId} {fs : Array Field} {fuel : Nat} {cs : List Value} {x : DataW H × List MemPlace} (ht : P.underlying t = some (.slice e)) (he : P.underlying e = some (.struct fs))
    (hone : ∀ (i : Nat) (f : Field), fs[i]? = some f → f.offset = i ∧ P.cellsOf f.type = 1) (ce : P.cellsOf e = fs.size) (h : DataW.trod enc P w base spare held fuel t cs = some x) :
    cs = [.slice none 0 0] ∨ ∃ (a : Addr) (len cap : Nat), cs = [.slice (some a) len cap] ∧ len ≤ cap ∧ cap ≤ maxLen ∧
      ∀ i, i < len → ∀ (j : Nat) (f : Field), fs[j]? = some f → ∃ v y n, w.cell? (a.add (i * fs.size + j)) = some v ∧ DataW.trod enc P w base spare held n f.type [v] = some y := by
  rcases open_slice ht h with ⟨h0, _⟩ | ⟨a, len, cap, m, n, D, Pl, rfl, hb, hl, hm, hmm, rfl, hx⟩
  · exact Or.inl h0
  refine Or.inr ⟨a, len, cap, rfl, hl, hm, fun i hi j f hf => ?_⟩
  have hlm : len ≤ m := by rw [hmm]; split <;> omega
  obtain ⟨cs', h1, h2⟩ := hx i (by omega)
  rw [ce] at h1
  obtain ⟨_, hlen, hcell⟩ := World.cells?_some h1
  obtain ⟨xs, k, hk, hxy, _, hxl, hg⟩ := DataW.trod_struct he h2
  obtain ⟨o1, c1⟩ := hone j f hf
  have hj : j < fs.size := (Array.getElem?_eq_some_iff.1 hf).1
  have g := hg j f hf
  rw [o1, c1, take1_drop cs' j (.bool false) (by omega), List.getElem?_eq_getElem (by omega)] at g
  have e1 := hcell j (by omega)
  rw [add_add, List.getElem?_eq_getElem (by omega)] at e1
  refine ⟨cs'.getD j (.bool false), xs[j], k, ?_, g⟩
  rw [e1]; simp [List.getD, List.getElem?_eq_getElem (show j < cs'.length by omega)]

theorem in64_of_wf {n : Int} (h : (Lit.int .i64 n).wf = true) : Hx.In64 n := bounds_i64 h

theorem roads_of {t e : TypeId} {f0 f1 f2 f3 f4 : Field} {fuel : Nat} {cs : List Value} {x : DataW H × List MemPlace} (ht : P.underlying t = some (.slice e)) (he : P.underlying e = some (.struct #[f0, f1, f2, f3, f4]))
    (hone : oneCellFields P #[f0, f1, f2, f3, f4] = true) (ce : P.cellsOf e = 5) (i0 : P.underlying f0.type = some (.int .i64)) (i1 : P.underlying f1.type = some (.int .i64)) (i2 : P.underlying f2.type = some (.int .i64))
    (i3 : P.underlying f3.type = some (.int .i64)) (i4 : P.underlying f4.type = some .bool) (h : DataW.trod enc P w base spare held fuel t cs = some x) :
    ∃ (a : Option Addr) (len cap : Nat) (rs : List Hx.Rd), cs = [.slice a len cap] ∧ len ≤ maxLen ∧ rs.length = len ∧ RoadsAt w.heap.size w a rs ∧ ∀ r ∈ rs, Hx.In64 r.id ∧ Hx.In64 r.rtt ∧ Hx.In64 r.cwnd ∧ Hx.In64 r.out := by
  rcases struct_slice ht he (hone_of hone) ce h with rfl | ⟨a, len, cap, rfl, hl, hm, hx⟩
  · exact ⟨none, 0, 0, [], rfl, Nat.zero_le _, rfl, fun i r hr => by simp at hr, fun r hr => by simp at hr⟩
  have each : ∀ i, i < len → ∃ r : Hx.Rd, (w.cell? (a.add (i * 5)) = some (.int .i64 r.id) ∧ w.cell? (a.add (i * 5 + 1)) = some (.int .i64 r.rtt) ∧ w.cell? (a.add (i * 5 + 2)) = some (.int .i64 r.cwnd) ∧ w.cell? (a.add (i * 5 + 3)) = some (.int .i64 r.out) ∧ w.cell? (a.add (i * 5 + 4)) = some (.bool r.lossy)) ∧
      Hx.In64 r.id ∧ Hx.In64 r.rtt ∧ Hx.In64 r.cwnd ∧ Hx.In64 r.out := by
    intro i hi
    obtain ⟨v0, y0, n0, c0, t0⟩ := hx i hi 0 f0 rfl
    obtain ⟨v1, y1, n1, c1, t1⟩ := hx i hi 1 f1 rfl
    obtain ⟨v2, y2, n2, c2, t2⟩ := hx i hi 2 f2 rfl
    obtain ⟨v3, y3, n3, c3, t3⟩ := hx i hi 3 f3 rfl
    obtain ⟨v4, y4, n4, c4, t4⟩ := hx i hi 4 f4 rfl
    obtain ⟨z0, e0, _, r0⟩ := DataW.trod_int i0 t0
    obtain ⟨z1, e1, _, r1⟩ := DataW.trod_int i1 t1
    obtain ⟨z2, e2, _, r2⟩ := DataW.trod_int i2 t2
    obtain ⟨z3, e3, _, r3⟩ := DataW.trod_int i3 t3
    obtain ⟨z4, e4, _⟩ := DataW.trod_bool i4 t4
    cases e0; cases e1; cases e2; cases e3; cases e4
    exact ⟨⟨z0, z1, z2, z3, z4⟩, ⟨c0, c1, c2, c3, c4⟩, in64_of_wf r0, in64_of_wf r1, in64_of_wf r2, in64_of_wf r3⟩
  haveI : Inhabited Hx.Rd := ⟨⟨0, 0, 0, 0, false⟩⟩
  obtain ⟨g, hg⟩ := choose_lt each
  refine ⟨some a, len, cap, (List.range len).map g, rfl, by omega, by simp, ?_, ?_⟩
  · intro i r hr
    simp only [List.getElem?_map, Option.map_eq_some_iff] at hr
    obtain ⟨k, hk, rfl⟩ := hr
    obtain ⟨hi, rfl⟩ : i < len ∧ i = k := by
      obtain ⟨h1, h2⟩ := List.getElem?_eq_some_iff.1 hk
      simp at h1 h2
      exact ⟨h1, h2⟩
    obtain ⟨⟨c0, c1, c2, c3, c4⟩, _⟩ := hg i hi
    obtain ⟨b, o, spot⟩ := a
    have hspot : spot = none := by simpa [Addr.add] using World.cell?_spot (hg 0 (by omega)).1.1
    subst hspot
    have hb := World.block_lt_of_cell? w _ c0
    rw [add_plain] at c0 c1 c2 c3 c4 hb
    exact ⟨b, o, rfl, hb, _, _, rfl, c0, by simpa [Nat.add_assoc] using c1, by simpa [Nat.add_assoc] using c2, by simpa [Nat.add_assoc] using c3, by simpa [Nat.add_assoc] using c4⟩
  · intro r hr
    obtain ⟨k, hk, rfl⟩ := List.mem_map.1 hr
    exact (hg k (List.mem_range.1 hk)).2

theorem packs_of {t e : TypeId} {f0 f1 f2 : Field} {fuel : Nat} {cs : List Value} {x : DataW H × List MemPlace} (ht : P.underlying t = some (.slice e)) (he : P.underlying e = some (.struct #[f0, f1, f2]))
    (hone : oneCellFields P #[f0, f1, f2] = true) (ce : P.cellsOf e = 3) (i0 : P.underlying f0.type = some (.int .i64)) (i1 : P.underlying f1.type = some (.int .i64)) (i2 : P.underlying f2.type = some (.int .i64))
    (h : DataW.trod enc P w base spare held fuel t cs = some x) :
    ∃ (a : Option Addr) (len cap : Nat) (rs : List Hx.Pk), cs = [.slice a len cap] ∧ len ≤ maxLen ∧ rs.length = len ∧ PacksAt w.heap.size w a rs ∧ ∀ r ∈ rs, Hx.In64 r.seq ∧ Hx.In64 r.size ∧ Hx.In64 r.on := by
  rcases struct_slice ht he (hone_of hone) ce h with rfl | ⟨a, len, cap, rfl, hl, hm, hx⟩
  · exact ⟨none, 0, 0, [], rfl, Nat.zero_le _, rfl, fun i r hr => by simp at hr, fun r hr => by simp at hr⟩
  have each : ∀ i, i < len → ∃ r : Hx.Pk, (w.cell? (a.add (i * 3)) = some (.int .i64 r.seq) ∧ w.cell? (a.add (i * 3 + 1)) = some (.int .i64 r.size) ∧ w.cell? (a.add (i * 3 + 2)) = some (.int .i64 r.on)) ∧
      Hx.In64 r.seq ∧ Hx.In64 r.size ∧ Hx.In64 r.on := by
    intro i hi
    obtain ⟨v0, y0, n0, c0, t0⟩ := hx i hi 0 f0 rfl
    obtain ⟨v1, y1, n1, c1, t1⟩ := hx i hi 1 f1 rfl
    obtain ⟨v2, y2, n2, c2, t2⟩ := hx i hi 2 f2 rfl
    obtain ⟨z0, e0, _, r0⟩ := DataW.trod_int i0 t0
    obtain ⟨z1, e1, _, r1⟩ := DataW.trod_int i1 t1
    obtain ⟨z2, e2, _, r2⟩ := DataW.trod_int i2 t2
    cases e0; cases e1; cases e2
    exact ⟨⟨z0, z1, z2⟩, ⟨c0, c1, c2⟩, in64_of_wf r0, in64_of_wf r1, in64_of_wf r2⟩
  haveI : Inhabited Hx.Pk := ⟨⟨0, 0, 0⟩⟩
  obtain ⟨g, hg⟩ := choose_lt each
  refine ⟨some a, len, cap, (List.range len).map g, rfl, by omega, by simp, ?_, ?_⟩
  · intro i r hr
    simp only [List.getElem?_map, Option.map_eq_some_iff] at hr
    obtain ⟨k, hk, rfl⟩ := hr
    obtain ⟨hi, rfl⟩ : i < len ∧ i = k := by
      obtain ⟨h1, h2⟩ := List.getElem?_eq_some_iff.1 hk
      simp at h1 h2
      exact ⟨h1, h2⟩
    obtain ⟨⟨c0, c1, c2⟩, _⟩ := hg i hi
    obtain ⟨b, o, spot⟩ := a
    have hspot : spot = none := by simpa [Addr.add] using World.cell?_spot (hg 0 (by omega)).1.1
    subst hspot
    have hb := World.block_lt_of_cell? w _ c0
    rw [add_plain] at c0 c1 c2 hb
    exact ⟨b, o, rfl, hb, _, _, rfl, c0, by simpa [Nat.add_assoc] using c1, by simpa [Nat.add_assoc] using c2⟩
  · intro r hr
    obtain ⟨k, hk, rfl⟩ := List.mem_map.1 hr
    exact (hg k (List.mem_range.1 hk)).2

/-- an array of ints -/
theorem ints_of {t e : TypeId} {n fuel : Nat} {cs : List Value} {x : DataW H × List MemPlace} (ht : P.underlying t = some (.array n e)) (he : P.underlying e = some (.int .i64)) (hce : P.cellsOf e = 1) (hct : P.cellsOf t = n)
    (h : DataW.trod enc P w base spare held fuel t cs = some x) : ∃ zs : List Int, cs = zs.map (Value.int .i64) ∧ zs.length = n ∧ ∀ z ∈ zs, Hx.In64 z := by
  obtain ⟨xs, m, _, _, hl, hxl, hel⟩ := DataW.trod_array ht h
  have each : ∀ i, i < n → ∃ z : Int, cs[i]? = some (.int .i64 z) ∧ Hx.In64 z := by
    intro i hi
    have g := hel i hi
    rw [hce, Nat.mul_one, take1_drop cs i (.bool false) (by omega), List.getElem?_eq_getElem (by omega)] at g
    obtain ⟨z, e0, _, r0⟩ := DataW.trod_int he g
    refine ⟨z, ?_, in64_of_wf r0⟩
    have hi' : i < cs.length := by omega
    simp only [List.getD, List.getElem?_eq_getElem hi', Option.getD_some, List.cons.injEq, and_true] at e0
    rw [List.getElem?_eq_getElem hi', e0]
  obtain ⟨g, hg⟩ := choose_lt each
  refine ⟨(List.range n).map g, ?_, by simp, ?_⟩
  · apply List.ext_getElem?
    intro i
    by_cases hi : i < n
    · rw [(hg i hi).1]; simp [hi]
    · rw [List.getElem?_eq_none (by omega), List.getElem?_eq_none (by simp; omega)]
  · intro z hz
    obtain ⟨k, hk, rfl⟩ := List.mem_map.1 hz
    exact (hg k (List.mem_range.1 hk)).2

/-- a view -/
theorem view_of {t : TypeId} {f0 f1 f2 : Field} {tr tp er ep : TypeId} {r0 r1 r2 r3 r4 p0 p1 p2 : Field} {fuel : Nat} {cs : List Value} {x : DataW H × List MemPlace}
    (ht : P.underlying t = some (.struct #[f0, f1, f2])) (hone : oneCellFields P #[f0, f1, f2] = true) (ct : P.cellsOf t = 3) (k0 : f0.type = tr) (k1 : f1.type = tp) (k2 : f2.type = tp)
    (hr : P.underlying tr = some (.slice er)) (her : P.underlying er = some (.struct #[r0, r1, r2, r3, r4])) (oner : oneCellFields P #[r0, r1, r2, r3, r4] = true) (cr : P.cellsOf er = 5)
    (i0 : P.underlying r0.type = some (.int .i64)) (i1 : P.underlying r1.type = some (.int .i64)) (i2 : P.underlying r2.type = some (.int .i64)) (i3 : P.underlying r3.type = some (.int .i64)) (i4 : P.underlying r4.type = some .bool)
    (hp : P.underlying tp = some (.slice ep)) (hep : P.underlying ep = some (.struct #[p0, p1, p2])) (onep : oneCellFields P #[p0, p1, p2] = true) (cp : P.cellsOf ep = 3)
    (j0 : P.underlying p0.type = some (.int .i64)) (j1 : P.underlying p1.type = some (.int .i64)) (j2 : P.underlying p2.type = some (.int .i64))
    (h : DataW.trod enc P w base spare held fuel t cs = some x) :
    ∃ (ar af aa : Option Addr) (nr cr nf cf na ca : Nat) (v : Hx.Vw), cs = [.slice ar nr cr, .slice af nf cf, .slice aa na ca] ∧ ViewV w.heap.size w ar af aa nr nf na v ∧ nr ≤ maxLen := by
  obtain ⟨y0, y1, y2, n, _, hl, t0, t1, t2⟩ := trod_struct3 ht h
  obtain ⟨o0, c0⟩ := hone_of hone 0 f0 rfl
  obtain ⟨o1, c1⟩ := hone_of hone 1 f1 rfl
  obtain ⟨o2, c2⟩ := hone_of hone 2 f2 rfl
  subst k0 k1
  rw [ct] at hl
  match cs, hl with
  | [x0, x1, x2], _ =>
    simp only [o0, c0, List.drop_zero, List.take_succ_cons, List.take_zero] at t0
    simp only [o1, c1, List.drop_succ_cons, List.drop_zero, List.take_succ_cons, List.take_zero] at t1
    rw [k2] at c2 t2
    simp only [o2, c2, List.drop_succ_cons, List.drop_zero, List.take_succ_cons, List.take_zero] at t2
    obtain ⟨ar, nr, kr, rs, e0, lr, hrl, hra, hrr⟩ := roads_of hr her oner cr i0 i1 i2 i3 i4 t0
    obtain ⟨af, nf, kf, fs, e1, lf, hfl, hfa, hfr⟩ := packs_of hp hep onep cp j0 j1 j2 t1
    obtain ⟨aa, na, ka, gs, e2, la, hgl, hga, hgr⟩ := packs_of hp hep onep cp j0 j1 j2 t2
    cases e0; cases e1; cases e2
    exact ⟨ar, af, aa, nr, kr, nf, kf, na, ka, ⟨rs, fs, gs⟩, rfl, ⟨hra, hfa, hga, hrl.symm, hfl.symm, hgl.symm, ⟨hrr, hfr, hgr⟩⟩, lr⟩

theorem okWide_array {t e : TypeId} {n b0 : Nat} {r : Reach} {v : Value} (ht : P.underlying t = some (.array n e)) (h : Value.okWide P w r b0 t v) : ∃ cs, v = .agg cs ∧ cs.size = P.cellsOf t := by
  simp only [Value.okWide, ht] at h
  obtain ⟨cs, h1, h2, _⟩ := h
  exact ⟨cs, h1, h2⟩
end
end Go.Proofs.YthllhabjfchgiaaGreatDoor

/- PLAIN FUNCTIONS: runs of code. -/
namespace Go.Proofs.YthllhabjfchgiaaGreatDoor.Hx
open Go.RowKit

/-- (*machine).push: nothing, if there is no room -/
def push (v : Vw) (i j : Int) (m : Mc) : Option Mc :=
  match v.road i, v.packet j with
  | some r, some p => if m.acts.length = 256 then none else some { m with acts := m.acts ++ [(r.id, p.seq)] }
  | _, _ => some m

end Go.Proofs.YthllhabjfchgiaaGreatDoor.Hx

/- PLAIN FUNCTIONS: a run of steps. -/
namespace Go.Proofs.YthllhabjfchgiaaGreatDoor.Hx
open Go.RowKit

structure Out where
  status : Int
  regs : List Int
  acts : List (Int × Int)

/-- one step: the machine and the step that is next, or how the run ends -/
def step (v : Vw) (steps : List St) (regs : List Int) (k : Nat) (s : St) (m : Mc) : Out ⊕ (Int × Mc) :=
  if s.op = 1 then .inl ⟨0, m.slots, m.acts⟩
  else if s.op = 2 then .inr (if m.get s.a = 0 then s.to else k + 1, m)
  else if s.op = 3 then .inr (s.to, m)
  else if s.op = 4 then .inr ((turn s k (begins v s m)).2, (turn s k (begins v s m)).1)
  else if s.op = 5 then (if m.get s.a = 0 then match steps[s.to.toNat]? with
      | some l => .inr ((turn l s.to m).2, (turn l s.to m).1)
      | none => .inl ⟨2, regs, []⟩
    else .inr (k + 1, m))
  else if s.op = 0 then match steps[s.to.toNat]? with
    | some l => .inr ((turn l s.to m).2, (turn l s.to m).1)
    | none => .inl ⟨2, regs, []⟩
  else if s.op = 36 then match push v (m.get s.a) (m.get s.b) m with
    | none => .inl ⟨1, regs, []⟩
    | some m' => .inr (k + 1, m')
  else .inr (k + 1, work v s m)

def runs (v : Vw) (steps : List St) (regs : List Int) : Nat → Int → Mc → Out
  | 0, _, _ => ⟨2, regs, []⟩
  | f + 1, k, m => match steps[k.toNat]? with
    | none => ⟨2, regs, []⟩
    | some s => match step v steps regs k.toNat s m with
      | .inl o => o
      | .inr (k', m') => runs v steps regs f k' m'

def isLoop (steps : List St) (n : Nat) (x : Int) : Prop :=
  ∃ l, 0 ≤ x ∧ steps[x.toNat]? = some l ∧ x + 1 < steps.length ∧ 0 ≤ l.to ∧ l.to < steps.length ∧ St.slot n l.b ∧ 0 ≤ l.depth ∧ l.depth < 8

/-- a step that leads to steps that there are, with slots that there are -/
structure St.fits (steps : List St) (n : Nat) (k : Nat) (s : St) : Prop where
  u8 : 0 ≤ s.op ∧ s.op ≤ 255
  next : ¬ s.op = 1 → ¬ s.op = 3 → ¬ s.op = 0 → k + 1 < steps.length
  ifs : s.op = 2 → St.slot n s.a ∧ 0 ≤ s.to ∧ s.to < steps.length
  elses : s.op = 3 → 0 ≤ s.to ∧ s.to < steps.length
  loops : s.op = 4 → 0 ≤ s.to ∧ s.to < steps.length ∧ St.slot n s.b ∧ St.slot n s.c ∧ 0 ≤ s.depth ∧ s.depth < 8
  skips : s.op = 5 → St.slot n s.a ∧ isLoop steps n s.to
  ends : s.op = 0 → isLoop steps n s.to
  pushes : s.op = 36 → St.slot n s.a ∧ St.slot n s.b
  works : ¬ s.op = 1 → ¬ s.op = 2 → ¬ s.op = 3 → ¬ s.op = 4 → ¬ s.op = 5 → ¬ s.op = 0 → ¬ s.op = 36 → s.worksIn n

/-- code that was looked over -/
structure Fits (steps : List St) (n : Nat) : Prop where
  pos : 0 < steps.length
  len : steps.length ≤ 1000000
  each : ∀ (k : Nat) (s : St), steps[k]? = some s → s.fits steps n k
end Go.Proofs.YthllhabjfchgiaaGreatDoor.Hx
