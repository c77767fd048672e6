import Derived.Test.YthllhabjfchgiaaGreatDoorHy20
import Derived.ChangeKeysEq
/- Package helmkeep: what viewOf gives is a view; its rows as a view in memory. -/
namespace Go.Proofs.YthllhabjfchgiaaGreatDoor
open Go.RowKit
open Hx (Rd Pk Vw St Mc In64)
variable {w : World}

theorem seen_bits : ∀ (s : Fin 256) (i k : Fin 8), (let t := bits .or .i64 (s.val : Int) (wrap64 (2 ^ i.val)); decide (0 ≤ t) && decide (t < 256) && (Hx.hasBit t (k.val : Int) == (Hx.hasBit (s.val : Int) (k.val : Int) || decide (k = i)))) = true := by
  decide +kernel

theorem seen_next (s i : Int) (s0 : 0 ≤ s) (s1 : s < 256) (i0 : 0 ≤ i) (i1 : i < 8) :
    0 ≤ bits .or .i64 s (wrap64 (2 ^ i.toNat)) ∧ bits .or .i64 s (wrap64 (2 ^ i.toNat)) < 256 ∧ ∀ k : Int, 0 ≤ k → k < 8 → Hx.hasBit (bits .or .i64 s (wrap64 (2 ^ i.toNat))) k = (Hx.hasBit s k || decide (k = i)) := by
  have key := seen_bits ⟨s.toNat, by omega⟩ ⟨i.toNat, by omega⟩
  have es : ((s.toNat : Nat) : Int) = s := by omega
  simp only [es, Bool.and_eq_true, decide_eq_true_eq, beq_iff_eq] at key
  refine ⟨(key ⟨0, by omega⟩).1.1, (key ⟨0, by omega⟩).1.2, fun k k0 k1 => ?_⟩
  have h := (key ⟨k.toNat, by omega⟩).2
  have ek : ((k.toNat : Nat) : Int) = k := by omega
  simp only [ek] at h
  rw [h]
  congr 1
  simp only [Fin.mk.injEq, decide_eq_decide]
  omega

theorem idsOk_of : ∀ (rs : List Rd) (seen : Int), 0 ≤ seen → seen < 256 → (∀ r ∈ rs, 0 ≤ r.id ∧ r.id < 8 ∧ Hx.hasBit seen r.id = false) → rs.Pairwise (fun a b => a.id ≠ b.id) → idsOk seen rs = true
  | [], _, _, _, _, _ => rfl
  | q :: rs, seen, h0, h1, h2, h3 => by
    obtain ⟨q0, q1, q2⟩ := h2 q (by simp)
    unfold idsOk
    rw [if_neg (by rw [q2]; simp; omega)]
    obtain ⟨t0, t1, t2⟩ := seen_next seen q.id h0 h1 q0 q1
    rw [List.pairwise_cons] at h3
    refine idsOk_of rs _ t0 t1 (fun r hr => ?_) h3.2
    obtain ⟨r0, r1, r2⟩ := h2 r (by simp [hr])
    refine ⟨r0, r1, ?_⟩
    rw [t2 r.id r0 r1, r2]
    have := h3.1 r hr
    simp; omega

theorem hasBit_zero (k : Int) (h0 : 0 ≤ k) (h1 : k < 8) : Hx.hasBit 0 k = false := by
  have : ∀ i : Fin 8, Hx.hasBit 0 (i.val : Int) = false := by decide +kernel
  have h := this ⟨k.toNat, by omega⟩
  have ek : ((k.toNat : Nat) : Int) = k := by omega
  simpa [ek] using h

structure RoadsOk (out : List Rd) : Prop where
  len : out.length ≤ 8
  ids : ∀ r ∈ out, 0 ≤ r.id ∧ r.id < 8
  diff : out.Pairwise (fun a b => a.id ≠ b.id)
  rng : ∀ r ∈ out, In64 r.id ∧ In64 r.rtt ∧ In64 r.cwnd ∧ In64 r.out

theorem addRoads_ok : ∀ (rs out : List Rd), RoadsOk out → (∀ r ∈ rs, In64 r.id ∧ In64 r.rtt ∧ In64 r.cwnd ∧ In64 r.out) → RoadsOk (addRoads out rs)
  | [], out, h, _ => h
  | r :: rs, out, h, hr => by
    unfold addRoads
    split
    · rename_i hl
      refine addRoads_ok rs _ ?_ (fun q hq => hr q (by simp [hq]))
      split
      · exact h
      · rename_i hn
        obtain ⟨p0, p1⟩ := pickN_bd (c := r.id) (n := 8) (by omega)
        have hn' : ∀ q ∈ out, ¬ q.id = pickN r.id 8 := by simpa using hn
        have hr0 := hr r (by simp)
        refine ⟨by simp; omega, fun q hq => ?_, ?_, fun q hq => ?_⟩
        · rcases List.mem_append.1 hq with hq | hq
          · exact h.ids q hq
          · simp at hq; subst hq; exact ⟨p0, p1⟩
        · rw [List.pairwise_append]
          refine ⟨h.diff, by simp, fun a ha b hb => ?_⟩
          simp at hb; subst hb
          exact hn' a ha
        · rcases List.mem_append.1 hq with hq | hq
          · exact h.rng q hq
          · simp at hq; subst hq
            exact ⟨⟨by show _ ≤ pickN r.id 8; omega, by show pickN r.id 8 ≤ _; omega⟩, hr0.2⟩
    · exact h

theorem viewOut_roads (v : Vw) (h : v.inRange) : RoadsOk (addRoads [] v.roads) := addRoads_ok _ _ ⟨by simp, by simp, by simp, by simp⟩ h.roads

theorem viewOut_ok (v : Vw) (h : v.inRange) : viewOk (viewOut v) = true := by
  have hr := viewOut_roads v h
  simp only [viewOk, viewOut, Bool.and_eq_true]
  refine ⟨⟨⟨decide_eq_true hr.len, decide_eq_true (by simp; omega)⟩, decide_eq_true (by simp; omega)⟩, idsOk_of _ 0 (by omega) (by omega) (fun r hr' => ?_) hr.diff⟩
  have := hr.ids r hr'
  exact ⟨this.1, this.2, hasBit_zero _ this.1 this.2⟩

theorem viewOut_rng (v : Vw) (h : v.inRange) : (viewOut v).inRange :=
  ⟨(viewOut_roads v h).rng, fun p hp => h.fresh p (List.mem_of_mem_take hp), fun p hp => h.again p (List.mem_of_mem_take hp)⟩

theorem roadCells_at : ∀ (l : List Rd) (i : Nat) (r : Rd), l[i]? = some r → (roadCells l)[i * 5]? = some (.int .i64 r.id) ∧ (roadCells l)[i * 5 + 1]? = some (.int .i64 r.rtt) ∧ (roadCells l)[i * 5 + 2]? = some (.int .i64 r.cwnd) ∧ (roadCells l)[i * 5 + 3]? = some (.int .i64 r.out) ∧ (roadCells l)[i * 5 + 4]? = some (.bool r.lossy)
  | [], i, r, h => by simp at h
  | q :: l, 0, r, h => by
    simp at h; subst h
    simp [roadCells]
  | q :: l, i + 1, r, h => by
    have ih := roadCells_at l i r (by simpa using h)
    have e : roadCells (q :: l) = .int .i64 q.id :: .int .i64 q.rtt :: .int .i64 q.cwnd :: .int .i64 q.out :: .bool q.lossy :: roadCells l := by simp [roadCells]
    rw [e, show (i + 1) * 5 = i * 5 + 1 + 1 + 1 + 1 + 1 by omega]
    refine ⟨ih.1, ?_, ?_, ?_, ?_⟩
    · rw [show i * 5 + 1 + 1 + 1 + 1 + 1 + 1 = (i * 5 + 1) + 1 + 1 + 1 + 1 + 1 by omega]; exact ih.2.1
    · rw [show i * 5 + 1 + 1 + 1 + 1 + 1 + 2 = (i * 5 + 2) + 1 + 1 + 1 + 1 + 1 by omega]; exact ih.2.2.1
    · rw [show i * 5 + 1 + 1 + 1 + 1 + 1 + 3 = (i * 5 + 3) + 1 + 1 + 1 + 1 + 1 by omega]; exact ih.2.2.2.1
    · rw [show i * 5 + 1 + 1 + 1 + 1 + 1 + 4 = (i * 5 + 4) + 1 + 1 + 1 + 1 + 1 by omega]; exact ih.2.2.2.2

theorem packCells_at : ∀ (l : List Pk) (i : Nat) (r : Pk), l[i]? = some r → (packCells l)[i * 3]? = some (.int .i64 r.seq) ∧ (packCells l)[i * 3 + 1]? = some (.int .i64 r.size) ∧ (packCells l)[i * 3 + 2]? = some (.int .i64 r.on)
  | [], i, r, h => by simp at h
  | q :: l, 0, r, h => by
    simp at h; subst h
    simp [packCells]
  | q :: l, i + 1, r, h => by
    have ih := packCells_at l i r (by simpa using h)
    have e : packCells (q :: l) = .int .i64 q.seq :: .int .i64 q.size :: .int .i64 q.on :: packCells l := by simp [packCells]
    rw [e, show (i + 1) * 3 = i * 3 + 1 + 1 + 1 by omega]
    refine ⟨ih.1, ?_, ?_⟩
    · rw [show i * 3 + 1 + 1 + 1 + 1 = (i * 3 + 1) + 1 + 1 + 1 by omega]; exact ih.2.1
    · rw [show i * 3 + 1 + 1 + 1 + 2 = (i * 3 + 2) + 1 + 1 + 1 by omega]; exact ih.2.2

/-- the cells of a row that is owned -/
theorem row_cell {B : Nat} {e : TypeId} {s n : Nat} {xs : List Value} {a : Option Addr} {l c : Nat} (h : w.ownsRow B e s (.slice a l c) n xs) {j : Nat} {u : Value} (hj : xs[j]? = some u) :
    ∃ g, a = some ⟨g, 0, none⟩ ∧ B ≤ g ∧ g < w.heap.size ∧ ∀ j u, xs[j]? = some u → w.cell? ⟨g, j, none⟩ = some u := by
  have h0 := h.2
  rcases h0 with ⟨e1, e2⟩ | ⟨g, cap, cur, e1, e2, e3, e4⟩
  · subst e2
    have h1 := h.1
    simp at h1
    rw [h1] at hj
    simp at hj
  · simp only [Value.slice.injEq] at e1
    obtain ⟨rfl, rfl, rfl⟩ := e1
    refine ⟨g, rfl, e2, (h.lt g rfl).2, fun j u hj => ?_⟩
    have := h.cells (g := g) rfl j u hj
    have e : (⟨g, 0, none⟩ : Addr).add j = ⟨g, j, none⟩ := by unfold Addr.add; split <;> simp_all
    rwa [e] at this

theorem roadsAt_row {B : Nat} {a : Option Addr} {l c : Nat} {rs : List Rd} (h : w.ownsRow B 74 5 (.slice a l c) rs.length (roadCells rs)) : RoadsAt w.heap.size w a rs := by
  intro i r hi
  obtain ⟨c1, c2, c3, c4, c5⟩ := roadCells_at rs i r hi
  obtain ⟨g, e, _, hg, hc⟩ := row_cell h c1
  refine ⟨g, 0, e, hg, g, 0 + i * 5, rfl, ?_, ?_, ?_, ?_, ?_⟩
  all_goals (simp only [Nat.zero_add]; apply hc; assumption)

theorem packsAt_row {B : Nat} {a : Option Addr} {l c : Nat} {rs : List Pk} (h : w.ownsRow B 72 3 (.slice a l c) rs.length (packCells rs)) : PacksAt w.heap.size w a rs := by
  intro i r hi
  obtain ⟨c1, c2, c3⟩ := packCells_at rs i r hi
  obtain ⟨g, e, _, hg, hc⟩ := row_cell h c1
  refine ⟨g, 0, e, hg, g, 0 + i * 3, rfl, ?_, ?_, ?_⟩
  all_goals (simp only [Nat.zero_add]; apply hc; assumption)

theorem VoOut.view {w' : World} {vr vf va : Value} {v : Vw} (h : VoOut w w' vr vf va (addRoads [] v.roads) (v.fresh.take 16) (v.again.take 16)) (hv : v.inRange) :
    ∃ ar af aa cr cf ca, vr = .slice ar (viewOut v).roads.length cr ∧ vf = .slice af (viewOut v).fresh.length cf ∧ va = .slice aa (viewOut v).again.length ca ∧ ViewV w'.heap.size w' ar af aa (viewOut v).roads.length (viewOut v).fresh.length (viewOut v).again.length (viewOut v) := by
  obtain ⟨ar, cr, rfl⟩ := slice_form h.rowR
  obtain ⟨af, cf, rfl⟩ := slice_form h.rowF
  obtain ⟨aa, ca, rfl⟩ := slice_form h.rowA
  exact ⟨ar, af, aa, cr, cf, ca, rfl, rfl, rfl, roadsAt_row h.rowR, packsAt_row h.rowF, packsAt_row h.rowA, rfl, rfl, rfl, viewOut_rng v hv⟩
end Go.Proofs.YthllhabjfchgiaaGreatDoor

/- Package helmkeep: held. -/
namespace Go.Proofs.YthllhabjfchgiaaGreatDoor
open Go.RowKit
open Hx (Rd Pk Vw St Mc In64 Out)
attribute [local go_sem ↓] Go.wp_at_zero Go.wp_at_succ
attribute [local go_sem] setCell_drewN'
variable {w : World}

theorem need_any {C : Nat} {n : Int} (h : w.cell? ⟨C, 2, none⟩ = some (.int .i64 n)) :
    Calls Tryz.prog 17 #[.pointer (some ⟨C, 0, none⟩)] w fun e w' => e = .returned (.int .i64 n) ∧ w' = w := by
  go_enter Tryz.func17, Tryz.ntmps17
  go_wp2
  go_ret
  exact ⟨rfl, rfl⟩

theorem eqItems_same (xs : Array Value) (w : World) : ∀ (is : List Nat), (∀ i ∈ is, ∃ x : Int, xs[i]? = some (.int .i64 x)) → (Op.eqItems 9999 3 1 xs xs is).run Tryz.prog w = .ok true w
  | [], _ => by simp [Op.eqItems]
  | i :: is, h => by
    obtain ⟨x, hx⟩ := h i (by simp)
    have hp : (part 3 xs (i * 1)).run Tryz.prog w = .ok (.int .i64 x) w := run_part_plain w (by kernel_rfl) (by simpa using hx)
    simp only [Op.eqItems, Sem.run_bind, hp, Result.andThen_ok, run_equalIn_int w 9998 3 .i64 .i64 x x Tryz.underlying3, beq_self_eq_true, Bool.not_true, Bool.false_eq_true, if_false]
    exact eqItems_same xs w is (fun j hj => h j (by simp [hj]))

theorem eql8 (w : World) (x0 x1 x2 x3 x4 x5 x6 x7 : Int) :
    (Op.equalIn 10000 26 (.agg #[.int .i64 x0, .int .i64 x1, .int .i64 x2, .int .i64 x3, .int .i64 x4, .int .i64 x5, .int .i64 x6, .int .i64 x7]) (.agg #[.int .i64 x0, .int .i64 x1, .int .i64 x2, .int .i64 x3, .int .i64 x4, .int .i64 x5, .int .i64 x6, .int .i64 x7])).run Tryz.prog w = .ok true w := by
  obtain ⟨i, hi⟩ : ∃ i, Tryz.prog.info? 3 = some i := Option.isSome_iff_exists.1 (by kernel_rfl)
  rw [show (10000 : Nat) = 9999 + 1 from rfl, run_equalIn_array w 9999 _ _ Tryz.underlying26 hi, show Tryz.prog.cellsOf 3 = 1 by kernel_rfl]
  refine eqItems_same _ w _ fun i hi => ?_
  have : i < 8 := by simpa using hi
  match i, this with
  | 0, _ => exact ⟨_, rfl⟩
  | 1, _ => exact ⟨_, rfl⟩
  | 2, _ => exact ⟨_, rfl⟩
  | 3, _ => exact ⟨_, rfl⟩
  | 4, _ => exact ⟨_, rfl⟩
  | 5, _ => exact ⟨_, rfl⟩
  | 6, _ => exact ⟨_, rfl⟩
  | 7, _ => exact ⟨_, rfl⟩

set_option maxRecDepth 100000 in
set_option maxHeartbeats 2000000 in
theorem held_none (ar af aa : Option Addr) (nr cr nf cf na ca ce : Nat) (ae : Option Addr) (st x0 x1 x2 x3 x4 x5 x6 x7 : Int) (hst : st = 1 ∨ st = 2) :
    Calls Tryz.prog 32 #[.agg #[.int .u8 st, .slice ae 0 ce, .int .i64 x0, .int .i64 x1, .int .i64 x2, .int .i64 x3, .int .i64 x4, .int .i64 x5, .int .i64 x6, .int .i64 x7], .agg #[.slice ar nr cr, .slice af nf cf, .slice aa na ca], .agg #[.int .i64 x0, .int .i64 x1, .int .i64 x2, .int .i64 x3, .int .i64 x4, .int .i64 x5, .int .i64 x6, .int .i64 x7]] w fun e w' => e = .returned (.bool true) ∧ Below w.heap.size w w' := by
  have HB : Hid (∀ a b c, Below w.heap.size w (((w.alloc a).alloc b).alloc c)) := fun a b c => ((Below.refl _ w).alloc (Nat.le_refl _) a).alloc (by simp) b |>.alloc (by simp; omega) c
  have e8 := fun w => eql8 w x0 x1 x2 x3 x4 x5 x6 x7
  rcases hst with rfl | rfl
  · go_enter Tryz.func32, Tryz.ntmps32
    go_wp2
    go_ret
    exact ⟨rfl, HB.out _ _ _⟩
  · go_enter Tryz.func32, Tryz.ntmps32
    go_wp2
    go_ret
    exact ⟨rfl, HB.out _ _ _⟩

theorem actCells_at : ∀ (l : List (Int × Int)) (i : Nat) (a : Int × Int), l[i]? = some a → (actCells l)[i * 2]? = some (.int .i64 a.1) ∧ (actCells l)[i * 2 + 1]? = some (.int .i64 a.2)
  | [], i, a, h => by simp at h
  | q :: l, 0, a, h => by
    simp at h; subst h
    simp [actCells]
  | q :: l, i + 1, a, h => by
    have ih := actCells_at l i a (by simpa using h)
    have e : actCells (q :: l) = .int .i64 q.1 :: .int .i64 q.2 :: actCells l := by simp [actCells]
    rw [e, show (i + 1) * 2 = i * 2 + 1 + 1 by omega]
    refine ⟨ih.1, ?_⟩
    rw [show i * 2 + 1 + 1 + 1 = (i * 2 + 1) + 1 + 1 by omega]; exact ih.2

theorem found_step {α : Type} (l : List α) (f : α → Int) (j0 : Nat) (r : α) (x : Int) (hj : l[j0]? = some r) (hr : f r = x) {kk : Nat} {bb : Bool} {h : kk < l.length} (hP : bb = true ∨ kk ≤ j0) (b' : Bool) (hb' : b' = (bb || (f l[kk] == x))) : b' = true ∨ kk + 1 ≤ j0 := by
  subst hb'
  rcases hP with rfl | hP
  · exact Or.inl (by simp)
  · by_cases e : kk = j0
    · subst e
      have : l[kk] = r := by simpa [List.getElem?_eq_getElem h] using hj
      exact Or.inl (by simp [this, hr])
    · exact Or.inr (by omega)

/-- held's three boxes -/
structure HeldIn (w W : World) (ae : Option Addr) (n ce : Nat) (ar af aa : Option Addr) (nr cr nf cf na ca : Nat) : Prop where
  below : Below w.heap.size w W
  act : W.cell? ⟨w.heap.size, 1, none⟩ = some (.slice ae n ce)
  r : W.cell? ⟨w.heap.size + 1, 0, none⟩ = some (.slice ar nr cr)
  f : W.cell? ⟨w.heap.size + 1, 1, none⟩ = some (.slice af nf cf)
  a : W.cell? ⟨w.heap.size + 1, 2, none⟩ = some (.slice aa na ca)
  size : w.heap.size + 1 < W.heap.size

theorem HeldIn.grow {W y : World} {ae ar af aa : Option Addr} {n ce nr cr nf cf na ca : Nat} (h : HeldIn w W ae n ce ar af aa nr cr nf cf na ca) (hg : W.grownBy y none) : HeldIn w y ae n ce ar af aa nr cr nf cf na ca := by
  have hs := h.size
  have hb : ∀ k, k < W.heap.size → y.heap[k]? = W.heap[k]? := fun k hk => hg.block k hk (by simp)
  have hc : ∀ p : Addr, p.block < W.heap.size → y.cell? p = W.cell? p := fun p hp => World.cell?_of_block (hb _ hp)
  have hz := hg.size
  exact ⟨h.below.trans ⟨hg.os, hg.tape, hg.output, hg.size, fun k hk => hb k (by omega)⟩, (hc _ (by show w.heap.size < _; omega)).trans h.act, (hc _ (by show w.heap.size + 1 < _; omega)).trans h.r, (hc _ (by show w.heap.size + 1 < _; omega)).trans h.f, (hc _ (by show w.heap.size + 1 < _; omega)).trans h.a, by omega⟩

theorem held_first (w : World) (ae ar af aa : Option Addr) (n ce nr cr nf cf na ca : Nat) (st : Int) (y0 y1 y2 y3 y4 y5 y6 y7 : Int) (o2 : Obj) :
    HeldIn w (((w.alloc (.cells #[.int .u8 st, .slice ae n ce, .int .i64 y0, .int .i64 y1, .int .i64 y2, .int .i64 y3, .int .i64 y4, .int .i64 y5, .int .i64 y6, .int .i64 y7] 35)).alloc (.cells #[.slice ar nr cr, .slice af nf cf, .slice aa na ca] 25)).alloc o2) ae n ce ar af aa nr cr nf cf na ca := by
  generalize ho0 : Obj.cells #[.int .u8 st, .slice ae n ce, .int .i64 y0, .int .i64 y1, .int .i64 y2, .int .i64 y3, .int .i64 y4, .int .i64 y5, .int .i64 y6, .int .i64 y7] 35 = o0
  generalize ho1 : Obj.cells #[.slice ar nr cr, .slice af nf cf, .slice aa na ca] 25 = o1
  have e : (((w.alloc o0).alloc o1).alloc o2).heap = ((w.heap.push o0).push o1).push o2 := rfl
  have s : (((w.alloc o0).alloc o1).alloc o2).heap.size = w.heap.size + 3 := by rw [e]; simp
  have g : w.grownBy (((w.alloc o0).alloc o1).alloc o2) none := ((World.grownBy_alloc w _ none).trans (World.grownBy_alloc _ _ none)).trans (World.grownBy_alloc _ _ none)
  have h0 : (((w.alloc o0).alloc o1).alloc o2).heap[w.heap.size]? = some o0 := by
    rw [e]; simp only [Array.getElem?_push, Array.size_push]; repeat (rw [if_neg (by omega)])
    exact if_pos trivial
  have h1 : (((w.alloc o0).alloc o1).alloc o2).heap[w.heap.size + 1]? = some o1 := by
    rw [e]; simp only [Array.getElem?_push, Array.size_push]; repeat (rw [if_neg (by omega)])
    exact if_pos trivial
  rw [← ho0] at h0
  rw [← ho1] at h1
  subst ho0 ho1
  exact ⟨⟨g.os, g.tape, g.output, g.size, fun k hk => g.block k hk (by simp)⟩, cell_at h0, cell_at h1, cell_at h1, cell_at h1, by omega⟩

set_option maxRecDepth 100000 in
set_option maxHeartbeats 4000000 in
theorem held_done (v : Vw) (acts : List (Int × Int)) (ha : Hx.ActsOk v acts) (ae ar af aa : Option Addr) (ce nr cr nf cf na ca B : Nat) (y0 y1 y2 y3 y4 y5 y6 y7 x0 x1 x2 x3 x4 x5 x6 x7 : Int)
    (hrow : w.ownsRow B 76 2 (.slice ae acts.length ce) acts.length (actCells acts)) (hv : ViewV w.heap.size w ar af aa nr nf na v) (hr8 : nr ≤ 8) (hf16 : nf ≤ 16) (ha16 : na ≤ 16) :
    Calls Tryz.prog 32 #[.agg #[.int .u8 0, .slice ae acts.length ce, .int .i64 y0, .int .i64 y1, .int .i64 y2, .int .i64 y3, .int .i64 y4, .int .i64 y5, .int .i64 y6, .int .i64 y7], .agg #[.slice ar nr cr, .slice af nf cf, .slice aa na ca], .agg #[.int .i64 x0, .int .i64 x1, .int .i64 x2, .int .i64 x3, .int .i64 x4, .int .i64 x5, .int .i64 x6, .int .i64 x7]] w fun e w' => e = .returned (.bool true) ∧ Below w.heap.size w w' := by
  have hn := ha.len
  go_enter Tryz.func32, Tryz.ntmps32
  go_upto_block 0 with fail
  go_cut [] (fun wx => HeldIn w wx ae acts.length ce ar af aa nr cr nf cf na ca)
  case first =>
    go_wp2_with fail
    go_loopg [7] acts.length (fun gg i wr => ∃ k : Nat, k + gg = acts.length ∧ i = .int .i64 k ∧ HeldIn w wr ae acts.length ce ar af aa nr cr nf cf na ca)
    case atStart => exact ⟨0, by omega, rfl, held_first _ _ _ _ _ _ _ _ _ _ _ _ _ _ _ _ _ _ _ _ _ _ _⟩
    case round =>
      obtain ⟨k, hk, rfl, hI⟩ := hrel
      have c1 := hI.act
      by_cases hlt : k < acts.length
      · have d1 : decide ((k : Int) < (acts.length : Int)) = true := by simp; omega
        have hget : acts[k]? = some acts[k] := by simp
        obtain ⟨⟨r, hr, er⟩, hp⟩ := ha.each acts[k] (by simp)
        obtain ⟨c2, c3⟩ := actCells_at acts k _ hget
        obtain ⟨g, hae, _, hg, hcs⟩ := row_cell hrow c2
        have ca1 := hcs _ _ c2
        have ca2 := hcs _ _ c3
        generalize acts[k] = a at *
        obtain ⟨j0, hj0⟩ := List.mem_iff_getElem?.1 hr
        have jl0 : j0 < nr := by have := hv.lenR; have := (List.getElem?_eq_some_iff.1 hj0).1; omega
        have stepR := @found_step _ v.roads (fun r => r.id) j0 r a.1 hj0 er
        have endR : ∀ {kk : Nat} {bb : Bool}, (bb = true ∨ kk ≤ j0) → nr ≤ kk → bb = true := fun hP h => hP.elim id fun h2 => absurd jl0 (by omega)
        have HAE : Hid (ae = some ⟨g, 0, none⟩) := hae
        have HI : Hid (HeldIn w wr ae acts.length ce ar af aa nr cr nf cf na ca) := hI
        have HPK : Hid ((∃ p ∈ v.fresh, p.seq = a.2) ∨ (∃ p ∈ v.again, p.seq = a.2)) := hp
        clear hI hget hr c2 c3 hcs hae hp
        go_upto_block 2 with fail
        go_cut [8] (fun b wx => (∃ bb : Bool, b = .bool bb ∧ (bb = true)) ∧ HeldIn w wx ae acts.length ce ar af aa nr cr nf cf na ca)
        case first =>
          go_wp2_with fail
          go_loopg [8, 9] nr (fun gg b i wx => ∃ (kk : Nat) (bb : Bool), kk + gg = nr ∧ b = .bool bb ∧ i = .int .i64 kk ∧ Hid (bb = true ∨ kk ≤ j0) ∧ HeldIn w wx ae acts.length ce ar af aa nr cr nf cf na ca)
          case atStart => exact ⟨0, _, by omega, rfl, rfl, Or.inr (Nat.zero_le _), HI.out⟩
          case round =>
            obtain ⟨kk, bb, hkk, rfl, rfl, HP, hI2⟩ := hrel
            clear HI
            have e1 := hI2.r
            have e2 := hI2.act
            have hL := hv.lenR
            by_cases hl2 : kk < nr
            · have d2 : decide ((kk : Int) < (nr : Int)) = true := by simp; omega
              have hl3 : kk < v.roads.length := by omega
              have hget2 : v.roads[kk]? = some v.roads[kk] := by simp
              obtain ⟨b2, o2, har, hbb2, b', o', ee, k1, k2, k3, k4, k5⟩ := hv.roads kk _ hget2
              obtain ⟨rfl, rfl⟩ : b2 = b' ∧ o2 + kk * 5 = o' := by simpa using ee
              have m1 : wr.cell? ⟨b2, o2 + kk * 5, none⟩ = some (.int .i64 v.roads[kk].id) := (hI2.below.cell (p := ⟨b2, o2 + kk * 5, none⟩) hbb2).trans k1
              have m2 : wr.cell? ⟨g, k * 2, none⟩ = some (.int .i64 a.1) := (hI2.below.cell (p := ⟨g, k * 2, none⟩) hg).trans ca1
              have HS : Hid (∀ b' : Bool, b' = (bb || (v.roads[kk].id == a.1)) → (b' = true ∨ kk + 1 ≤ j0)) := stepR HP.out
              have HI2 : Hid (HeldIn w wr ae acts.length ce ar af aa nr cr nf cf na ca) := hI2
              have i2 : (0 : Int) ≤ (kk : Int) := by omega
              have j2 : (kk : Int) < (nr : Int) := by omega
              have i3 : (0 : Int) ≤ (k : Int) := by omega
              have j3 : (k : Int) < (acts.length : Int) := by omega
              obtain ⟨g', hg'⟩ : ∃ g', gk = g' + 1 := ⟨gk - 1, by omega⟩
              rw [har] at e1
              rw [HAE.out] at e2
              generalize v.roads[kk].id = rid at *
              clear hI2 har hget2 ee k1 k2 k3 k4 k5 hL HP
              cases bb with
              | true =>
                go_wp2_with fail
                go_quiet (fail)
                go_wp2_with fail
                go_roundg g'
                case measure => omega
                case rel => exact ⟨kk + 1, true, by omega, rfl, by go_num, HS.out true rfl, HI2.out.grow (grown_drewN _ _)⟩
              | false =>
                go_wp2_with fail
                go_quiet (fail)
                go_wp2_with fail
                go_roundg g'
                case measure => omega
                case rel => exact ⟨kk + 1, _, by omega, rfl, by go_num, HS.out _ (by simp), HI2.out.grow (grown_drewN _ _)⟩
            · have d2 : decide ((kk : Int) < (nr : Int)) = false := by simp; omega
              have HI2 : Hid (HeldIn w wr ae acts.length ce ar af aa nr cr nf cf na ca) := hI2
              have HE : Hid (bb = true) := endR HP.out (by omega)
              clear hI2 hL HP
              go_wp2_with fail
              go_meet
              exact ⟨⟨_, rfl, HE.out⟩, HI2.out⟩
        case rest =>
          obtain ⟨⟨b8, rfl, hb8⟩, hI⟩ := hcut
          subst hb8
          -- where the packet lies: fresh at j1, or again at j2
          obtain ⟨hq⟩ : Nonempty ((∃ j1, j1 < nf ∧ ∃ p, v.fresh[j1]? = some p ∧ p.seq = a.2) ∨ (∃ j2, j2 < na ∧ ∃ p, v.again[j2]? = some p ∧ p.seq = a.2)) := by
            refine ⟨?_⟩
            rcases HPK.out with ⟨p, hp, e⟩ | ⟨p, hp, e⟩
            · obtain ⟨j, hj⟩ := List.mem_iff_getElem?.1 hp
              exact Or.inl ⟨j, by have := hv.lenF; have := (List.getElem?_eq_some_iff.1 hj).1; omega, p, hj, e⟩
            · obtain ⟨j, hj⟩ := List.mem_iff_getElem?.1 hp
              exact Or.inr ⟨j, by have := hv.lenA; have := (List.getElem?_eq_some_iff.1 hj).1; omega, p, hj, e⟩
          have HQ : Hid ((∃ j1, j1 < nf ∧ ∃ p, v.fresh[j1]? = some p ∧ p.seq = a.2) ∨ (∃ j2, j2 < na ∧ ∃ p, v.again[j2]? = some p ∧ p.seq = a.2)) := hq
          have HI : Hid (HeldIn w wc ae acts.length ce ar af aa nr cr nf cf na ca) := hI
          clear hI hq HPK stepR endR hj0 er jl0
          have stepF : ∀ {kk : Nat} {bb : Bool} {h : kk < v.fresh.length}, (bb = true ∨ (∃ j1, kk ≤ j1 ∧ j1 < nf ∧ ∃ p, v.fresh[j1]? = some p ∧ p.seq = a.2) ∨ (∃ j2, j2 < na ∧ ∃ p, v.again[j2]? = some p ∧ p.seq = a.2)) → ∀ b' : Bool, b' = (bb || (v.fresh[kk].seq == a.2)) → (b' = true ∨ (∃ j1, kk + 1 ≤ j1 ∧ j1 < nf ∧ ∃ p, v.fresh[j1]? = some p ∧ p.seq = a.2) ∨ (∃ j2, j2 < na ∧ ∃ p, v.again[j2]? = some p ∧ p.seq = a.2)) := by
            intro kk bb h hP b' hb'
            rcases hP with hP | ⟨j1, h1, h2, p, h3, h4⟩ | hP
            · exact Or.inl (by rw [hb', hP]; rfl)
            · rcases @found_step _ v.fresh (fun p => p.seq) j1 p a.2 h3 h4 kk bb h (Or.inr h1) b' hb' with e | e
              · exact Or.inl e
              · exact Or.inr (Or.inl ⟨j1, e, h2, p, h3, h4⟩)
            · exact Or.inr (Or.inr hP)
          have endF : ∀ {kk : Nat} {bb : Bool}, (bb = true ∨ (∃ j1, kk ≤ j1 ∧ j1 < nf ∧ ∃ p, v.fresh[j1]? = some p ∧ p.seq = a.2) ∨ (∃ j2, j2 < na ∧ ∃ p, v.again[j2]? = some p ∧ p.seq = a.2)) → nf ≤ kk → (bb = true ∨ (∃ j2, j2 < na ∧ ∃ p, v.again[j2]? = some p ∧ p.seq = a.2)) := by
            intro kk bb hP h
            rcases hP with hP | ⟨j1, h1, h2, _⟩ | hP
            · exact Or.inl hP
            · omega
            · exact Or.inr hP
          go_upto_block 4 with fail
          go_cut [10] (fun b wx => (∃ bb : Bool, b = .bool bb ∧ (bb = true ∨ (∃ j2, j2 < na ∧ ∃ p, v.again[j2]? = some p ∧ p.seq = a.2))) ∧ HeldIn w wx ae acts.length ce ar af aa nr cr nf cf na ca)
          case first =>
            go_wp2_with fail
            go_loopg [10, 11] nf (fun gg b i wx => ∃ (kk : Nat) (bb : Bool), kk + gg = nf ∧ b = .bool bb ∧ i = .int .i64 kk ∧ Hid (bb = true ∨ (∃ j1, kk ≤ j1 ∧ j1 < nf ∧ ∃ p, v.fresh[j1]? = some p ∧ p.seq = a.2) ∨ (∃ j2, j2 < na ∧ ∃ p, v.again[j2]? = some p ∧ p.seq = a.2)) ∧ HeldIn w wx ae acts.length ce ar af aa nr cr nf cf na ca)
            case atStart => exact ⟨0, _, by omega, rfl, rfl, Or.inr (HQ.out.elim (fun ⟨j, h1, h2⟩ => Or.inl ⟨j, Nat.zero_le _, h1, h2⟩) Or.inr), HI.out⟩
            case round =>
              obtain ⟨kk, bb, hkk, rfl, rfl, HP, hI2⟩ := hrel
              clear HI
              have e1 := hI2.f
              have e2 := hI2.act
              have hL := hv.lenF
              by_cases hl2 : kk < nf
              · have d2 : decide ((kk : Int) < (nf : Int)) = true := by simp; omega
                have hl3 : kk < v.fresh.length := by omega
                have hget2 : v.fresh[kk]? = some v.fresh[kk] := by simp
                obtain ⟨b2, o2, har, hbb2, b', o', ee, k1, k2, k3⟩ := hv.fresh kk _ hget2
                obtain ⟨rfl, rfl⟩ : b2 = b' ∧ o2 + kk * 3 = o' := by simpa using ee
                have m1 : wr.cell? ⟨b2, o2 + kk * 3, none⟩ = some (.int .i64 v.fresh[kk].seq) := (hI2.below.cell (p := ⟨b2, o2 + kk * 3, none⟩) hbb2).trans k1
                have m2 : wr.cell? ⟨g, k * 2 + 1, none⟩ = some (.int .i64 a.2) := (hI2.below.cell (p := ⟨g, k * 2 + 1, none⟩) hg).trans ca2
                have HS : Hid (∀ b' : Bool, b' = (bb || (v.fresh[kk].seq == a.2)) → (b' = true ∨ (∃ j1, kk + 1 ≤ j1 ∧ j1 < nf ∧ ∃ p, v.fresh[j1]? = some p ∧ p.seq = a.2) ∨ (∃ j2, j2 < na ∧ ∃ p, v.again[j2]? = some p ∧ p.seq = a.2))) := stepF HP.out
                have HI2 : Hid (HeldIn w wr ae acts.length ce ar af aa nr cr nf cf na ca) := hI2
                have i2 : (0 : Int) ≤ (kk : Int) := by omega
                have j2 : (kk : Int) < (nf : Int) := by omega
                have i3 : (0 : Int) ≤ (k : Int) := by omega
                have j3 : (k : Int) < (acts.length : Int) := by omega
                obtain ⟨g', hg'⟩ : ∃ g', gk = g' + 1 := ⟨gk - 1, by omega⟩
                rw [har] at e1
                rw [HAE.out] at e2
                generalize v.fresh[kk].seq = rid at *
                clear hI2 har hget2 ee k1 k2 k3 hL HP
                cases bb with
                | true =>
                  go_wp2_with fail
                  go_quiet (fail)
                  go_wp2_with fail
                  go_roundg g'
                  case measure => omega
                  case rel => exact ⟨kk + 1, true, by omega, rfl, by go_num, HS.out true rfl, HI2.out.grow (grown_drewN _ _)⟩
                | false =>
                  go_wp2_with fail
                  go_quiet (fail)
                  go_wp2_with fail
                  go_roundg g'
                  case measure => omega
                  case rel => exact ⟨kk + 1, _, by omega, rfl, by go_num, HS.out _ (by simp), HI2.out.grow (grown_drewN _ _)⟩
              · have d2 : decide ((kk : Int) < (nf : Int)) = false := by simp; omega
                have HI2 : Hid (HeldIn w wr ae acts.length ce ar af aa nr cr nf cf na ca) := hI2
                have HE : Hid (bb = true ∨ (∃ j2, j2 < na ∧ ∃ p, v.again[j2]? = some p ∧ p.seq = a.2)) := endF HP.out (by omega)
                clear hI2 hL HP
                go_wp2_with fail
                go_meet
                exact ⟨⟨_, rfl, HE.out⟩, HI2.out⟩
          case rest =>
            obtain ⟨⟨b10, rfl, hb10⟩, hI⟩ := hcut
            have HI : Hid (HeldIn w wc ae acts.length ce ar af aa nr cr nf cf na ca) := hI
            have HQ2 : Hid (b10 = true ∨ (∃ j2, j2 < na ∧ ∃ p, v.again[j2]? = some p ∧ p.seq = a.2)) := hb10
            clear hI hb10 HQ stepF endF
            have stepA : ∀ {kk : Nat} {bb : Bool} {h : kk < v.again.length}, (bb = true ∨ (∃ j1, kk ≤ j1 ∧ j1 < na ∧ ∃ p, v.again[j1]? = some p ∧ p.seq = a.2)) → ∀ b' : Bool, b' = (bb || (v.again[kk].seq == a.2)) → (b' = true ∨ (∃ j1, kk + 1 ≤ j1 ∧ j1 < na ∧ ∃ p, v.again[j1]? = some p ∧ p.seq = a.2)) := by
              intro kk bb h hP b' hb'
              rcases hP with hP | ⟨j1, h1, h2, p, h3, h4⟩
              · exact Or.inl (by rw [hb', hP]; rfl)
              · rcases @found_step _ v.again (fun p => p.seq) j1 p a.2 h3 h4 kk bb h (Or.inr h1) b' hb' with e | e
                · exact Or.inl e
                · exact Or.inr ⟨j1, e, h2, p, h3, h4⟩
            have endA : ∀ {kk : Nat} {bb : Bool}, (bb = true ∨ (∃ j1, kk ≤ j1 ∧ j1 < na ∧ ∃ p, v.again[j1]? = some p ∧ p.seq = a.2)) → na ≤ kk → bb = true := by
              intro kk bb hP h
              rcases hP with hP | ⟨j1, h1, h2, _⟩
              · exact hP
              · omega
            go_upto_block 6 with fail
            go_cut [10] (fun b wx => (∃ bb : Bool, b = .bool bb ∧ (bb = true)) ∧ HeldIn w wx ae acts.length ce ar af aa nr cr nf cf na ca)
            case first =>
              go_wp2_with fail
              go_loopg [10, 12] na (fun gg b i wx => ∃ (kk : Nat) (bb : Bool), kk + gg = na ∧ b = .bool bb ∧ i = .int .i64 kk ∧ Hid (bb = true ∨ (∃ j1, kk ≤ j1 ∧ j1 < na ∧ ∃ p, v.again[j1]? = some p ∧ p.seq = a.2)) ∧ HeldIn w wx ae acts.length ce ar af aa nr cr nf cf na ca)
              case atStart => exact ⟨0, _, by omega, rfl, rfl, HQ2.out.elim Or.inl (fun ⟨j, h1, h2⟩ => Or.inr ⟨j, Nat.zero_le _, h1, h2⟩), HI.out⟩
              case round =>
                obtain ⟨kk, bb, hkk, rfl, rfl, HP, hI2⟩ := hrel
                clear HI
                have e1 := hI2.a
                have e2 := hI2.act
                have hL := hv.lenA
                by_cases hl2 : kk < na
                · have d2 : decide ((kk : Int) < (na : Int)) = true := by simp; omega
                  have hl3 : kk < v.again.length := by omega
                  have hget2 : v.again[kk]? = some v.again[kk] := by simp
                  obtain ⟨b2, o2, har, hbb2, b', o', ee, k1, k2, k3⟩ := hv.again kk _ hget2
                  obtain ⟨rfl, rfl⟩ : b2 = b' ∧ o2 + kk * 3 = o' := by simpa using ee
                  have m1 : wr.cell? ⟨b2, o2 + kk * 3, none⟩ = some (.int .i64 v.again[kk].seq) := (hI2.below.cell (p := ⟨b2, o2 + kk * 3, none⟩) hbb2).trans k1
                  have m2 : wr.cell? ⟨g, k * 2 + 1, none⟩ = some (.int .i64 a.2) := (hI2.below.cell (p := ⟨g, k * 2 + 1, none⟩) hg).trans ca2
                  have HS : Hid (∀ b' : Bool, b' = (bb || (v.again[kk].seq == a.2)) → (b' = true ∨ (∃ j1, kk + 1 ≤ j1 ∧ j1 < na ∧ ∃ p, v.again[j1]? = some p ∧ p.seq = a.2))) := stepA HP.out
                  have HI2 : Hid (HeldIn w wr ae acts.length ce ar af aa nr cr nf cf na ca) := hI2
                  have i2 : (0 : Int) ≤ (kk : Int) := by omega
                  have j2 : (kk : Int) < (na : Int) := by omega
                  have i3 : (0 : Int) ≤ (k : Int) := by omega
                  have j3 : (k : Int) < (acts.length : Int) := by omega
                  obtain ⟨g', hg'⟩ : ∃ g', gk = g' + 1 := ⟨gk - 1, by omega⟩
                  rw [har] at e1
                  rw [HAE.out] at e2
                  generalize v.again[kk].seq = rid at *
                  clear hI2 har hget2 ee k1 k2 k3 hL HP
                  cases bb with
                  | true =>
                    go_wp2_with fail
                    go_quiet (fail)
                    go_wp2_with fail
                    go_roundg g'
                    case measure => omega
                    case rel => exact ⟨kk + 1, true, by omega, rfl, by go_num, HS.out true rfl, HI2.out.grow (grown_drewN _ _)⟩
                  | false =>
                    go_wp2_with fail
                    go_quiet (fail)
                    go_wp2_with fail
                    go_roundg g'
                    case measure => omega
                    case rel => exact ⟨kk + 1, _, by omega, rfl, by go_num, HS.out _ (by simp), HI2.out.grow (grown_drewN _ _)⟩
                · have d2 : decide ((kk : Int) < (na : Int)) = false := by simp; omega
                  have HI2 : Hid (HeldIn w wr ae acts.length ce ar af aa nr cr nf cf na ca) := hI2
                  have HE : Hid (bb = true) := endA HP.out (by omega)
                  clear hI2 hL HP
                  go_wp2_with fail
                  go_meet
                  exact ⟨⟨_, rfl, HE.out⟩, HI2.out⟩
            case rest =>
              obtain ⟨⟨b11, rfl, hb11⟩, hI⟩ := hcut
              subst hb11
              have HI : Hid (HeldIn w wc ae acts.length ce ar af aa nr cr nf cf na ca) := hI
              clear hI HQ2 stepA endA
              obtain ⟨g', hg'⟩ : ∃ g', gk = g' + 1 := ⟨gk - 1, by omega⟩
              go_wp2_with fail
              go_roundg g'
              case measure => omega
              case rel => exact ⟨k + 1, by omega, by go_num, HI.out⟩
      · have d1 : decide ((k : Int) < (acts.length : Int)) = false := by simp; omega
        have HI : Hid (HeldIn w wr ae acts.length ce ar af aa nr cr nf cf na ca) := hI
        clear hI
        go_wp2_with fail
        go_meet
        exact HI.out
  case rest =>
    have c1 := hcut.act
    have HI : Hid (HeldIn w wc ae acts.length ce ar af aa nr cr nf cf na ca) := hcut
    have d1 : decide ((acts.length : Int) ≤ 256) = true := by simp; omega
    clear hcut
    go_wp2_with fail
    go_ret
    exact ⟨rfl, HI.out.below⟩
end Go.Proofs.YthllhabjfchgiaaGreatDoor

/- Package helmkeep: a run of code that Load took, whatever the world has grown by. -/
namespace Go.Proofs.YthllhabjfchgiaaGreatDoor
open Go.RowKit
open Hx (Rd Pk Vw St Mc In64 Out Ls)
attribute [local go_sem ↓] Go.wp_at_zero Go.wp_at_succ
attribute [local go_sem] setCell_drewN'
variable {w w' : World}

theorem CodeIn.later {B B' : Nat} {cb co sb so cap : Nat} {steps : List St} (h : CodeIn B w cb co sb so cap steps) (hb : Below B w w') (hB : B ≤ B') : CodeIn B' w' cb co sb so cap steps := by
  have := h.keep hb
  exact ⟨by have := this.cbB; omega, by have := this.sbB; omega, this.slice, this.step⟩

theorem ViewV.later {B B' : Nat} {ar af aa : Option Addr} {nr nf na : Nat} {v : Vw} (h : ViewV B w ar af aa nr nf na v) (hb : Below B w w') (hB : B ≤ B') : ViewV B' w' ar af aa nr nf na v := by
  have h2 := h.keep (w' := w') fun x hx => hb.cell (p := x) hx
  refine ⟨h2.roads.mono hB, fun i r hr => ?_, fun i r hr => ?_, h2.lenR, h2.lenF, h2.lenA, h2.rng⟩
  · obtain ⟨b, o, e, hb, hp⟩ := h2.fresh i r hr
    exact ⟨b, o, e, by omega, hp⟩
  · obtain ⟨b, o, e, hb, hp⟩ := h2.again i r hr
    exact ⟨b, o, e, by omega, hp⟩

theorem Tab64.later {B : Nat} (h : Tab64 w) (hb : Below B w w') (hB : 1 < B) : Tab64 w' := fun j hj => (hb.cell (p := ⟨1, j, none⟩) hB).trans (h j hj)

theorem Coded.later {C : Nat} {l : Ls} (h : Coded w C l) (hb : Below w.heap.size w w') : Coded w' C l := by
  obtain ⟨sb, cap, hc⟩ := h.code
  exact ⟨⟨sb, cap, hc.later hb hb.size⟩, (hb.cell (p := ⟨C, 1, none⟩) hc.cbB).trans h.slots, (hb.cell (p := ⟨C, 2, none⟩) hc.cbB).trans h.need⟩

theorem Coded.lt {C : Nat} {l : Ls} (h : Coded w C l) : C < w.heap.size := by
  obtain ⟨sb, cap, hc⟩ := h.code
  exact hc.cbB

theorem takes_parts {bs : List UInt8} (h : takes bs = true) : bs.length ≤ 100000 ∧ (loaded bs).bad = false := by
  simp only [takes, Bool.and_eq_true, decide_eq_true_eq, Bool.not_eq_true'] at h
  exact ⟨by omega, by simp [h]⟩

/-- what a run of the code comes to -/
def outOf (v : Vw) (bs : List UInt8) (fuel x0 x1 x2 x3 x4 x5 x6 x7 : Int) : Out := runOut v (loaded bs).steps (loaded bs).slots.toNat fuel x0 x1 x2 x3 x4 x5 x6 x7

theorem run_coded (w : World) (C : Nat) (bs : List UInt8) (ht : takes bs = true) (hC : Coded w C (loaded bs)) (v : Vw) (ar af aa : Option Addr) (nr cr nf cf na ca : Nat) (x0 x1 x2 x3 x4 x5 x6 x7 fuel : Int)
    (hv : ViewV w.heap.size w ar af aa nr nf na v) (hT : Tab64 w) (hone : 1 < w.heap.size) (hx : ∀ x ∈ [x0, x1, x2, x3, x4, x5, x6, x7], In64 x) (hfm : fuel ≤ 9223372036854775807) :
    Calls Tryz.prog 16 #[.pointer (some ⟨C, 0, none⟩), .agg #[.slice ar nr cr, .slice af nf cf, .slice aa na ca], .agg #[.int .i64 x0, .int .i64 x1, .int .i64 x2, .int .i64 x3, .int .i64 x4, .int .i64 x5, .int .i64 x6, .int .i64 x7], .int .i64 fuel] w fun e w' =>
      ∃ va, e = .returned (resultV (outOf v bs fuel x0 x1 x2 x3 x4 x5 x6 x7).status va (outOf v bs fuel x0 x1 x2 x3 x4 x5 x6 x7).regs) ∧
        w'.ownsRow w.heap.size 76 2 va (outOf v bs fuel x0 x1 x2 x3 x4 x5 x6 x7).acts.length (actCells (outOf v bs fuel x0 x1 x2 x3 x4 x5 x6 x7).acts) ∧ Below w.heap.size w w' := by
  obtain ⟨hl, hb⟩ := takes_parts ht
  have hf := Hx.loaded_final bs hl hb
  obtain ⟨sb, cap, hc⟩ := hC.code
  have e : (((loaded bs).slots.toNat : Nat) : Int) = (loaded bs).slots := by have := hf.slots; omega
  exact run_any w C 0 sb 0 cap (loaded bs).slots.toNat (loaded bs).steps v ar af aa nr cr nf cf na ca x0 x1 x2 x3 x4 x5 x6 x7 fuel hf.sound.fits (by have := hf.slots; omega) (by have := hf.slots; omega) hc (by rw [e]; exact hC.slots) hv hT hone hx hfm

/-- the view of lives -/
def liveV : Vw := ⟨[⟨3, 0, 0, 0, false⟩], [⟨9, 0, 0⟩], []⟩

theorem live_takes : takes liveC.data.toList = true := by decide +kernel
theorem live_need : (loaded liveC.data.toList).need = 7 := by decide +kernel
theorem live_status : (outOf liveV liveC.data.toList 7 0 0 0 0 0 0 0 0).status = 0 := by decide +kernel
theorem live_acts : (outOf liveV liveC.data.toList 7 0 0 0 0 0 0 0 0).acts = [(3, 9)] := by decide +kernel
theorem live_regs : (outOf liveV liveC.data.toList 7 0 0 0 0 0 0 0 0).regs.take 8 = [0, 2, 0, 0, 0, 0, 0, 0] := by decide +kernel
end Go.Proofs.YthllhabjfchgiaaGreatDoor
