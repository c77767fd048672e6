import Derived.Test.YthllhabjfchgiaaGreatDoorHy28
import Derived.ChangeKeysEq
/- Package helmkeep: held. -/
namespace Go.Proofs.YthllhabjfchgiaaGreatDoor
open Go.RowKit
open Hx (Rd Pk Vw St Mc In64 Out)
attribute [local go_sem ↓] Go.wp_at_zero Go.wp_at_succ
attribute [local go_sem] setCell_drewN'
variable {w : World}

theorem need_any {C : Nat} {n : Int} (h : w.cell? ⟨C, 2, none⟩ = some (.int .i64 n)) :
    Calls Tryz.prog 17 #[.pointer (some ⟨C, 0, none⟩)] w fun e w' => e = .returned (.int .i64 n) ∧ w' = w := by
  go_enter Tryz.func17, Tryz.ntmps17
  go_wp2
  go_ret
  exact ⟨rfl, rfl⟩

theorem eqItems_same (xs : Array Value) (w : World) : ∀ (is : List Nat), (∀ i ∈ is, ∃ x : Int, xs[i]? = some (.int .i64 x)) → (Op.eqItems 9999 3 1 xs xs is).run Tryz.prog w = .ok true w
  | [], _ => by simp [Op.eqItems]
  | i :: is, h => by
    obtain ⟨x, hx⟩ := h i (by simp)
    have hp : (part 3 xs (i * 1)).run Tryz.prog w = .ok (.int .i64 x) w := run_part_plain w (by kernel_rfl) (by simpa using hx)
    simp only [Op.eqItems, Sem.run_bind, hp, Result.andThen_ok, run_equalIn_int w 9998 3 .i64 .i64 x x Tryz.underlying3, beq_self_eq_true, Bool.not_true, Bool.false_eq_true, if_false]
    exact eqItems_same xs w is (fun j hj => h j (by simp [hj]))

theorem eql8 (w : World) (x0 x1 x2 x3 x4 x5 x6 x7 : Int) :
    (Op.equalIn 10000 26 (.agg #[.int .i64 x0, .int .i64 x1, .int .i64 x2, .int .i64 x3, .int .i64 x4, .int .i64 x5, .int .i64 x6, .int .i64 x7]) (.agg #[.int .i64 x0, .int .i64 x1, .int .i64 x2, .int .i64 x3, .int .i64 x4, .int .i64 x5, .int .i64 x6, .int .i64 x7])).run Tryz.prog w = .ok true w := by
  obtain ⟨i, hi⟩ : ∃ i, Tryz.prog.info? 3 = some i := Option.isSome_iff_exists.1 (by kernel_rfl)
  rw [show (10000 : Nat) = 9999 + 1 from rfl, run_equalIn_array w 9999 _ _ Tryz.underlying26 hi, show Tryz.prog.cellsOf 3 = 1 by kernel_rfl]
  refine eqItems_same _ w _ fun i hi => ?_
  have : i < 8 := by simpa using hi
  match i, this with
  | 0, _ => exact ⟨_, rfl⟩
  | 1, _ => exact ⟨_, rfl⟩
  | 2, _ => exact ⟨_, rfl⟩
  | 3, _ => exact ⟨_, rfl⟩
  | 4, _ => exact ⟨_, rfl⟩
  | 5, _ => exact ⟨_, rfl⟩
  | 6, _ => exact ⟨_, rfl⟩
  | 7, _ => exact ⟨_, rfl⟩

set_option maxRecDepth 100000 in
set_option maxHeartbeats 2000000 in
theorem held_none (ar af aa : Option Addr) (nr cr nf cf na ca ce : Nat) (ae : Option Addr) (st x0 x1 x2 x3 x4 x5 x6 x7 : Int) (hst : st = 1 ∨ st = 2) :
    Calls Tryz.prog 32 #[.agg #[.int .u8 st, .slice ae 0 ce, .int .i64 x0, .int .i64 x1, .int .i64 x2, .int .i64 x3, .int .i64 x4, .int .i64 x5, .int .i64 x6, .int .i64 x7], .agg #[.slice ar nr cr, .slice af nf cf, .slice aa na ca], .agg #[.int .i64 x0, .int .i64 x1, .int .i64 x2, .int .i64 x3, .int .i64 x4, .int .i64 x5, .int .i64 x6, .int .i64 x7]] w fun e w' => e = .returned (.bool true) ∧ Below w.heap.size w w' := by
  have HB : Hid (∀ a b c, Below w.heap.size w (((w.alloc a).alloc b).alloc c)) := fun a b c => ((Below.refl _ w).alloc (Nat.le_refl _) a).alloc (by simp) b |>.alloc (by simp; omega) c
  have e8 := fun w => eql8 w x0 x1 x2 x3 x4 x5 x6 x7
  rcases hst with rfl | rfl
  · go_enter Tryz.func32, Tryz.ntmps32
    go_wp2
    go_ret
    exact ⟨rfl, HB.out _ _ _⟩
  · go_enter Tryz.func32, Tryz.ntmps32
    go_wp2
    go_ret
    exact ⟨rfl, HB.out _ _ _⟩

theorem actCells_at : ∀ (l : List (Int × Int)) (i : Nat) (a : Int × Int), l[i]? = some a → (actCells l)[i * 2]? = some (.int .i64 a.1) ∧ (actCells l)[i * 2 + 1]? = some (.int .i64 a.2)
  | [], i, a, h => by simp at h
  | q :: l, 0, a, h => by
    simp at h; subst h
    simp [actCells]
  | q :: l, i + 1, a, h => by
    have ih := actCells_at l i a (by simpa using h)
    have e : actCells (q :: l) = .int .i64 q.1 :: .int .i64 q.2 :: actCells l := by simp [actCells]
    rw [e, show (i + 1) * 2 = i * 2 + 1 + 1 by omega]
    refine ⟨ih.1, ?_⟩
    rw [show i * 2 + 1 + 1 + 1 = (i * 2 + 1) + 1 + 1 by omega]; exact ih.2

theorem found_step {α : Type} (l : List α) (f : α → Int) (j0 : Nat) (r : α) (x : Int) (hj : l[j0]? = some r) (hr : f r = x) {kk : Nat} {bb : Bool} {h : kk < l.length} (hP : bb = true ∨ kk ≤ j0) (b' : Bool) (hb' : b' = (bb || (f l[kk] == x))) : b' = true ∨ kk + 1 ≤ j0 := by
  subst hb'
  rcases hP with rfl | hP
  · exact Or.inl (by simp)
  · by_cases e : kk = j0
    · subst e
      have : l[kk] = r := by simpa [List.getElem?_eq_getElem h] using hj
      exact Or.inl (by simp [this, hr])
    · exact Or.inr (by omega)

/-- held's three boxes -/
structure HeldIn (w W : World) (ae : Option Addr) (n ce : Nat) (ar af aa : Option Addr) (nr cr nf cf na ca : Nat) : Prop where
  below : Below w.heap.size w W
  act : W.cell? ⟨w.heap.size, 1, none⟩ = some (.slice ae n ce)
  r : W.cell? ⟨w.heap.size + 1, 0, none⟩ = some (.slice ar nr cr)
  f : W.cell? ⟨w.heap.size + 1, 1, none⟩ = some (.slice af nf cf)
  a : W.cell? ⟨w.heap.size + 1, 2, none⟩ = some (.slice aa na ca)
  size : w.heap.size + 1 < W.heap.size

theorem HeldIn.grow {W y : World} {ae ar af aa : Option Addr} {n ce nr cr nf cf na ca : Nat} (h : HeldIn w W ae n ce ar af aa nr cr nf cf na ca) (hg : W.grownBy y none) : HeldIn w y ae n ce ar af aa nr cr nf cf na ca := by
  have hs := h.size
  have hb : ∀ k, k < W.heap.size → y.heap[k]? = W.heap[k]? := fun k hk => hg.block k hk (by simp)
  have hc : ∀ p : Addr, p.block < W.heap.size → y.cell? p = W.cell? p := fun p hp => World.cell?_of_block (hb _ hp)
  have hz := hg.size
  exact ⟨h.below.trans ⟨hg.os, hg.tape, hg.output, hg.size, fun k hk => hb k (by omega)⟩, (hc _ (by show w.heap.size < _; omega)).trans h.act, (hc _ (by show w.heap.size + 1 < _; omega)).trans h.r, (hc _ (by show w.heap.size + 1 < _; omega)).trans h.f, (hc _ (by show w.heap.size + 1 < _; omega)).trans h.a, by omega⟩

theorem held_first (w : World) (ae ar af aa : Option Addr) (n ce nr cr nf cf na ca : Nat) (st : Int) (y0 y1 y2 y3 y4 y5 y6 y7 : Int) (o2 : Obj) :
    HeldIn w (((w.alloc (.cells #[.int .u8 st, .slice ae n ce, .int .i64 y0, .int .i64 y1, .int .i64 y2, .int .i64 y3, .int .i64 y4, .int .i64 y5, .int .i64 y6, .int .i64 y7] 35)).alloc (.cells #[.slice ar nr cr, .slice af nf cf, .slice aa na ca] 25)).alloc o2) ae n ce ar af aa nr cr nf cf na ca := by
  generalize ho0 : Obj.cells #[.int .u8 st, .slice ae n ce, .int .i64 y0, .int .i64 y1, .int .i64 y2, .int .i64 y3, .int .i64 y4, .int .i64 y5, .int .i64 y6, .int .i64 y7] 35 = o0
  generalize ho1 : Obj.cells #[.slice ar nr cr, .slice af nf cf, .slice aa na ca] 25 = o1
  have e : (((w.alloc o0).alloc o1).alloc o2).heap = ((w.heap.push o0).push o1).push o2 := rfl
  have s : (((w.alloc o0).alloc o1).alloc o2).heap.size = w.heap.size + 3 := by rw [e]; simp
  have g : w.grownBy (((w.alloc o0).alloc o1).alloc o2) none := ((World.grownBy_alloc w _ none).trans (World.grownBy_alloc _ _ none)).trans (World.grownBy_alloc _ _ none)
  have h0 : (((w.alloc o0).alloc o1).alloc o2).heap[w.heap.size]? = some o0 := by
    rw [e]; simp only [Array.getElem?_push, Array.size_push]; repeat (rw [if_neg (by omega)])
    exact if_pos trivial
  have h1 : (((w.alloc o0).alloc o1).alloc o2).heap[w.heap.size + 1]? = some o1 := by
    rw [e]; simp only [Array.getElem?_push, Array.size_push]; repeat (rw [if_neg (by omega)])
    exact if_pos trivial
  rw [← ho0] at h0
  rw [← ho1] at h1
  subst ho0 ho1
  exact ⟨⟨g.os, g.tape, g.output, g.size, fun k hk => g.block k hk (by simp)⟩, cell_at h0, cell_at h1, cell_at h1, cell_at h1, by omega⟩

set_option maxRecDepth 100000 in
set_option maxHeartbeats 4000000 in
theorem held_done (v : Vw) (acts : List (Int × Int)) (ha : Hx.ActsOk v acts) (ae ar af aa : Option Addr) (ce nr cr nf cf na ca B : Nat) (y0 y1 y2 y3 y4 y5 y6 y7 x0 x1 x2 x3 x4 x5 x6 x7 : Int)
    (hrow : w.ownsRow B 76 2 (.slice ae acts.length ce) acts.length (actCells acts)) (hv : ViewV w.heap.size w ar af aa nr nf na v) (hr8 : nr ≤ 8) (hf16 : nf ≤ 16) (ha16 : na ≤ 16) :
    Calls Tryz.prog 32 #[.agg #[.int .u8 0, .slice ae acts.length ce, .int .i64 y0, .int .i64 y1, .int .i64 y2, .int .i64 y3, .int .i64 y4, .int .i64 y5, .int .i64 y6, .int .i64 y7], .agg #[.slice ar nr cr, .slice af nf cf, .slice aa na ca], .agg #[.int .i64 x0, .int .i64 x1, .int .i64 x2, .int .i64 x3, .int .i64 x4, .int .i64 x5, .int .i64 x6, .int .i64 x7]] w fun e w' => e = .returned (.bool true) ∧ Below w.heap.size w w' := by
  have hn := ha.len
  go_enter Tryz.func32, Tryz.ntmps32
  go_upto_block 0 with fail
  go_cut [] (fun wx => HeldIn w wx ae acts.length ce ar af aa nr cr nf cf na ca)
  case first =>
    go_wp2_with fail
    go_loopg [7] acts.length (fun gg i wr => ∃ k : Nat, k + gg = acts.length ∧ i = .int .i64 k ∧ HeldIn w wr ae acts.length ce ar af aa nr cr nf cf na ca)
    case atStart => exact ⟨0, by omega, rfl, held_first _ _ _ _ _ _ _ _ _ _ _ _ _ _ _ _ _ _ _ _ _ _ _⟩
    case round =>
      obtain ⟨k, hk, rfl, hI⟩ := hrel
      have c1 := hI.act
      by_cases hlt : k < acts.length
      · have d1 : decide ((k : Int) < (acts.length : Int)) = true := by simp; omega
        have hget : acts[k]? = some acts[k] := by simp
        obtain ⟨⟨r, hr, er⟩, hp⟩ := ha.each acts[k] (by simp)
        obtain ⟨c2, c3⟩ := actCells_at acts k _ hget
        obtain ⟨g, hae, _, hg, hcs⟩ := row_cell hrow c2
        have ca1 := hcs _ _ c2
        have ca2 := hcs _ _ c3
        generalize acts[k] = a at *
        obtain ⟨j0, hj0⟩ := List.mem_iff_getElem?.1 hr
        have jl0 : j0 < nr := by have := hv.lenR; have := (List.getElem?_eq_some_iff.1 hj0).1; omega
        have stepR := @found_step _ v.roads (fun r => r.id) j0 r a.1 hj0 er
        have endR : ∀ {kk : Nat} {bb : Bool}, (bb = true ∨ kk ≤ j0) → nr ≤ kk → bb = true := fun hP h => hP.elim id fun h2 => absurd jl0 (by omega)
        have HAE : Hid (ae = some ⟨g, 0, none⟩) := hae
        have HI : Hid (HeldIn w wr ae acts.length ce ar af aa nr cr nf cf na ca) := hI
        have HPK : Hid ((∃ p ∈ v.fresh, p.seq = a.2) ∨ (∃ p ∈ v.again, p.seq = a.2)) := hp
        clear hI hget hr c2 c3 hcs hae hp
        go_upto_block 2 with fail
        go_cut [8] (fun b wx => (∃ bb : Bool, b = .bool bb ∧ (bb = true)) ∧ HeldIn w wx ae acts.length ce ar af aa nr cr nf cf na ca)
        case first =>
          go_wp2_with fail
          go_loopg [8, 9] nr (fun gg b i wx => ∃ (kk : Nat) (bb : Bool), kk + gg = nr ∧ b = .bool bb ∧ i = .int .i64 kk ∧ Hid (bb = true ∨ kk ≤ j0) ∧ HeldIn w wx ae acts.length ce ar af aa nr cr nf cf na ca)
          case atStart => exact ⟨0, _, by omega, rfl, rfl, Or.inr (Nat.zero_le _), HI.out⟩
          case round =>
            obtain ⟨kk, bb, hkk, rfl, rfl, HP, hI2⟩ := hrel
            clear HI
            have e1 := hI2.r
            have e2 := hI2.act
            have hL := hv.lenR
            by_cases hl2 : kk < nr
            · have d2 : decide ((kk : Int) < (nr : Int)) = true := by simp; omega
              have hl3 : kk < v.roads.length := by omega
              have hget2 : v.roads[kk]? = some v.roads[kk] := by simp
              obtain ⟨b2, o2, har, hbb2, b', o', ee, k1, k2, k3, k4, k5⟩ := hv.roads kk _ hget2
              obtain ⟨rfl, rfl⟩ : b2 = b' ∧ o2 + kk * 5 = o' := by simpa using ee
              have m1 : wr.cell? ⟨b2, o2 + kk * 5, none⟩ = some (.int .i64 v.roads[kk].id) := (hI2.below.cell (p := ⟨b2, o2 + kk * 5, none⟩) hbb2).trans k1
              have m2 : wr.cell? ⟨g, k * 2, none⟩ = some (.int .i64 a.1) := (hI2.below.cell (p := ⟨g, k * 2, none⟩) hg).trans ca1
              have HS : Hid (∀ b' : Bool, b' = (bb || (v.roads[kk].id == a.1)) → (b' = true ∨ kk + 1 ≤ j0)) := stepR HP.out
              have HI2 : Hid (HeldIn w wr ae acts.length ce ar af aa nr cr nf cf na ca) := hI2
              have i2 : (0 : Int) ≤ (kk : Int) := by omega
              have j2 : (kk : Int) < (nr : Int) := by omega
              have i3 : (0 : Int) ≤ (k : Int) := by omega
              have j3 : (k : Int) < (acts.length : Int) := by omega
              obtain ⟨g', hg'⟩ : ∃ g', gk = g' + 1 := ⟨gk - 1, by omega⟩
              rw [har] at e1
              rw [HAE.out] at e2
              generalize v.roads[kk].id = rid at *
              clear hI2 har hget2 ee k1 k2 k3 k4 k5 hL HP
              cases bb with
              | true =>
                go_wp2_with fail
                go_quiet (fail)
                go_wp2_with fail
                go_roundg g'
                case measure => omega
                case rel => exact ⟨kk + 1, true, by omega, rfl, by go_num, HS.out true rfl, HI2.out.grow (grown_drewN _ _)⟩
              | false =>
                go_wp2_with fail
                go_quiet (fail)
                go_wp2_with fail
                go_roundg g'
                case measure => omega
                case rel => exact ⟨kk + 1, _, by omega, rfl, by go_num, HS.out _ (by simp), HI2.out.grow (grown_drewN _ _)⟩
            · have d2 : decide ((kk : Int) < (nr : Int)) = false := by simp; omega
              have HI2 : Hid (HeldIn w wr ae acts.length ce ar af aa nr cr nf cf na ca) := hI2
              have HE : Hid (bb = true) := endR HP.out (by omega)
              clear hI2 hL HP
              go_wp2_with fail
              go_meet
              exact ⟨⟨_, rfl, HE.out⟩, HI2.out⟩
        case rest =>
          obtain ⟨⟨b8, rfl, hb8⟩, hI⟩ := hcut
          subst hb8
          -- where the packet lies: fresh at j1, or again at j2
          obtain ⟨hq⟩ : Nonempty ((∃ j1, j1 < nf ∧ ∃ p, v.fresh[j1]? = some p ∧ p.seq = a.2) ∨ (∃ j2, j2 < na ∧ ∃ p, v.again[j2]? = some p ∧ p.seq = a.2)) := by
            refine ⟨?_⟩
            rcases HPK.out with ⟨p, hp, e⟩ | ⟨p, hp, e⟩
            · obtain ⟨j, hj⟩ := List.mem_iff_getElem?.1 hp
              exact Or.inl ⟨j, by have := hv.lenF; have := (List.getElem?_eq_some_iff.1 hj).1; omega, p, hj, e⟩
            · obtain ⟨j, hj⟩ := List.mem_iff_getElem?.1 hp
              exact Or.inr ⟨j, by have := hv.lenA; have := (List.getElem?_eq_some_iff.1 hj).1; omega, p, hj, e⟩
          have HQ : Hid ((∃ j1, j1 < nf ∧ ∃ p, v.fresh[j1]? = some p ∧ p.seq = a.2) ∨ (∃ j2, j2 < na ∧ ∃ p, v.again[j2]? = some p ∧ p.seq = a.2)) := hq
          have HI : Hid (HeldIn w wc ae acts.length ce ar af aa nr cr nf cf na ca) := hI
          clear hI hq HPK stepR endR hj0 er jl0
          have stepF : ∀ {kk : Nat} {bb : Bool} {h : kk < v.fresh.length}, (bb = true ∨ (∃ j1, kk ≤ j1 ∧ j1 < nf ∧ ∃ p, v.fresh[j1]? = some p ∧ p.seq = a.2) ∨ (∃ j2, j2 < na ∧ ∃ p, v.again[j2]? = some p ∧ p.seq = a.2)) → ∀ b' : Bool, b' = (bb || (v.fresh[kk].seq == a.2)) → (b' = true ∨ (∃ j1, kk + 1 ≤ j1 ∧ j1 < nf ∧ ∃ p, v.fresh[j1]? = some p ∧ p.seq = a.2) ∨ (∃ j2, j2 < na ∧ ∃ p, v.again[j2]? = some p ∧ p.seq = a.2)) := by
            intro kk bb h hP b' hb'
            rcases hP with hP | ⟨j1, h1, h2, p, h3, h4⟩ | hP
            · exact Or.inl (by rw [hb', hP]; rfl)
            · rcases @found_step _ v.fresh (fun p => p.seq) j1 p a.2 h3 h4 kk bb h (Or.inr h1) b' hb' with e | e
              · exact Or.inl e
              · exact Or.inr (Or.inl ⟨j1, e, h2, p, h3, h4⟩)
            · exact Or.inr (Or.inr hP)
          have endF : ∀ {kk : Nat} {bb : Bool}, (bb = true ∨ (∃ j1, kk ≤ j1 ∧ j1 < nf ∧ ∃ p, v.fresh[j1]? = some p ∧ p.seq = a.2) ∨ (∃ j2, j2 < na ∧ ∃ p, v.again[j2]? = some p ∧ p.seq = a.2)) → nf ≤ kk → (bb = true ∨ (∃ j2, j2 < na ∧ ∃ p, v.again[j2]? = some p ∧ p.seq = a.2)) := by
            intro kk bb hP h
            rcases hP with hP | ⟨j1, h1, h2, _⟩ | hP
            · exact Or.inl hP
            · omega
            · exact Or.inr hP
          go_upto_block 4 with fail
          go_cut [10] (fun b wx => (∃ bb : Bool, b = .bool bb ∧ (bb = true ∨ (∃ j2, j2 < na ∧ ∃ p, v.again[j2]? = some p ∧ p.seq = a.2))) ∧ HeldIn w wx ae acts.length ce ar af aa nr cr nf cf na ca)
          case first =>
            go_wp2_with fail
            go_loopg [10, 11] nf (fun gg b i wx => ∃ (kk : Nat) (bb : Bool), kk + gg = nf ∧ b = .bool bb ∧ i = .int .i64 kk ∧ Hid (bb = true ∨ (∃ j1, kk ≤ j1 ∧ j1 < nf ∧ ∃ p, v.fresh[j1]? = some p ∧ p.seq = a.2) ∨ (∃ j2, j2 < na ∧ ∃ p, v.again[j2]? = some p ∧ p.seq = a.2)) ∧ HeldIn w wx ae acts.length ce ar af aa nr cr nf cf na ca)
            case atStart => exact ⟨0, _, by omega, rfl, rfl, Or.inr (HQ.out.elim (fun ⟨j, h1, h2⟩ => Or.inl ⟨j, Nat.zero_le _, h1, h2⟩) Or.inr), HI.out⟩
            case round =>
              obtain ⟨kk, bb, hkk, rfl, rfl, HP, hI2⟩ := hrel
              clear HI
              have e1 := hI2.f
              have e2 := hI2.act
              have hL := hv.lenF
              by_cases hl2 : kk < nf
              · have d2 : decide ((kk : Int) < (nf : Int)) = true := by simp; omega
                have hl3 : kk < v.fresh.length := by omega
                have hget2 : v.fresh[kk]? = some v.fresh[kk] := by simp
                obtain ⟨b2, o2, har, hbb2, b', o', ee, k1, k2, k3⟩ := hv.fresh kk _ hget2
                obtain ⟨rfl, rfl⟩ : b2 = b' ∧ o2 + kk * 3 = o' := by simpa using ee
                have m1 : wr.cell? ⟨b2, o2 + kk * 3, none⟩ = some (.int .i64 v.fresh[kk].seq) := (hI2.below.cell (p := ⟨b2, o2 + kk * 3, none⟩) hbb2).trans k1
                have m2 : wr.cell? ⟨g, k * 2 + 1, none⟩ = some (.int .i64 a.2) := (hI2.below.cell (p := ⟨g, k * 2 + 1, none⟩) hg).trans ca2
                have HS : Hid (∀ b' : Bool, b' = (bb || (v.fresh[kk].seq == a.2)) → (b' = true ∨ (∃ j1, kk + 1 ≤ j1 ∧ j1 < nf ∧ ∃ p, v.fresh[j1]? = some p ∧ p.seq = a.2) ∨ (∃ j2, j2 < na ∧ ∃ p, v.again[j2]? = some p ∧ p.seq = a.2))) := stepF HP.out
                have HI2 : Hid (HeldIn w wr ae acts.length ce ar af aa nr cr nf cf na ca) := hI2
                have i2 : (0 : Int) ≤ (kk : Int) := by omega
                have j2 : (kk : Int) < (nf : Int) := by omega
                have i3 : (0 : Int) ≤ (k : Int) := by omega
                have j3 : (k : Int) < (acts.length : Int) := by omega
                obtain ⟨g', hg'⟩ : ∃ g', gk = g' + 1 := ⟨gk - 1, by omega⟩
                rw [har] at e1
                rw [HAE.out] at e2
                generalize v.fresh[kk].seq = rid at *
                clear hI2 har hget2 ee k1 k2 k3 hL HP
                cases bb with
                | true =>
                  go_wp2_with fail
                  go_quiet (fail)
                  go_wp2_with fail
                  go_roundg g'
                  case measure => omega
                  case rel => exact ⟨kk + 1, true, by omega, rfl, by go_num, HS.out true rfl, HI2.out.grow (grown_drewN _ _)⟩
                | false =>
                  go_wp2_with fail
                  go_quiet (fail)
                  go_wp2_with fail
                  go_roundg g'
                  case measure => omega
                  case rel => exact ⟨kk + 1, _, by omega, rfl, by go_num, HS.out _ (by simp), HI2.out.grow (grown_drewN _ _)⟩
              · have d2 : decide ((kk : Int) < (nf : Int)) = false := by simp; omega
                have HI2 : Hid (HeldIn w wr ae acts.length ce ar af aa nr cr nf cf na ca) := hI2
                have HE : Hid (bb = true ∨ (∃ j2, j2 < na ∧ ∃ p, v.again[j2]? = some p ∧ p.seq = a.2)) := endF HP.out (by omega)
                clear hI2 hL HP
                go_wp2_with fail
                go_meet
                exact ⟨⟨_, rfl, HE.out⟩, HI2.out⟩
          case rest =>
            obtain ⟨⟨b10, rfl, hb10⟩, hI⟩ := hcut
            have HI : Hid (HeldIn w wc ae acts.length ce ar af aa nr cr nf cf na ca) := hI
            have HQ2 : Hid (b10 = true ∨ (∃ j2, j2 < na ∧ ∃ p, v.again[j2]? = some p ∧ p.seq = a.2)) := hb10
            clear hI hb10 HQ stepF endF
            have stepA : ∀ {kk : Nat} {bb : Bool} {h : kk < v.again.length}, (bb = true ∨ (∃ j1, kk ≤ j1 ∧ j1 < na ∧ ∃ p, v.again[j1]? = some p ∧ p.seq = a.2)) → ∀ b' : Bool, b' = (bb || (v.again[kk].seq == a.2)) → (b' = true ∨ (∃ j1, kk + 1 ≤ j1 ∧ j1 < na ∧ ∃ p, v.again[j1]? = some p ∧ p.seq = a.2)) := by
              intro kk bb h hP b' hb'
              rcases hP with hP | ⟨j1, h1, h2, p, h3, h4⟩
              · exact Or.inl (by rw [hb', hP]; rfl)
              · rcases @found_step _ v.again (fun p => p.seq) j1 p a.2 h3 h4 kk bb h (Or.inr h1) b' hb' with e | e
                · exact Or.inl e
                · exact Or.inr ⟨j1, e, h2, p, h3, h4⟩
            have endA : ∀ {kk : Nat} {bb : Bool}, (bb = true ∨ (∃ j1, kk ≤ j1 ∧ j1 < na ∧ ∃ p, v.again[j1]? = some p ∧ p.seq = a.2)) → na ≤ kk → bb = true := by
              intro kk bb hP h
              rcases hP with hP | ⟨j1, h1, h2, _⟩
              · exact hP
              · omega
            go_upto_block 6 with fail
            go_cut [10] (fun b wx => (∃ bb : Bool, b = .bool bb ∧ (bb = true)) ∧ HeldIn w wx ae acts.length ce ar af aa nr cr nf cf na ca)
            case first =>
              go_wp2_with fail
              go_loopg [10, 12] na (fun gg b i wx => ∃ (kk : Nat) (bb : Bool), kk + gg = na ∧ b = .bool bb ∧ i = .int .i64 kk ∧ Hid (bb = true ∨ (∃ j1, kk ≤ j1 ∧ j1 < na ∧ ∃ p, v.again[j1]? = some p ∧ p.seq = a.2)) ∧ HeldIn w wx ae acts.length ce ar af aa nr cr nf cf na ca)
              case atStart => exact ⟨0, _, by omega, rfl, rfl, HQ2.out.elim Or.inl (fun ⟨j, h1, h2⟩ => Or.inr ⟨j, Nat.zero_le _, h1, h2⟩), HI.out⟩
              case round =>
                obtain ⟨kk, bb, hkk, rfl, rfl, HP, hI2⟩ := hrel
                clear HI
                have e1 := hI2.a
                have e2 := hI2.act
                have hL := hv.lenA
                by_cases hl2 : kk < na
                · have d2 : decide ((kk : Int) < (na : Int)) = true := by simp; omega
                  have hl3 : kk < v.again.length := by omega
                  have hget2 : v.again[kk]? = some v.again[kk] := by simp
                  obtain ⟨b2, o2, har, hbb2, b', o', ee, k1, k2, k3⟩ := hv.again kk _ hget2
                  obtain ⟨rfl, rfl⟩ : b2 = b' ∧ o2 + kk * 3 = o' := by simpa using ee
                  have m1 : wr.cell? ⟨b2, o2 + kk * 3, none⟩ = some (.int .i64 v.again[kk].seq) := (hI2.below.cell (p := ⟨b2, o2 + kk * 3, none⟩) hbb2).trans k1
                  have m2 : wr.cell? ⟨g, k * 2 + 1, none⟩ = some (.int .i64 a.2) := (hI2.below.cell (p := ⟨g, k * 2 + 1, none⟩) hg).trans ca2
                  have HS : Hid (∀ b' : Bool, b' = (bb || (v.again[kk].seq == a.2)) → (b' = true ∨ (∃ j1, kk + 1 ≤ j1 ∧ j1 < na ∧ ∃ p, v.again[j1]? = some p ∧ p.seq = a.2))) := stepA HP.out
                  have HI2 : Hid (HeldIn w wr ae acts.length ce ar af aa nr cr nf cf na ca) := hI2
                  have i2 : (0 : Int) ≤ (kk : Int) := by omega
                  have j2 : (kk : Int) < (na : Int) := by omega
                  have i3 : (0 : Int) ≤ (k : Int) := by omega
                  have j3 : (k : Int) < (acts.length : Int) := by omega
                  obtain ⟨g', hg'⟩ : ∃ g', gk = g' + 1 := ⟨gk - 1, by omega⟩
                  rw [har] at e1
                  rw [HAE.out] at e2
                  generalize v.again[kk].seq = rid at *
                  clear hI2 har hget2 ee k1 k2 k3 hL HP
                  cases bb with
                  | true =>
                    go_wp2_with fail
                    go_quiet (fail)
                    go_wp2_with fail
                    go_roundg g'
                    case measure => omega
                    case rel => exact ⟨kk + 1, true, by omega, rfl, by go_num, HS.out true rfl, HI2.out.grow (grown_drewN _ _)⟩
                  | false =>
                    go_wp2_with fail
                    go_quiet (fail)
                    go_wp2_with fail
                    go_roundg g'
                    case measure => omega
                    case rel => exact ⟨kk + 1, _, by omega, rfl, by go_num, HS.out _ (by simp), HI2.out.grow (grown_drewN _ _)⟩
                · have d2 : decide ((kk : Int) < (na : Int)) = false := by simp; omega
                  have HI2 : Hid (HeldIn w wr ae acts.length ce ar af aa nr cr nf cf na ca) := hI2
                  have HE : Hid (bb = true) := endA HP.out (by omega)
                  clear hI2 hL HP
                  go_wp2_with fail
                  go_meet
                  exact ⟨⟨_, rfl, HE.out⟩, HI2.out⟩
            case rest =>
              obtain ⟨⟨b11, rfl, hb11⟩, hI⟩ := hcut
              subst hb11
              have HI : Hid (HeldIn w wc ae acts.length ce ar af aa nr cr nf cf na ca) := hI
              clear hI HQ2 stepA endA
              obtain ⟨g', hg'⟩ : ∃ g', gk = g' + 1 := ⟨gk - 1, by omega⟩
              go_wp2_with fail
              go_roundg g'
              case measure => omega
              case rel => exact ⟨k + 1, by omega, by go_num, HI.out⟩
      · have d1 : decide ((k : Int) < (acts.length : Int)) = false := by simp; omega
        have HI : Hid (HeldIn w wr ae acts.length ce ar af aa nr cr nf cf na ca) := hI
        clear hI
        go_wp2_with fail
        go_meet
        exact HI.out
  case rest =>
    have c1 := hcut.act
    have HI : Hid (HeldIn w wc ae acts.length ce ar af aa nr cr nf cf na ca) := hcut
    have d1 : decide ((acts.length : Int) ≤ 256) = true := by simp; omega
    clear hcut
    go_wp2_with fail
    go_ret
    exact ⟨rfl, HI.out.below⟩
end Go.Proofs.YthllhabjfchgiaaGreatDoor

/- Package helmkeep: a run of code that Load took, whatever the world has grown by. -/
namespace Go.Proofs.YthllhabjfchgiaaGreatDoor
open Go.RowKit
open Hx (Rd Pk Vw St Mc In64 Out Ls)
attribute [local go_sem ↓] Go.wp_at_zero Go.wp_at_succ
attribute [local go_sem] setCell_drewN'
variable {w w' : World}

theorem CodeIn.later {B B' : Nat} {cb co sb so cap : Nat} {steps : List St} (h : CodeIn B w cb co sb so cap steps) (hb : Below B w w') (hB : B ≤ B') : CodeIn B' w' cb co sb so cap steps := by
  have := h.keep hb
  exact ⟨by have := this.cbB; omega, by have := this.sbB; omega, this.slice, this.step⟩

theorem ViewV.later {B B' : Nat} {ar af aa : Option Addr} {nr nf na : Nat} {v : Vw} (h : ViewV B w ar af aa nr nf na v) (hb : Below B w w') (hB : B ≤ B') : ViewV B' w' ar af aa nr nf na v := by
  have h2 := h.keep (w' := w') fun x hx => hb.cell (p := x) hx
  refine ⟨h2.roads.mono hB, fun i r hr => ?_, fun i r hr => ?_, h2.lenR, h2.lenF, h2.lenA, h2.rng⟩
  · obtain ⟨b, o, e, hb, hp⟩ := h2.fresh i r hr
    exact ⟨b, o, e, by omega, hp⟩
  · obtain ⟨b, o, e, hb, hp⟩ := h2.again i r hr
    exact ⟨b, o, e, by omega, hp⟩

theorem Tab64.later {B : Nat} (h : Tab64 w) (hb : Below B w w') (hB : 1 < B) : Tab64 w' := fun j hj => (hb.cell (p := ⟨1, j, none⟩) hB).trans (h j hj)

theorem Coded.later {C : Nat} {l : Ls} (h : Coded w C l) (hb : Below w.heap.size w w') : Coded w' C l := by
  obtain ⟨sb, cap, hc⟩ := h.code
  exact ⟨⟨sb, cap, hc.later hb hb.size⟩, (hb.cell (p := ⟨C, 1, none⟩) hc.cbB).trans h.slots, (hb.cell (p := ⟨C, 2, none⟩) hc.cbB).trans h.need⟩

theorem Coded.lt {C : Nat} {l : Ls} (h : Coded w C l) : C < w.heap.size := by
  obtain ⟨sb, cap, hc⟩ := h.code
  exact hc.cbB

theorem takes_parts {bs : List UInt8} (h : takes bs = true) : bs.length ≤ 100000 ∧ (loaded bs).bad = false := by
  simp only [takes, Bool.and_eq_true, decide_eq_true_eq, Bool.not_eq_true'] at h
  exact ⟨by omega, by simp [h]⟩

/-- what a run of the code comes to -/
def outOf (v : Vw) (bs : List UInt8) (fuel x0 x1 x2 x3 x4 x5 x6 x7 : Int) : Out := runOut v (loaded bs).steps (loaded bs).slots.toNat fuel x0 x1 x2 x3 x4 x5 x6 x7

theorem run_coded (w : World) (C : Nat) (bs : List UInt8) (ht : takes bs = true) (hC : Coded w C (loaded bs)) (v : Vw) (ar af aa : Option Addr) (nr cr nf cf na ca : Nat) (x0 x1 x2 x3 x4 x5 x6 x7 fuel : Int)
    (hv : ViewV w.heap.size w ar af aa nr nf na v) (hT : Tab64 w) (hone : 1 < w.heap.size) (hx : ∀ x ∈ [x0, x1, x2, x3, x4, x5, x6, x7], In64 x) (hfm : fuel ≤ 9223372036854775807) :
    Calls Tryz.prog 16 #[.pointer (some ⟨C, 0, none⟩), .agg #[.slice ar nr cr, .slice af nf cf, .slice aa na ca], .agg #[.int .i64 x0, .int .i64 x1, .int .i64 x2, .int .i64 x3, .int .i64 x4, .int .i64 x5, .int .i64 x6, .int .i64 x7], .int .i64 fuel] w fun e w' =>
      ∃ va, e = .returned (resultV (outOf v bs fuel x0 x1 x2 x3 x4 x5 x6 x7).status va (outOf v bs fuel x0 x1 x2 x3 x4 x5 x6 x7).regs) ∧
        w'.ownsRow w.heap.size 76 2 va (outOf v bs fuel x0 x1 x2 x3 x4 x5 x6 x7).acts.length (actCells (outOf v bs fuel x0 x1 x2 x3 x4 x5 x6 x7).acts) ∧ Below w.heap.size w w' := by
  obtain ⟨hl, hb⟩ := takes_parts ht
  have hf := Hx.loaded_final bs hl hb
  obtain ⟨sb, cap, hc⟩ := hC.code
  have e : (((loaded bs).slots.toNat : Nat) : Int) = (loaded bs).slots := by have := hf.slots; omega
  exact run_any w C 0 sb 0 cap (loaded bs).slots.toNat (loaded bs).steps v ar af aa nr cr nf cf na ca x0 x1 x2 x3 x4 x5 x6 x7 fuel hf.sound.fits (by have := hf.slots; omega) (by have := hf.slots; omega) hc (by rw [e]; exact hC.slots) hv hT hone hx hfm

/-- the view of lives -/
def liveV : Vw := ⟨[⟨3, 0, 0, 0, false⟩], [⟨9, 0, 0⟩], []⟩

theorem live_takes : takes liveC.data.toList = true := by decide +kernel
theorem live_need : (loaded liveC.data.toList).need = 7 := by decide +kernel
theorem live_status : (outOf liveV liveC.data.toList 7 0 0 0 0 0 0 0 0).status = 0 := by decide +kernel
theorem live_acts : (outOf liveV liveC.data.toList 7 0 0 0 0 0 0 0 0).acts = [(3, 9)] := by decide +kernel
theorem live_regs : (outOf liveV liveC.data.toList 7 0 0 0 0 0 0 0 0).regs.take 8 = [0, 2, 0, 0, 0, 0, 0, 0] := by decide +kernel
end Go.Proofs.YthllhabjfchgiaaGreatDoor

/- Package helmkeep: ran and lives. -/
namespace Go.Proofs.YthllhabjfchgiaaGreatDoor
open Go.RowKit
open Hx (Rd Pk Vw St Mc In64 Out Ls)
attribute [local go_sem ↓] Go.wp_at_zero Go.wp_at_succ
attribute [local go_sem] setCell_drewN'
variable {w w' : World}

theorem Below.of_grown (h : w.grownBy w' none) : Below w.heap.size w w' := ⟨h.os, h.tape, h.output, h.size, fun k hk => h.block k hk (by simp)⟩

/-- three boxes at the top of what was there -/
structure Box3 (w W : World) (o0 o1 o2 : Obj) : Prop where
  below : Below w.heap.size w W
  b0 : W.heap[w.heap.size]? = some o0
  b1 : W.heap[w.heap.size + 1]? = some o1
  b2 : W.heap[w.heap.size + 2]? = some o2

theorem box3_first (w : World) (o0 o1 o2 : Obj) : Box3 w (((w.alloc o0).alloc o1).alloc o2) o0 o1 o2 := by
  have e : (((w.alloc o0).alloc o1).alloc o2).heap = ((w.heap.push o0).push o1).push o2 := rfl
  have g : w.grownBy (((w.alloc o0).alloc o1).alloc o2) none := ((World.grownBy_alloc w _ none).trans (World.grownBy_alloc _ _ none)).trans (World.grownBy_alloc _ _ none)
  refine ⟨Below.of_grown g, ?_, ?_, ?_⟩
  all_goals
    rw [e]; simp only [Array.getElem?_push, Array.size_push]; repeat (rw [if_neg (by omega)])
    exact if_pos trivial

theorem Box3.lt {W : World} {o0 o1 o2 : Obj} (h : Box3 w W o0 o1 o2) : w.heap.size + 2 < W.heap.size := lt_of_some h.b2

theorem Box3.later {W y : World} {o0 o1 o2 : Obj} (h : Box3 w W o0 o1 o2) (hb : Below W.heap.size W y) : Box3 w y o0 o1 o2 := by
  have := h.lt
  exact ⟨h.below.trans (hb.mono (by omega)), (hb.block _ (by omega)).trans h.b0, (hb.block _ (by omega)).trans h.b1, (hb.block _ (by omega)).trans h.b2⟩

theorem ran_results (tmps : Array Value) (w : World) (g : Nat) (v0 v1 v2 v3 v4 v5 v6 v7 v8 v9 b : Value) (h8 : tmps[8]? = some (.pointer (some ⟨g, 0, none⟩))) (h9 : tmps[9]? = some b) (h : w.heap[g]? = some (.cells #[v0, v1, v2, v3, v4, v5, v6, v7, v8, v9] 35)) :
    (results Tryz.f26 tmps).run Tryz.prog w = .ok (.tuple #[.agg #[v0, v1, v2, v3, v4, v5, v6, v7, v8, v9], b]) w := by
  have q0 : w.cell? ⟨g, 0, none⟩ = some v0 := cell_at h
  have q1 : w.cell? ⟨g, 1, none⟩ = some v1 := cell_at h
  have q2 : w.cell? ⟨g, 2, none⟩ = some v2 := cell_at h
  have q3 : w.cell? ⟨g, 3, none⟩ = some v3 := cell_at h
  have q4 : w.cell? ⟨g, 4, none⟩ = some v4 := cell_at h
  have q5 : w.cell? ⟨g, 5, none⟩ = some v5 := cell_at h
  have q6 : w.cell? ⟨g, 6, none⟩ = some v6 := cell_at h
  have q7 : w.cell? ⟨g, 7, none⟩ = some v7 := cell_at h
  have q8 : w.cell? ⟨g, 8, none⟩ = some v8 := cell_at h
  have q9 : w.cell? ⟨g, 9, none⟩ = some v9 := cell_at h
  simp [results, Tryz.results26, go_sem, h8, h9, q0, q1, q2, q3, q4, q5, q6, q7, q8, q9]

theorem set10 (w : World) (g : Nat) (T : TypeId) (a0 a1 a2 a3 a4 a5 a6 a7 a8 a9 v0 v1 v2 v3 v4 v5 v6 v7 v8 v9 : Value) (h : w.heap[g]? = some (.cells #[a0, a1, a2, a3, a4, a5, a6, a7, a8, a9] T)) :
    ((((((((((w.setCell ⟨g, 0, none⟩ v0).setCell ⟨g, 1, none⟩ v1).setCell ⟨g, 2, none⟩ v2).setCell ⟨g, 3, none⟩ v3).setCell ⟨g, 4, none⟩ v4).setCell ⟨g, 5, none⟩ v5).setCell ⟨g, 6, none⟩ v6).setCell ⟨g, 7, none⟩ v7).setCell ⟨g, 8, none⟩ v8).setCell ⟨g, 9, none⟩ v9).heap[g]? = some (.cells #[v0, v1, v2, v3, v4, v5, v6, v7, v8, v9] T) ∧ w.grownBy ((((((((((w.setCell ⟨g, 0, none⟩ v0).setCell ⟨g, 1, none⟩ v1).setCell ⟨g, 2, none⟩ v2).setCell ⟨g, 3, none⟩ v3).setCell ⟨g, 4, none⟩ v4).setCell ⟨g, 5, none⟩ v5).setCell ⟨g, 6, none⟩ v6).setCell ⟨g, 7, none⟩ v7).setCell ⟨g, 8, none⟩ v8).setCell ⟨g, 9, none⟩ v9) (some g) := by
  have h0 : (w.setCell ⟨g, 0, none⟩ v0).heap[g]? = some (.cells #[v0, a1, a2, a3, a4, a5, a6, a7, a8, a9] T) := heap_setCell_same _ _ _ _ _ _ h
  have g0 : w.grownBy (w.setCell ⟨g, 0, none⟩ v0) (some g) := grown_set w g 0 v0
  have h1 : ((w.setCell ⟨g, 0, none⟩ v0).setCell ⟨g, 1, none⟩ v1).heap[g]? = some (.cells #[v0, v1, a2, a3, a4, a5, a6, a7, a8, a9] T) := heap_setCell_same _ _ _ _ _ _ h0
  have g1 : w.grownBy ((w.setCell ⟨g, 0, none⟩ v0).setCell ⟨g, 1, none⟩ v1) (some g) := g0.trans (grown_set _ g 1 v1)
  have h2 : (((w.setCell ⟨g, 0, none⟩ v0).setCell ⟨g, 1, none⟩ v1).setCell ⟨g, 2, none⟩ v2).heap[g]? = some (.cells #[v0, v1, v2, a3, a4, a5, a6, a7, a8, a9] T) := heap_setCell_same _ _ _ _ _ _ h1
  have g2 : w.grownBy (((w.setCell ⟨g, 0, none⟩ v0).setCell ⟨g, 1, none⟩ v1).setCell ⟨g, 2, none⟩ v2) (some g) := g1.trans (grown_set _ g 2 v2)
  have h3 : ((((w.setCell ⟨g, 0, none⟩ v0).setCell ⟨g, 1, none⟩ v1).setCell ⟨g, 2, none⟩ v2).setCell ⟨g, 3, none⟩ v3).heap[g]? = some (.cells #[v0, v1, v2, v3, a4, a5, a6, a7, a8, a9] T) := heap_setCell_same _ _ _ _ _ _ h2
  have g3 : w.grownBy ((((w.setCell ⟨g, 0, none⟩ v0).setCell ⟨g, 1, none⟩ v1).setCell ⟨g, 2, none⟩ v2).setCell ⟨g, 3, none⟩ v3) (some g) := g2.trans (grown_set _ g 3 v3)
  have h4 : (((((w.setCell ⟨g, 0, none⟩ v0).setCell ⟨g, 1, none⟩ v1).setCell ⟨g, 2, none⟩ v2).setCell ⟨g, 3, none⟩ v3).setCell ⟨g, 4, none⟩ v4).heap[g]? = some (.cells #[v0, v1, v2, v3, v4, a5, a6, a7, a8, a9] T) := heap_setCell_same _ _ _ _ _ _ h3
  have g4 : w.grownBy (((((w.setCell ⟨g, 0, none⟩ v0).setCell ⟨g, 1, none⟩ v1).setCell ⟨g, 2, none⟩ v2).setCell ⟨g, 3, none⟩ v3).setCell ⟨g, 4, none⟩ v4) (some g) := g3.trans (grown_set _ g 4 v4)
  have h5 : ((((((w.setCell ⟨g, 0, none⟩ v0).setCell ⟨g, 1, none⟩ v1).setCell ⟨g, 2, none⟩ v2).setCell ⟨g, 3, none⟩ v3).setCell ⟨g, 4, none⟩ v4).setCell ⟨g, 5, none⟩ v5).heap[g]? = some (.cells #[v0, v1, v2, v3, v4, v5, a6, a7, a8, a9] T) := heap_setCell_same _ _ _ _ _ _ h4
  have g5 : w.grownBy ((((((w.setCell ⟨g, 0, none⟩ v0).setCell ⟨g, 1, none⟩ v1).setCell ⟨g, 2, none⟩ v2).setCell ⟨g, 3, none⟩ v3).setCell ⟨g, 4, none⟩ v4).setCell ⟨g, 5, none⟩ v5) (some g) := g4.trans (grown_set _ g 5 v5)
  have h6 : (((((((w.setCell ⟨g, 0, none⟩ v0).setCell ⟨g, 1, none⟩ v1).setCell ⟨g, 2, none⟩ v2).setCell ⟨g, 3, none⟩ v3).setCell ⟨g, 4, none⟩ v4).setCell ⟨g, 5, none⟩ v5).setCell ⟨g, 6, none⟩ v6).heap[g]? = some (.cells #[v0, v1, v2, v3, v4, v5, v6, a7, a8, a9] T) := heap_setCell_same _ _ _ _ _ _ h5
  have g6 : w.grownBy (((((((w.setCell ⟨g, 0, none⟩ v0).setCell ⟨g, 1, none⟩ v1).setCell ⟨g, 2, none⟩ v2).setCell ⟨g, 3, none⟩ v3).setCell ⟨g, 4, none⟩ v4).setCell ⟨g, 5, none⟩ v5).setCell ⟨g, 6, none⟩ v6) (some g) := g5.trans (grown_set _ g 6 v6)
  have h7 : ((((((((w.setCell ⟨g, 0, none⟩ v0).setCell ⟨g, 1, none⟩ v1).setCell ⟨g, 2, none⟩ v2).setCell ⟨g, 3, none⟩ v3).setCell ⟨g, 4, none⟩ v4).setCell ⟨g, 5, none⟩ v5).setCell ⟨g, 6, none⟩ v6).setCell ⟨g, 7, none⟩ v7).heap[g]? = some (.cells #[v0, v1, v2, v3, v4, v5, v6, v7, a8, a9] T) := heap_setCell_same _ _ _ _ _ _ h6
  have g7 : w.grownBy ((((((((w.setCell ⟨g, 0, none⟩ v0).setCell ⟨g, 1, none⟩ v1).setCell ⟨g, 2, none⟩ v2).setCell ⟨g, 3, none⟩ v3).setCell ⟨g, 4, none⟩ v4).setCell ⟨g, 5, none⟩ v5).setCell ⟨g, 6, none⟩ v6).setCell ⟨g, 7, none⟩ v7) (some g) := g6.trans (grown_set _ g 7 v7)
  have h8 : (((((((((w.setCell ⟨g, 0, none⟩ v0).setCell ⟨g, 1, none⟩ v1).setCell ⟨g, 2, none⟩ v2).setCell ⟨g, 3, none⟩ v3).setCell ⟨g, 4, none⟩ v4).setCell ⟨g, 5, none⟩ v5).setCell ⟨g, 6, none⟩ v6).setCell ⟨g, 7, none⟩ v7).setCell ⟨g, 8, none⟩ v8).heap[g]? = some (.cells #[v0, v1, v2, v3, v4, v5, v6, v7, v8, a9] T) := heap_setCell_same _ _ _ _ _ _ h7
  have g8 : w.grownBy (((((((((w.setCell ⟨g, 0, none⟩ v0).setCell ⟨g, 1, none⟩ v1).setCell ⟨g, 2, none⟩ v2).setCell ⟨g, 3, none⟩ v3).setCell ⟨g, 4, none⟩ v4).setCell ⟨g, 5, none⟩ v5).setCell ⟨g, 6, none⟩ v6).setCell ⟨g, 7, none⟩ v7).setCell ⟨g, 8, none⟩ v8) (some g) := g7.trans (grown_set _ g 8 v8)
  have h9 : ((((((((((w.setCell ⟨g, 0, none⟩ v0).setCell ⟨g, 1, none⟩ v1).setCell ⟨g, 2, none⟩ v2).setCell ⟨g, 3, none⟩ v3).setCell ⟨g, 4, none⟩ v4).setCell ⟨g, 5, none⟩ v5).setCell ⟨g, 6, none⟩ v6).setCell ⟨g, 7, none⟩ v7).setCell ⟨g, 8, none⟩ v8).setCell ⟨g, 9, none⟩ v9).heap[g]? = some (.cells #[v0, v1, v2, v3, v4, v5, v6, v7, v8, v9] T) := heap_setCell_same _ _ _ _ _ _ h8
  have g9 : w.grownBy ((((((((((w.setCell ⟨g, 0, none⟩ v0).setCell ⟨g, 1, none⟩ v1).setCell ⟨g, 2, none⟩ v2).setCell ⟨g, 3, none⟩ v3).setCell ⟨g, 4, none⟩ v4).setCell ⟨g, 5, none⟩ v5).setCell ⟨g, 6, none⟩ v6).setCell ⟨g, 7, none⟩ v7).setCell ⟨g, 8, none⟩ v8).setCell ⟨g, 9, none⟩ v9) (some g) := g8.trans (grown_set _ g 9 v9)
  exact ⟨h9, g9⟩

theorem take8 {l : List Int} (h : l.take 8 = [0, 2, 0, 0, 0, 0, 0, 0]) : l.getD 0 0 = 0 ∧ l.getD 1 0 = 2 ∧ l.getD 2 0 = 0 ∧ l.getD 3 0 = 0 ∧ l.getD 4 0 = 0 ∧ l.getD 5 0 = 0 ∧ l.getD 6 0 = 0 ∧ l.getD 7 0 = 0 := by
  have k : ∀ i, i < 8 → l[i]? = ([0, 2, 0, 0, 0, 0, 0, 0] : List Int)[i]? := fun i hi => by rw [← h, List.getElem?_take_of_lt hi]
  simp [List.getD, k]

theorem live_result (va : Value) : resultV (outOf liveV liveC.data.toList 7 0 0 0 0 0 0 0 0).status va (outOf liveV liveC.data.toList 7 0 0 0 0 0 0 0 0).regs = .agg #[.int .u8 0, va, .int .i64 0, .int .i64 2, .int .i64 0, .int .i64 0, .int .i64 0, .int .i64 0, .int .i64 0, .int .i64 0] := by
  obtain ⟨h0, h1, h2, h3, h4, h5, h6, h7⟩ := take8 live_regs
  rw [resultV, live_status, h0, h1, h2, h3, h4, h5, h6, h7]

set_option maxRecDepth 100000 in
set_option maxHeartbeats 4000000 in
theorem ran_live (ar af aa : Option Addr) (nr cr nf cf na ca : Nat) (hv : ViewV w.heap.size w ar af aa nr nf na liveV) (hT : Tab64 w) (hone : 1 < w.heap.size) :
    Calls Tryz.prog 26 #[.string liveT, .bool false, .agg #[.slice ar nr cr, .slice af nf cf, .slice aa na ca], .agg #[.int .i64 0, .int .i64 0, .int .i64 0, .int .i64 0, .int .i64 0, .int .i64 0, .int .i64 0, .int .i64 0]] w fun e w' => ∃ a c, e = .returned (.tuple #[.agg #[.int .u8 0, .slice a 1 c, .int .i64 0, .int .i64 2, .int .i64 0, .int .i64 0, .int .i64 0, .int .i64 0, .int .i64 0, .int .i64 0], .bool true]) ∧
      w'.ownsRow w.heap.size 76 2 (.slice a 1 c) 1 [.int .i64 3, .int .i64 9] ∧ Below w.heap.size w w' := by
  go_enter Tryz.func26, Tryz.ntmps26
  go_wp2_with fail
  refine (compile_live _).mono ?_
  rintro e w1 ⟨rfl, g1⟩
  have b1 := (box3_first w _ _ _).later (Below.of_grown g1)
  clear g1
  have HB1 := b1
  go_wp2_with fail
  refine (load_any w1 liveC).mono ?_
  rintro e w2 ⟨hb2, h⟩
  obtain ⟨C, hCl, rfl, hcd⟩ : ∃ C, w1.heap.size ≤ C ∧ e = .returned (.tuple #[.pointer (some ⟨C, 0, none⟩), .int .i64 0]) ∧ Coded w2 C (loaded liveC.data.toList) := by
    rcases h with ⟨_, C, h1, h2, h3⟩ | ⟨ht, _⟩
    · exact ⟨C, h1, h2, h3⟩
    · rw [live_takes] at ht; cases ht
  have b2 := b1.later hb2
  have v0 : w2.cell? ⟨w.heap.size, 0, none⟩ = some (.slice ar nr cr) := cell_at b2.b0
  have v1 : w2.cell? ⟨w.heap.size, 1, none⟩ = some (.slice af nf cf) := cell_at b2.b0
  have v2 : w2.cell? ⟨w.heap.size, 2, none⟩ = some (.slice aa na ca) := cell_at b2.b0
  have z : ∀ j, j < 8 → w2.cell? ⟨w.heap.size + 1, j, none⟩ = some (.int .i64 0) := fun j hj => by
    rw [cell_at b2.b1]
    match j, hj with
    | 0, _ => rfl
    | 1, _ => rfl
    | 2, _ => rfl
    | 3, _ => rfl
    | 4, _ => rfl
    | 5, _ => rfl
    | 6, _ => rfl
    | 7, _ => rfl
  have z0 := z 0 (by omega)
  have z1 := z 1 (by omega)
  have z2 := z 2 (by omega)
  have z3 := z 3 (by omega)
  have z4 := z 4 (by omega)
  have z5 := z 5 (by omega)
  have z6 := z 6 (by omega)
  have z7 := z 7 (by omega)
  have HN : Hid (∀ n, Calls Tryz.prog 17 #[.pointer (some ⟨C, 0, none⟩)] (w2.drewN n) fun e w' => e = .returned (.int .i64 7) ∧ w' = w2.drewN n) := fun n => by
    have := need_any (w := w2.drewN n) (C := C) (n := 7) (by rw [World.cell?_drewN, ← live_need]; exact hcd.need)
    exact this
  have hbw : Below w.heap.size w w2 := b2.below
  have HR : Hid (∀ n, Calls Tryz.prog 16 #[.pointer (some ⟨C, 0, none⟩), .agg #[.slice ar nr cr, .slice af nf cf, .slice aa na ca], .agg #[.int .i64 0, .int .i64 0, .int .i64 0, .int .i64 0, .int .i64 0, .int .i64 0, .int .i64 0, .int .i64 0], .int .i64 7] (w2.drewN n) fun e w' => ∃ a c, e = .returned (.agg #[.int .u8 0, .slice a 1 c, .int .i64 0, .int .i64 2, .int .i64 0, .int .i64 0, .int .i64 0, .int .i64 0, .int .i64 0, .int .i64 0]) ∧ w'.ownsRow w2.heap.size 76 2 (.slice a 1 c) 1 [.int .i64 3, .int .i64 9] ∧ Below w2.heap.size w2 w') := fun n => by
    have hd : Below w2.heap.size w2 (w2.drewN n) := ⟨rfl, rfl, rfl, Nat.le_refl _, fun _ _ => rfl⟩
    have hlt := b2.lt
    refine (run_coded (w2.drewN n) C liveC.data.toList live_takes (hcd.later hd) liveV ar af aa nr cr nf cf na ca 0 0 0 0 0 0 0 0 7 (hv.later (hbw.trans (hd.mono (by omega))) (by show _ ≤ w2.heap.size; omega)) (hT.later (hbw.trans (hd.mono (by omega))) hone) (by show 1 < w2.heap.size; omega) (by simp [In64]) (by omega)).mono ?_
    rintro e w' ⟨va, h1, h2, h3⟩
    rw [live_acts] at h2
    rw [live_result] at h1
    obtain ⟨a, c, rfl⟩ := slice_form h2
    exact ⟨a, c, h1, by simpa [actCells] using h2, hd.trans h3⟩
  have HB2 : Hid (Box3 w w2 _ _ _) := b2
  clear hb2 h hcd b2 b1 HB1 hbw hv hT z
  go_wp2_with fail
  refine wp_quiet_tail 5 (by kernel_rfl) (by kernel_rfl) ?_
  simp only [List.take_succ_cons, List.take_zero, List.drop_succ_cons, List.drop_zero]
  repeat (go_big_quiet_step ((go_at_call 17; exact Calls.quiet_of_same (HN.out _))))
  refine wpQuiet_nil ?_
  intro _ hw'
  obtain ⟨k3, hw''⟩ := hw'
  subst hw''
  go_wp2_with fail
  refine (HR.out _).mono ?_
  rintro e w3 ⟨a, c, rfl, hrow, hb3⟩
  have b3 := HB2.out.later hb3
  have hf : ∀ j, w3.frozen? ⟨w.heap.size + 1 + 1, j, none⟩ = false := fun j => frozen_at b3.b2
  have hc : ∀ j, w3.cell? ⟨w.heap.size + 1 + 1, j, none⟩ = _ := fun j => cell_at b3.b2
  have r0 := hc 0
  have r1 := hc 1
  have r2 := hc 2
  have r3 := hc 3
  have r4 := hc 4
  have r5 := hc 5
  have r6 := hc 6
  have r7 := hc 7
  have r8 := hc 8
  have r9 := hc 9
  have HB3 : Hid (Box3 w w3 _ _ _) := b3
  have HS : Hid (w.heap.size + 2 < w2.heap.size) := HB2.out.lt
  have HW : Hid (w3.ownsRow w2.heap.size 76 2 (.slice a 1 c) 1 [.int .i64 3, .int .i64 9]) := hrow
  clear b3 hb3 hc hrow HB2 HR HN
  go_wp2_with fail
  obtain ⟨k1, k2⟩ := set10 w3 (w.heap.size + 1 + 1) 35 _ _ _ _ _ _ _ _ _ _ (.int .u8 0) (.slice a 1 c) (.int .i64 0) (.int .i64 2) (.int .i64 0) (.int .i64 0) (.int .i64 0) (.int .i64 0) (.int .i64 0) (.int .i64 0) HB3.out.b2
  refine bodyPost_ret (v := .tuple #[.agg #[.int .u8 0, .slice a 1 c, .int .i64 0, .int .i64 2, .int .i64 0, .int .i64 0, .int .i64 0, .int .i64 0, .int .i64 0, .int .i64 0], .bool true]) ?_ rfl ?_
  · exact ran_results _ _ (w.heap.size + 1 + 1) _ _ _ _ _ _ _ _ _ _ _ rfl rfl k1
  · refine ⟨a, c, rfl, ?_, ?_⟩
    · have hs := HS.out
      exact (owns_mono HW.out (by omega)).kept k2 (own_far HW.out (by omega))
    · exact HB3.out.below.trans ⟨k2.os, k2.tape, k2.output, k2.size, fun k hk => k2.block k (by have := HB3.out.lt; omega) (by simp; omega)⟩

theorem live_view {W : World} {o2 : Obj} (h : Box3 w W (.cells #[.int .i64 3, .int .i64 0, .int .i64 0, .int .i64 0, .bool false] 74) (.cells #[.int .i64 9, .int .i64 0, .int .i64 0] 72) o2) :
    ViewV W.heap.size W (some ⟨w.heap.size, 0, none⟩) (some ⟨w.heap.size + 1, 0, none⟩) none 1 1 0 liveV := by
  have hl := h.lt
  refine ⟨fun i r hr => ?_, fun i r hr => ?_, fun i r hr => by simp [liveV] at hr, rfl, rfl, rfl, ⟨?_, ?_, ?_⟩⟩
  · match i, hr with
    | 0, hr =>
      simp [liveV] at hr; subst hr
      exact ⟨w.heap.size, 0, rfl, by omega, w.heap.size, 0, rfl, cell_at h.b0, cell_at h.b0, cell_at h.b0, cell_at h.b0, cell_at h.b0⟩
    | i + 1, hr => simp [liveV] at hr
  · match i, hr with
    | 0, hr =>
      simp [liveV] at hr; subst hr
      exact ⟨w.heap.size + 1, 0, rfl, by omega, w.heap.size + 1, 0, rfl, cell_at h.b1, cell_at h.b1, cell_at h.b1⟩
    | i + 1, hr => simp [liveV] at hr
  · intro r hr; simp [liveV] at hr; subst hr; simp [In64]
  · intro r hr; simp [liveV] at hr; subst hr; simp [In64]
  · intro r hr; simp [liveV] at hr

set_option maxRecDepth 100000 in
set_option maxHeartbeats 4000000 in
theorem lives_any (hT : Tab64 w) (hone : 1 < w.heap.size) :
    Calls Tryz.prog 30 #[] w fun e w' => e = .returned (.bool true) ∧ Below w.heap.size w w' := by
  go_enter Tryz.func30, Tryz.ntmps30
  go_wp2_with fail
  have hx := box3_first w (.cells #[.int .i64 3, .int .i64 0, .int .i64 0, .int .i64 0, .bool false] 74) (.cells #[.int .i64 9, .int .i64 0, .int .i64 0] 72) (.cells #[.slice (some ⟨w.heap.size, 0, none⟩) 1 1, .slice (some ⟨w.heap.size + 1, 0, none⟩) 1 1, .slice none 0 0] 25)
  refine (ran_live _ _ _ _ _ _ _ _ _ (live_view hx) (hT.later hx.below hone) (by have := hx.lt; omega)).mono ?_
  rintro e w1 ⟨a, c, rfl, hrow, hb⟩
  have hlt := hx.lt
  obtain ⟨g, rfl, hg1, hg2, hcs⟩ := row_cell hrow (j := 0) (u := .int .i64 3) rfl
  have k0 := hcs 0 _ rfl
  have k1 := hcs 1 _ rfl
  have HB : Hid (∀ o, Below w.heap.size w (w1.alloc o)) := fun o => (hx.below.trans (hb.mono (by omega))).alloc (by have := hb.size; omega) o
  have n1 : ¬ g = w1.heap.size := by omega
  have e8 := fun w => eql8 w 0 2 0 0 0 0 0 0
  clear hrow hb hx hlt hcs hT hg1
  go_wp2_with fail
  go_ret
  exact ⟨rfl, HB.out _⟩
end Go.Proofs.YthllhabjfchgiaaGreatDoor
