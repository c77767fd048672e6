import Derived.Test.YthllhabjfchgiaaGreatDoorHy29
/- Package helmkeep: Any. -/
namespace Go.Proofs.YthllhabjfchgiaaGreatDoor
open Go.RowKit
open Hx (Rd Pk Vw St Mc In64 Out Ls)
attribute [local go_sem ↓] Go.wp_at_zero Go.wp_at_succ
attribute [local go_sem] setCell_drewN'
variable {w w' : World}

/-- held, whatever a run came to -/
theorem held_any (o : Out) (v : Vw) (x0 x1 x2 x3 x4 x5 x6 x7 : Int) (ho : Hx.OutOk v [x0, x1, x2, x3, x4, x5, x6, x7] o) (va : Value) (ar af aa : Option Addr) (nr cr nf cf na ca B : Nat)
    (hrow : w.ownsRow B 76 2 va o.acts.length (actCells o.acts)) (hv : ViewV w.heap.size w ar af aa nr nf na v) (hok : viewOk v = true) :
    Calls Tryz.prog 32 #[resultV o.status va o.regs, .agg #[.slice ar nr cr, .slice af nf cf, .slice aa na ca], .agg #[.int .i64 x0, .int .i64 x1, .int .i64 x2, .int .i64 x3, .int .i64 x4, .int .i64 x5, .int .i64 x6, .int .i64 x7]] w fun e w' => e = .returned (.bool true) ∧ Below w.heap.size w w' := by
  obtain ⟨a, c, rfl⟩ := slice_form hrow
  have hg := viewOk_good hok
  have e1 := hv.lenR
  have e2 := hv.lenF
  have e3 := hv.lenA
  have m1 := hg.maxRoads
  have m2 := hg.maxFresh
  have m3 := hg.maxAgain
  rcases ho with ⟨h1, h2⟩ | ⟨h1, h2, h3⟩
  · rw [h1]
    exact held_done v o.acts h2 a ar af aa c nr cr nf cf na ca B _ _ _ _ _ _ _ _ x0 x1 x2 x3 x4 x5 x6 x7 hrow hv (by omega) (by omega) (by omega)
  · rw [h2, h3]
    exact held_none ar af aa nr cr nf cf na ca c a o.status x0 x1 x2 x3 x4 x5 x6 x7 h1

/-- the laws of runs, of what Load took -/
theorem out_laws (v : Vw) (hok : viewOk v = true) (bs : List UInt8) (ht : takes bs = true) (fuel x0 x1 x2 x3 x4 x5 x6 x7 : Int) :
    Hx.OutOk v [x0, x1, x2, x3, x4, x5, x6, x7] (outOf v bs fuel x0 x1 x2 x3 x4 x5 x6 x7) ∧
    (outOf v bs (loaded bs).need x0 x1 x2 x3 x4 x5 x6 x7).status ≠ 2 ∧
    ((outOf v bs fuel x0 x1 x2 x3 x4 x5 x6 x7).status = 2 → fuel < (loaded bs).need) ∧
    ((outOf v bs fuel x0 x1 x2 x3 x4 x5 x6 x7).status ≠ 2 → outOf v bs fuel x0 x1 x2 x3 x4 x5 x6 x7 = outOf v bs (loaded bs).need x0 x1 x2 x3 x4 x5 x6 x7) := by
  obtain ⟨hl, hb⟩ := takes_parts ht
  have hg := viewOk_good hok
  have hs : v.small := ⟨hg.maxRoads, hg.maxFresh, hg.maxAgain⟩
  have hm : Hx.LeftOk (machine0 x0 x1 x2 x3 x4 x5 x6 x7 (loaded bs).slots.toNat) := ⟨by simp [machine0], fun x hx => by
    simp [machine0] at hx
    omega⟩
  obtain ⟨h1, h2, h3⟩ := Hx.loaded_runs bs hl hb v hs [x0, x1, x2, x3, x4, x5, x6, x7] _ hm fuel.toNat
  have e : ∀ f : Int, outOf v bs f x0 x1 x2 x3 x4 x5 x6 x7 = Hx.runs v (loaded bs).steps [x0, x1, x2, x3, x4, x5, x6, x7] f.toNat 0 (machine0 x0 x1 x2 x3 x4 x5 x6 x7 (loaded bs).slots.toNat) := fun f => by
    rw [outOf, runOut, if_pos hok]
  have hn := (Hx.loaded_final bs hl hb).need
  rw [e, e]
  refine ⟨Hx.runs_ok v _ _ _ _ _ (Hx.acts_nil v), h1, fun h => ?_, h3⟩
  have := h2 h
  omega

/-- the boxes of Any -/
structure AnyIn (w W : World) (x : Raw) (x0 x1 x2 x3 x4 x5 x6 x7 : Int) : Prop where
  below : Below w.heap.size w W
  b0 : W.heap[w.heap.size]? = some (.cells #[.slice x.ar x.nr x.cr, .slice x.af x.nf x.cf, .slice x.aa x.na x.ca] 25)
  b1 : W.heap[w.heap.size + 1]? = some (.cells #[.int .i64 x0, .int .i64 x1, .int .i64 x2, .int .i64 x3, .int .i64 x4, .int .i64 x5, .int .i64 x6, .int .i64 x7] 26)

variable {x : Raw} {x0 x1 x2 x3 x4 x5 x6 x7 : Int}

theorem AnyIn.lt {W : World} (h : AnyIn w W x x0 x1 x2 x3 x4 x5 x6 x7) : w.heap.size + 1 < W.heap.size := lt_of_some h.b1
theorem AnyIn.later {W y : World} (h : AnyIn w W x x0 x1 x2 x3 x4 x5 x6 x7) (hb : Below W.heap.size W y) : AnyIn w y x x0 x1 x2 x3 x4 x5 x6 x7 := by
  have := h.lt
  exact ⟨h.below.trans (hb.mono (by omega)), (hb.block _ (by omega)).trans h.b0, (hb.block _ (by omega)).trans h.b1⟩
theorem any_first (w : World) (x : Raw) (x0 x1 x2 x3 x4 x5 x6 x7 : Int) : AnyIn w ((w.alloc (.cells #[.slice x.ar x.nr x.cr, .slice x.af x.nf x.cf, .slice x.aa x.na x.ca] 25)).alloc (.cells #[.int .i64 x0, .int .i64 x1, .int .i64 x2, .int .i64 x3, .int .i64 x4, .int .i64 x5, .int .i64 x6, .int .i64 x7] 26)) x x0 x1 x2 x3 x4 x5 x6 x7 := by
  generalize ho0 : Obj.cells #[.slice x.ar x.nr x.cr, .slice x.af x.nf x.cf, .slice x.aa x.na x.ca] 25 = o0
  generalize ho1 : Obj.cells #[Value.int .i64 x0, .int .i64 x1, .int .i64 x2, .int .i64 x3, .int .i64 x4, .int .i64 x5, .int .i64 x6, .int .i64 x7] 26 = o1
  have e : ((w.alloc o0).alloc o1).heap = (w.heap.push o0).push o1 := rfl
  refine ⟨Below.of_grown ((World.grownBy_alloc w _ none).trans (World.grownBy_alloc _ _ none)), ?_, ?_⟩
  · rw [e, ho0]; simp only [Array.getElem?_push, Array.size_push]; repeat (rw [if_neg (by omega)])
    exact if_pos trivial
  · rw [e, ho1]; simp only [Array.getElem?_push, Array.size_push]; repeat (rw [if_neg (by omega)])
    exact if_pos trivial

theorem Below.drewN' (w : World) (n : Nat) : Below w.heap.size w (w.drewN n) := ⟨rfl, rfl, rfl, Nat.le_refl _, fun _ _ => rfl⟩

theorem tailA {W5 w7 : World} {a2 : Option Addr} {c2 lb : Nat} {kb : List Value} {sb z0 z1 z2 z3 z4 z5 z6 z7 : Int} (hrb : w7.ownsRow W5.heap.size 76 2 (.slice a2 lb c2) lb kb) (hb7 : Below W5.heap.size W5 w7) :
    ∃ Bk a3 c3, Value.pointer (some ⟨w7.heap.size, 0, none⟩) = Value.pointer (some ⟨Bk, 0, none⟩) ∧ (w7.alloc (Obj.cells #[.int .u8 sb, .slice a2 lb c2, .int .i64 z0, .int .i64 z1, .int .i64 z2, .int .i64 z3, .int .i64 z4, .int .i64 z5, .int .i64 z6, .int .i64 z7] 35)).heap[Bk]? = some (Obj.cells #[.int .u8 sb, .slice a3 lb c3, .int .i64 z0, .int .i64 z1, .int .i64 z2, .int .i64 z3, .int .i64 z4, .int .i64 z5, .int .i64 z6, .int .i64 z7] 35) ∧ (w7.alloc (Obj.cells #[.int .u8 sb, .slice a2 lb c2, .int .i64 z0, .int .i64 z1, .int .i64 z2, .int .i64 z3, .int .i64 z4, .int .i64 z5, .int .i64 z6, .int .i64 z7] 35)).ownsRow W5.heap.size 76 2 (.slice a3 lb c3) lb kb ∧ Below W5.heap.size W5 (w7.alloc (Obj.cells #[.int .u8 sb, .slice a2 lb c2, .int .i64 z0, .int .i64 z1, .int .i64 z2, .int .i64 z3, .int .i64 z4, .int .i64 z5, .int .i64 z6, .int .i64 z7] 35)) :=
  ⟨_, a2, c2, rfl, heap_alloc_new _ _, hrb.alloc _, hb7.alloc hb7.size _⟩

theorem tailB {W5 w7 : World} {a2 : Option Addr} {c2 lb : Nat} {kb : List Value} {sb z0 z1 z2 z3 z4 z5 z6 z7 : Int} (hrb : w7.ownsRow (W5.heap.size + 1) 76 2 (.slice a2 lb c2) lb kb) (hb7 : Below W5.heap.size W5 w7) (hz : w7.heap[W5.heap.size]? = some (Obj.cells #[Value.int .u8 0, .slice none 0 0, .int .i64 0, .int .i64 0, .int .i64 0, .int .i64 0, .int .i64 0, .int .i64 0, .int .i64 0, .int .i64 0] 35)) :
    ∃ Bk a3 c3, Value.pointer (some ⟨W5.heap.size, 0, none⟩) = Value.pointer (some ⟨Bk, 0, none⟩) ∧ ((((((((((w7.setCell ⟨W5.heap.size, 0, none⟩ (.int .u8 sb)).setCell ⟨W5.heap.size, 1, none⟩ (.slice a2 lb c2)).setCell ⟨W5.heap.size, 2, none⟩ (.int .i64 z0)).setCell ⟨W5.heap.size, 3, none⟩ (.int .i64 z1)).setCell ⟨W5.heap.size, 4, none⟩ (.int .i64 z2)).setCell ⟨W5.heap.size, 5, none⟩ (.int .i64 z3)).setCell ⟨W5.heap.size, 6, none⟩ (.int .i64 z4)).setCell ⟨W5.heap.size, 7, none⟩ (.int .i64 z5)).setCell ⟨W5.heap.size, 8, none⟩ (.int .i64 z6)).setCell ⟨W5.heap.size, 9, none⟩ (.int .i64 z7)).heap[Bk]? = some (Obj.cells #[.int .u8 sb, .slice a3 lb c3, .int .i64 z0, .int .i64 z1, .int .i64 z2, .int .i64 z3, .int .i64 z4, .int .i64 z5, .int .i64 z6, .int .i64 z7] 35) ∧ ((((((((((w7.setCell ⟨W5.heap.size, 0, none⟩ (.int .u8 sb)).setCell ⟨W5.heap.size, 1, none⟩ (.slice a2 lb c2)).setCell ⟨W5.heap.size, 2, none⟩ (.int .i64 z0)).setCell ⟨W5.heap.size, 3, none⟩ (.int .i64 z1)).setCell ⟨W5.heap.size, 4, none⟩ (.int .i64 z2)).setCell ⟨W5.heap.size, 5, none⟩ (.int .i64 z3)).setCell ⟨W5.heap.size, 6, none⟩ (.int .i64 z4)).setCell ⟨W5.heap.size, 7, none⟩ (.int .i64 z5)).setCell ⟨W5.heap.size, 8, none⟩ (.int .i64 z6)).setCell ⟨W5.heap.size, 9, none⟩ (.int .i64 z7)).ownsRow W5.heap.size 76 2 (.slice a3 lb c3) lb kb ∧ Below W5.heap.size W5 ((((((((((w7.setCell ⟨W5.heap.size, 0, none⟩ (.int .u8 sb)).setCell ⟨W5.heap.size, 1, none⟩ (.slice a2 lb c2)).setCell ⟨W5.heap.size, 2, none⟩ (.int .i64 z0)).setCell ⟨W5.heap.size, 3, none⟩ (.int .i64 z1)).setCell ⟨W5.heap.size, 4, none⟩ (.int .i64 z2)).setCell ⟨W5.heap.size, 5, none⟩ (.int .i64 z3)).setCell ⟨W5.heap.size, 6, none⟩ (.int .i64 z4)).setCell ⟨W5.heap.size, 7, none⟩ (.int .i64 z5)).setCell ⟨W5.heap.size, 8, none⟩ (.int .i64 z6)).setCell ⟨W5.heap.size, 9, none⟩ (.int .i64 z7)) := by
  obtain ⟨k1, k2⟩ := set10 w7 W5.heap.size 35 _ _ _ _ _ _ _ _ _ _ (.int .u8 sb) (.slice a2 lb c2) (.int .i64 z0) (.int .i64 z1) (.int .i64 z2) (.int .i64 z3) (.int .i64 z4) (.int .i64 z5) (.int .i64 z6) (.int .i64 z7) hz
  have hlt := lt_of_some hz
  exact ⟨_, a2, c2, rfl, k1, (owns_mono hrb (by omega)).kept k2 (own_far hrb (by omega)), hb7.trans ⟨k2.os, k2.tape, k2.output, k2.size, fun k hk => k2.block k (by omega) (by simp; omega)⟩⟩

set_option maxRecDepth 100000 in
set_option maxHeartbeats 8000000 in
theorem any_walk (s : ByteArray) (v : Vw) (fuel : Int) (hv : ViewV w.heap.size w x.ar x.af x.aa x.nr x.nf x.na v) (hnr : x.nr ≤ maxLen) (hT : Tab64 w) (hone : 1 < w.heap.size) (hx : ∀ y ∈ [x0, x1, x2, x3, x4, x5, x6, x7], In64 y) (hfu : In64 fuel) :
    Calls Tryz.prog 8 #[.string s, .agg #[.slice x.ar x.nr x.cr, .slice x.af x.nf x.cf, .slice x.aa x.na x.ca], .agg #[.int .i64 x0, .int .i64 x1, .int .i64 x2, .int .i64 x3, .int .i64 x4, .int .i64 x5, .int .i64 x6, .int .i64 x7], .int .i64 fuel] w fun e w' => e = .returned (.bool true) ∧ Below w.heap.size w w' := by
  go_enter Tryz.func8, Tryz.ntmps8
  go_wp2_with fail
  have a0 := any_first w x x0 x1 x2 x3 x4 x5 x6 x7
  refine (lives_any (hT.later a0.below hone) (by have := a0.lt; omega)).mono ?_
  rintro e w1 ⟨rfl, hb1⟩
  have a1 := a0.later hb1
  have HA1 : Hid (AnyIn w w1 x x0 x1 x2 x3 x4 x5 x6 x7) := a1
  clear a0 hb1 a1
  go_wp2_with fail
  refine (load_any w1 s).mono ?_
  rintro e w2 ⟨hb2, h⟩
  have a2 := HA1.out.later hb2
  clear HA1 hb2
  rcases h with ⟨ht, C, hCl, rfl, hcd⟩ | ⟨ht, rfl⟩
  rotate_left
  · have HB : Hid (Below w.heap.size w w2) := a2.below
    clear a2 ht hv hT hx
    go_wp2_with fail
    go_ret
    exact ⟨rfl, HB.out⟩
  obtain ⟨hl, hbad⟩ := takes_parts ht
  have hfin := Hx.loaded_final _ hl hbad
  have hn0 : 0 ≤ (loaded s.data.toList).need := by have := hfin.need; omega
  have hn1 : (loaded s.data.toList).need ≤ 40000040 := hfin.most
  generalize hne : (loaded s.data.toList).need = need at *
  have dn : decide (need < 0) = false := by simp; omega
  have HN2 : Hid (Calls Tryz.prog 17 #[.pointer (some ⟨C, 0, none⟩)] w2 fun e w' => e = .returned (.int .i64 need) ∧ w' = w2) := need_any (by rw [← hne]; exact hcd.need)
  have HA2 : Hid (AnyIn w w2 x x0 x1 x2 x3 x4 x5 x6 x7 ∧ Coded w2 C (loaded s.data.toList)) := ⟨a2, hcd⟩
  have q0 : w2.cell? ⟨w.heap.size, 0, none⟩ = some (.slice x.ar x.nr x.cr) := cell_at a2.b0
  have q1 : w2.cell? ⟨w.heap.size, 1, none⟩ = some (.slice x.af x.nf x.cf) := cell_at a2.b0
  have q2 : w2.cell? ⟨w.heap.size, 2, none⟩ = some (.slice x.aa x.na x.ca) := cell_at a2.b0
  have hlt2 := a2.lt
  have HV2 : Hid (Calls Tryz.prog 29 #[.agg #[.slice x.ar x.nr x.cr, .slice x.af x.nf x.cf, .slice x.aa x.na x.ca]] w2 fun e w' => ∃ vr vf va, e = .returned (.agg #[vr, vf, va]) ∧ VoOut w2 w' vr vf va (addRoads [] v.roads) (v.fresh.take 16) (v.again.take 16)) := viewOf_any x v (hv.later a2.below (by omega)) hnr
  have HNE : Hid ((loaded s.data.toList).need = need) := hne
  have HT : Hid (takes s.data.toList = true ∧ Tab64 w ∧ v.inRange ∧ (∀ y ∈ [x0, x1, x2, x3, x4, x5, x6, x7], In64 y) ∧ In64 fuel) := ⟨ht, hT, hv.rng, hx, hfu⟩
  clear a2 hcd ht hv hT hx hfu hne hfin hbad hl hnr
  go_wp2_with (go_at_call 17; refine HN2.out.mono ?_; rintro e w' ⟨rfl, hw⟩; have hw' := hw.symm; subst hw'; clear hw)
  refine HV2.out.mono ?_
  rintro e w3 ⟨vr, vf, va, rfl, hvo⟩
  obtain ⟨ar, af, aa, cr, cf, ca, rfl, rfl, rfl, hview⟩ := hvo.view HT.out.2.2.1
  have hok : viewOk (viewOut v) = true := viewOut_ok v HT.out.2.2.1
  generalize viewOut v = u at *
  have a3 := HA2.out.1.later hvo.below
  have hcd3 := HA2.out.2.later hvo.below
  -- behind the box of the view
  generalize hVO : Obj.cells #[Value.slice ar u.roads.length cr, .slice af u.fresh.length cf, .slice aa u.again.length ca] 25 = ov
  have hal : Below w3.heap.size w3 (w3.alloc ov) := Below.of_grown (World.grownBy_alloc w3 ov none)
  have hV3 : (w3.alloc ov).heap[w3.heap.size]? = some ov := heap_alloc_new w3 ov
  have hvw := hview.later hal hal.size
  generalize u.roads.length = nr at *
  generalize u.fresh.length = nf at *
  generalize u.again.length = na at *
  generalize hW : w3.alloc ov = W at *
  have HW : Hid (w3.alloc (Obj.cells #[Value.slice ar nr cr, .slice af nf cf, .slice aa na ca] 25) = W) := by rw [hVO]; exact hW
  have aW := a3.later hal
  have cW := hcd3.later hal
  have HOV : Hid (W.heap[w3.heap.size]? = some (Obj.cells #[Value.slice ar nr cr, .slice af nf cf, .slice aa na ca] 25)) := by rw [hVO]; exact hV3
  have hWs : w3.heap.size < W.heap.size := lt_of_some HOV.out
  have HNW : Hid (Calls Tryz.prog 17 #[.pointer (some ⟨C, 0, none⟩)] W fun e w' => e = .returned (.int .i64 need) ∧ w' = W) := need_any (by rw [← HNE.out]; exact cW.need)
  have HAW : Hid (AnyIn w W x x0 x1 x2 x3 x4 x5 x6 x7 ∧ Coded W C (loaded s.data.toList) ∧ ViewV W.heap.size W ar af aa nr nf na u ∧ viewOk u = true) := ⟨aW, cW, hvw, hok⟩
  clear HV2 HA2 HN2 q0 q1 q2 hvo hview a3 hcd3 hal hV3 hvw hW aW cW hok hVO
  have Wv0 : W.cell? ⟨w3.heap.size, 0, none⟩ = some (.slice ar nr cr) := cell_at HOV.out
  have Wv1 : W.cell? ⟨w3.heap.size, 1, none⟩ = some (.slice af nf cf) := cell_at HOV.out
  have Wv2 : W.cell? ⟨w3.heap.size, 2, none⟩ = some (.slice aa na ca) := cell_at HOV.out
  have Wr0 : W.cell? ⟨w.heap.size + 1, 0, none⟩ = some (.int .i64 x0) := cell_at HAW.out.1.b1
  have Wr1 : W.cell? ⟨w.heap.size + 1, 1, none⟩ = some (.int .i64 x1) := cell_at HAW.out.1.b1
  have Wr2 : W.cell? ⟨w.heap.size + 1, 2, none⟩ = some (.int .i64 x2) := cell_at HAW.out.1.b1
  have Wr3 : W.cell? ⟨w.heap.size + 1, 3, none⟩ = some (.int .i64 x3) := cell_at HAW.out.1.b1
  have Wr4 : W.cell? ⟨w.heap.size + 1, 4, none⟩ = some (.int .i64 x4) := cell_at HAW.out.1.b1
  have Wr5 : W.cell? ⟨w.heap.size + 1, 5, none⟩ = some (.int .i64 x5) := cell_at HAW.out.1.b1
  have Wr6 : W.cell? ⟨w.heap.size + 1, 6, none⟩ = some (.int .i64 x6) := cell_at HAW.out.1.b1
  have Wr7 : W.cell? ⟨w.heap.size + 1, 7, none⟩ = some (.int .i64 x7) := cell_at HAW.out.1.b1
  by_cases hbig : 2000000 < need
  · have db : decide (2000000 < need) = true := decide_eq_true hbig
    have HF : Hid (Below w.heap.size w W) := HAW.out.1.below
    clear HAW HT
    go_wp2_with (first | (rw [HW.out]; go_at_call 17; refine HNW.out.mono ?_; rintro e w' ⟨rfl, hw⟩; have hw' := hw.symm; subst hw'; clear hw))
    go_ret
    exact ⟨rfl, HF.out⟩
  have db : decide (2000000 < need) = false := decide_eq_false hbig
  obtain ⟨ht, hT0, hrng, hx, hfu⟩ := HT.out
  obtain ⟨aW, cW, hvw, hok⟩ := HAW.out
  have hsW : w.heap.size < W.heap.size := by have := aW.lt; omega
  obtain ⟨la1, la2, la3, la4⟩ := out_laws u hok s.data.toList ht fuel x0 x1 x2 x3 x4 x5 x6 x7
  have lb1 := (out_laws u hok s.data.toList ht need x0 x1 x2 x3 x4 x5 x6 x7).1
  rw [HNE.out] at la2 la3 la4
  have HRa : Hid (Calls Tryz.prog 16 #[.pointer (some ⟨C, 0, none⟩), .agg #[.slice ar nr cr, .slice af nf cf, .slice aa na ca], .agg #[.int .i64 x0, .int .i64 x1, .int .i64 x2, .int .i64 x3, .int .i64 x4, .int .i64 x5, .int .i64 x6, .int .i64 x7], .int .i64 fuel] W fun e w' =>
      ∃ va, e = .returned (resultV (outOf u s.data.toList fuel x0 x1 x2 x3 x4 x5 x6 x7).status va (outOf u s.data.toList fuel x0 x1 x2 x3 x4 x5 x6 x7).regs) ∧
        w'.ownsRow W.heap.size 76 2 va (outOf u s.data.toList fuel x0 x1 x2 x3 x4 x5 x6 x7).acts.length (actCells (outOf u s.data.toList fuel x0 x1 x2 x3 x4 x5 x6 x7).acts) ∧ Below W.heap.size W w') := run_coded W C _ ht cW u ar af aa nr cr nf cf na ca x0 x1 x2 x3 x4 x5 x6 x7 fuel hvw (hT0.later aW.below hone) (by omega) hx hfu.2
  have HRb : Hid (∀ y : World, Below W.heap.size W y → Calls Tryz.prog 16 #[.pointer (some ⟨C, 0, none⟩), .agg #[.slice ar nr cr, .slice af nf cf, .slice aa na ca], .agg #[.int .i64 x0, .int .i64 x1, .int .i64 x2, .int .i64 x3, .int .i64 x4, .int .i64 x5, .int .i64 x6, .int .i64 x7], .int .i64 need] y fun e w' =>
      ∃ va, e = .returned (resultV (outOf u s.data.toList need x0 x1 x2 x3 x4 x5 x6 x7).status va (outOf u s.data.toList need x0 x1 x2 x3 x4 x5 x6 x7).regs) ∧
        w'.ownsRow y.heap.size 76 2 va (outOf u s.data.toList need x0 x1 x2 x3 x4 x5 x6 x7).acts.length (actCells (outOf u s.data.toList need x0 x1 x2 x3 x4 x5 x6 x7).acts) ∧ Below y.heap.size y w') := fun y hy =>
    run_coded y C _ ht (cW.later hy) u ar af aa nr cr nf cf na ca x0 x1 x2 x3 x4 x5 x6 x7 need (hvw.later hy hy.size) (hT0.later (aW.below.trans (hy.mono (by omega))) hone) (by have := hy.size; omega) hx (by omega)
  have HHa : Hid (∀ (y : World) (va : Value), Below W.heap.size W y → y.ownsRow W.heap.size 76 2 va (outOf u s.data.toList fuel x0 x1 x2 x3 x4 x5 x6 x7).acts.length (actCells (outOf u s.data.toList fuel x0 x1 x2 x3 x4 x5 x6 x7).acts) → Calls Tryz.prog 32 #[resultV (outOf u s.data.toList fuel x0 x1 x2 x3 x4 x5 x6 x7).status va (outOf u s.data.toList fuel x0 x1 x2 x3 x4 x5 x6 x7).regs, .agg #[.slice ar nr cr, .slice af nf cf, .slice aa na ca], .agg #[.int .i64 x0, .int .i64 x1, .int .i64 x2, .int .i64 x3, .int .i64 x4, .int .i64 x5, .int .i64 x6, .int .i64 x7]] y fun e w' => e = .returned (.bool true) ∧ Below y.heap.size y w') := fun y va hy hr =>
    held_any _ u x0 x1 x2 x3 x4 x5 x6 x7 la1 va ar af aa nr cr nf cf na ca W.heap.size hr (hvw.later hy hy.size) hok
  have HHb : Hid (∀ (y : World) (va : Value) (B : Nat), Below W.heap.size W y → y.ownsRow B 76 2 va (outOf u s.data.toList need x0 x1 x2 x3 x4 x5 x6 x7).acts.length (actCells (outOf u s.data.toList need x0 x1 x2 x3 x4 x5 x6 x7).acts) → Calls Tryz.prog 32 #[resultV (outOf u s.data.toList need x0 x1 x2 x3 x4 x5 x6 x7).status va (outOf u s.data.toList need x0 x1 x2 x3 x4 x5 x6 x7).regs, .agg #[.slice ar nr cr, .slice af nf cf, .slice aa na ca], .agg #[.int .i64 x0, .int .i64 x1, .int .i64 x2, .int .i64 x3, .int .i64 x4, .int .i64 x5, .int .i64 x6, .int .i64 x7]] y fun e w' => e = .returned (.bool true) ∧ Below y.heap.size y w') := fun y va B hy hr =>
    held_any _ u x0 x1 x2 x3 x4 x5 x6 x7 lb1 va ar af aa nr cr nf cf na ca B hr (hvw.later hy hy.size) hok
  have HNy : Hid (∀ y : World, Below W.heap.size W y → Calls Tryz.prog 17 #[.pointer (some ⟨C, 0, none⟩)] y fun e w' => e = .returned (.int .i64 need) ∧ w' = y) := fun y hy => need_any (by rw [← HNE.out]; exact (cW.later hy).need)
  have HLW : Hid ((outOf u s.data.toList need x0 x1 x2 x3 x4 x5 x6 x7).status ≠ 2 ∧ ((outOf u s.data.toList fuel x0 x1 x2 x3 x4 x5 x6 x7).status = 2 → fuel < need) ∧ ((outOf u s.data.toList fuel x0 x1 x2 x3 x4 x5 x6 x7).status ≠ 2 → (outOf u s.data.toList fuel x0 x1 x2 x3 x4 x5 x6 x7).status = (outOf u s.data.toList need x0 x1 x2 x3 x4 x5 x6 x7).status ∧ (outOf u s.data.toList fuel x0 x1 x2 x3 x4 x5 x6 x7).acts.length = (outOf u s.data.toList need x0 x1 x2 x3 x4 x5 x6 x7).acts.length ∧ (outOf u s.data.toList fuel x0 x1 x2 x3 x4 x5 x6 x7).regs.getD 0 0 = (outOf u s.data.toList need x0 x1 x2 x3 x4 x5 x6 x7).regs.getD 0 0 ∧ (outOf u s.data.toList fuel x0 x1 x2 x3 x4 x5 x6 x7).regs.getD 1 0 = (outOf u s.data.toList need x0 x1 x2 x3 x4 x5 x6 x7).regs.getD 1 0 ∧ (outOf u s.data.toList fuel x0 x1 x2 x3 x4 x5 x6 x7).regs.getD 2 0 = (outOf u s.data.toList need x0 x1 x2 x3 x4 x5 x6 x7).regs.getD 2 0 ∧ (outOf u s.data.toList fuel x0 x1 x2 x3 x4 x5 x6 x7).regs.getD 3 0 = (outOf u s.data.toList need x0 x1 x2 x3 x4 x5 x6 x7).regs.getD 3 0 ∧ (outOf u s.data.toList fuel x0 x1 x2 x3 x4 x5 x6 x7).regs.getD 4 0 = (outOf u s.data.toList need x0 x1 x2 x3 x4 x5 x6 x7).regs.getD 4 0 ∧ (outOf u s.data.toList fuel x0 x1 x2 x3 x4 x5 x6 x7).regs.getD 5 0 = (outOf u s.data.toList need x0 x1 x2 x3 x4 x5 x6 x7).regs.getD 5 0 ∧ (outOf u s.data.toList fuel x0 x1 x2 x3 x4 x5 x6 x7).regs.getD 6 0 = (outOf u s.data.toList need x0 x1 x2 x3 x4 x5 x6 x7).regs.getD 6 0 ∧ (outOf u s.data.toList fuel x0 x1 x2 x3 x4 x5 x6 x7).regs.getD 7 0 = (outOf u s.data.toList need x0 x1 x2 x3 x4 x5 x6 x7).regs.getD 7 0)) := ⟨la2, la3, fun h => by rw [la4 h]; exact ⟨rfl, rfl, rfl, rfl, rfl, rfl, rfl, rfl, rfl, rfl⟩⟩
  generalize outOf u s.data.toList fuel x0 x1 x2 x3 x4 x5 x6 x7 = oa at *
  generalize outOf u s.data.toList need x0 x1 x2 x3 x4 x5 x6 x7 = ob at *
  simp only [resultV] at HRa HRb HHa HHb
  generalize oa.status = sa at *
  generalize ob.status = sb at *
  generalize oa.regs.getD 0 0 = y0 at *
  generalize ob.regs.getD 0 0 = z0 at *
  generalize oa.regs.getD 1 0 = y1 at *
  generalize ob.regs.getD 1 0 = z1 at *
  generalize oa.regs.getD 2 0 = y2 at *
  generalize ob.regs.getD 2 0 = z2 at *
  generalize oa.regs.getD 3 0 = y3 at *
  generalize ob.regs.getD 3 0 = z3 at *
  generalize oa.regs.getD 4 0 = y4 at *
  generalize ob.regs.getD 4 0 = z4 at *
  generalize oa.regs.getD 5 0 = y5 at *
  generalize ob.regs.getD 5 0 = z5 at *
  generalize oa.regs.getD 6 0 = y6 at *
  generalize ob.regs.getD 6 0 = z6 at *
  generalize oa.regs.getD 7 0 = y7 at *
  generalize ob.regs.getD 7 0 = z7 at *
  generalize actCells oa.acts = ka at *
  generalize actCells ob.acts = kb at *
  generalize oa.acts.length = la at *
  generalize ob.acts.length = lb at *
  clear la1 la2 la3 la4 lb1 ht hT0 hrng hx hfu aW cW hvw hok HT
  go_wp2_with (first | (rw [HW.out]; go_at_call 17; refine HNW.out.mono ?_; rintro e w' ⟨rfl, hw⟩; have hw' := hw.symm; subst hw'; clear hw))
  refine HRa.out.mono ?_
  rintro e w5 ⟨va, rfl, hra, hb5⟩
  obtain ⟨a1, c1, rfl⟩ := slice_form hra
  generalize hoa : Obj.cells #[Value.int .u8 sa, .slice a1 la c1, .int .i64 y0, .int .i64 y1, .int .i64 y2, .int .i64 y3, .int .i64 y4, .int .i64 y5, .int .i64 y6, .int .i64 y7] 35 = oR
  have hal5 : Below w5.heap.size w5 (w5.alloc oR) := Below.of_grown (World.grownBy_alloc w5 oR none)
  have hA5 : (w5.alloc oR).heap[w5.heap.size]? = some oR := heap_alloc_new w5 oR
  have hra5 := hra.alloc oR
  generalize hW5 : w5.alloc oR = W5 at *
  have HW5 : Hid (w5.alloc (Obj.cells #[Value.int .u8 sa, .slice a1 la c1, .int .i64 y0, .int .i64 y1, .int .i64 y2, .int .i64 y3, .int .i64 y4, .int .i64 y5, .int .i64 y6, .int .i64 y7] 35) = W5) := by rw [hoa]; exact hW5
  have HA5 : Hid (W5.heap[w5.heap.size]? = some (Obj.cells #[Value.int .u8 sa, .slice a1 la c1, .int .i64 y0, .int .i64 y1, .int .i64 y2, .int .i64 y3, .int .i64 y4, .int .i64 y5, .int .i64 y6, .int .i64 y7] 35)) := by rw [hoa]; exact hA5
  have HB5 : Hid (Below W.heap.size W W5) := hb5.trans (hal5.mono hb5.size)
  have HO5 : Hid (W5.ownsRow W.heap.size 76 2 (.slice a1 la c1) la ka) := hra5
  have hs5 : w5.heap.size < W5.heap.size := lt_of_some HA5.out
  have hs5' : W.heap.size ≤ w5.heap.size := hb5.size
  clear hoa hal5 hA5 hra5 hW5 hra hb5 HRa HNW Wv0 Wv1 Wv2 Wr0 Wr1 Wr2 Wr3 Wr4 Wr5 Wr6 Wr7
  have V5 : W5.heap[w3.heap.size]? = some (Obj.cells #[Value.slice ar nr cr, .slice af nf cf, .slice aa na ca] 25) := (HB5.out.block _ hWs).trans HOV.out
  have R5 : W5.heap[w.heap.size + 1]? = some (Obj.cells #[Value.int .i64 x0, .int .i64 x1, .int .i64 x2, .int .i64 x3, .int .i64 x4, .int .i64 x5, .int .i64 x6, .int .i64 x7] 26) := (HB5.out.block _ HAW.out.1.lt).trans HAW.out.1.b1
  have v0 : W5.cell? ⟨w3.heap.size, 0, none⟩ = some (.slice ar nr cr) := cell_at V5
  have v1 : W5.cell? ⟨w3.heap.size, 1, none⟩ = some (.slice af nf cf) := cell_at V5
  have v2 : W5.cell? ⟨w3.heap.size, 2, none⟩ = some (.slice aa na ca) := cell_at V5
  have r0 : W5.cell? ⟨w.heap.size + 1, 0, none⟩ = some (.int .i64 x0) := cell_at R5
  have r1 : W5.cell? ⟨w.heap.size + 1, 1, none⟩ = some (.int .i64 x1) := cell_at R5
  have r2 : W5.cell? ⟨w.heap.size + 1, 2, none⟩ = some (.int .i64 x2) := cell_at R5
  have r3 : W5.cell? ⟨w.heap.size + 1, 3, none⟩ = some (.int .i64 x3) := cell_at R5
  have r4 : W5.cell? ⟨w.heap.size + 1, 4, none⟩ = some (.int .i64 x4) := cell_at R5
  have r5 : W5.cell? ⟨w.heap.size + 1, 5, none⟩ = some (.int .i64 x5) := cell_at R5
  have r6 : W5.cell? ⟨w.heap.size + 1, 6, none⟩ = some (.int .i64 x6) := cell_at R5
  have r7 : W5.cell? ⟨w.heap.size + 1, 7, none⟩ = some (.int .i64 x7) := cell_at R5
  have HV5 : Hid (W5.heap[w3.heap.size]? = some (Obj.cells #[Value.slice ar nr cr, .slice af nf cf, .slice aa na ca] 25)) := V5
  have HR5 : Hid (W5.heap[w.heap.size + 1]? = some (Obj.cells #[Value.int .i64 x0, .int .i64 x1, .int .i64 x2, .int .i64 x3, .int .i64 x4, .int .i64 x5, .int .i64 x6, .int .i64 x7] 26)) := R5
  have HN5 : Hid (∀ n, Calls Tryz.prog 17 #[.pointer (some ⟨C, 0, none⟩)] (W5.drewN n) fun e w' => e = .returned (.int .i64 need) ∧ w' = W5.drewN n) := fun n => HNy.out _ (HB5.out.trans ((Below.drewN' W5 n).mono (by omega)))
  clear V5 R5
  have nc : W5.cell? ⟨C, 2, none⟩ = some (.int .i64 need) := by rw [← HNE.out]; exact (HAW.out.2.1.later HB5.out).need
  have cl : C < W5.heap.size := (HAW.out.2.1.later HB5.out).lt
  have cn : ¬ C = W5.heap.size := by omega
  have NC2 : Hid (∀ o, (W5.alloc o).drew.cell? ⟨C, 2, none⟩ = some (.int .i64 need)) := fun o => (World.cell?_of_block (a := ⟨C, 2, none⟩) (Below.heap_alloc W5 o C cl)).trans nc
  have vl : w3.heap.size < W5.heap.size := by omega
  have vn : ¬ w3.heap.size = W5.heap.size := by omega
  have rl : w.heap.size + 1 < W5.heap.size := by have := HAW.out.1.lt; omega
  have rn : ¬ w.heap.size + 1 = W5.heap.size := by omega
  have HRA : Hid (Calls Tryz.prog 16 #[.pointer (some ⟨C, 0, none⟩), .agg #[.slice ar nr cr, .slice af nf cf, .slice aa na ca], .agg #[.int .i64 x0, .int .i64 x1, .int .i64 x2, .int .i64 x3, .int .i64 x4, .int .i64 x5, .int .i64 x6, .int .i64 x7], .int .i64 need] W5.drew fun e w' => ∃ a2 c2, e = .returned (.agg #[.int .u8 sb, .slice a2 lb c2, .int .i64 z0, .int .i64 z1, .int .i64 z2, .int .i64 z3, .int .i64 z4, .int .i64 z5, .int .i64 z6, .int .i64 z7]) ∧ w'.ownsRow W5.heap.size 76 2 (.slice a2 lb c2) lb kb ∧ Below W5.heap.size W5 w') := by
    have hd : Below W5.heap.size W5 W5.drew := ⟨rfl, rfl, rfl, Nat.le_refl _, fun _ _ => rfl⟩
    refine (HRb.out _ (HB5.out.trans (hd.mono (by omega)))).mono ?_
    rintro e w' ⟨va, h1, h2, h3⟩
    obtain ⟨a2, c2, rfl⟩ := slice_form h2
    exact ⟨a2, c2, h1, h2, hd.trans h3⟩
  have HRB : Hid (Calls Tryz.prog 16 #[.pointer (some ⟨C, 0, none⟩), .agg #[.slice ar nr cr, .slice af nf cf, .slice aa na ca], .agg #[.int .i64 x0, .int .i64 x1, .int .i64 x2, .int .i64 x3, .int .i64 x4, .int .i64 x5, .int .i64 x6, .int .i64 x7], .int .i64 need] (W5.alloc (Obj.cells #[Value.int .u8 0, .slice none 0 0, .int .i64 0, .int .i64 0, .int .i64 0, .int .i64 0, .int .i64 0, .int .i64 0, .int .i64 0, .int .i64 0] 35)).drew fun e w' => ∃ a2 c2, e = .returned (.agg #[.int .u8 sb, .slice a2 lb c2, .int .i64 z0, .int .i64 z1, .int .i64 z2, .int .i64 z3, .int .i64 z4, .int .i64 z5, .int .i64 z6, .int .i64 z7]) ∧ w'.ownsRow (W5.heap.size + 1) 76 2 (.slice a2 lb c2) lb kb ∧ Below W5.heap.size W5 w' ∧ w'.heap[W5.heap.size]? = some (Obj.cells #[Value.int .u8 0, .slice none 0 0, .int .i64 0, .int .i64 0, .int .i64 0, .int .i64 0, .int .i64 0, .int .i64 0, .int .i64 0, .int .i64 0] 35)) := by
    generalize hoz : Obj.cells #[Value.int .u8 0, .slice none 0 0, .int .i64 0, .int .i64 0, .int .i64 0, .int .i64 0, .int .i64 0, .int .i64 0, .int .i64 0, .int .i64 0] 35 = oz
    have hd : Below W5.heap.size W5 (W5.alloc oz).drew := ((Below.refl _ W5).alloc (Nat.le_refl _) oz).drew
    have hsz : (W5.alloc oz).drew.heap.size = W5.heap.size + 1 := Array.size_push ..
    refine (HRb.out _ (HB5.out.trans (hd.mono (by omega)))).mono ?_
    rintro e w' ⟨va, h1, h2, h3⟩
    obtain ⟨a2, c2, rfl⟩ := slice_form h2
    rw [hsz] at h2 h3
    exact ⟨a2, c2, h1, h2, hd.trans (h3.mono (by omega)), (h3.block _ (by omega)).trans (heap_alloc_new W5 oz)⟩
  clear HRb HN5 HNy
  go_upto_region 13 with fail
  rw [HW5.out]
  go_cut [14] (fun p wx => ∃ Bk a2 c2, p = .pointer (some ⟨Bk, 0, none⟩) ∧ wx.heap[Bk]? = some (Obj.cells #[.int .u8 sb, .slice a2 lb c2, .int .i64 z0, .int .i64 z1, .int .i64 z2, .int .i64 z3, .int .i64 z4, .int .i64 z5, .int .i64 z6, .int .i64 z7] 35) ∧ wx.ownsRow W5.heap.size 76 2 (.slice a2 lb c2) lb kb ∧ Below W5.heap.size W5 wx)
  case first =>
    go_region_with (first
      | (go_at_call 17; refine (need_any (n := need) (by first | exact nc | exact NC2.out _ | (simp; exact nc))).mono ?_; rintro e w' ⟨rfl, rfl⟩)
      | (go_at_call 16; refine HRA.out.mono ?_; rintro e w7 ⟨a2, c2, rfl, hrb, hb7⟩)
      | (go_at_call 16; refine HRB.out.mono ?_; rintro e w7 ⟨a2, c2, rfl, hrb, hb7, hz7⟩; have zf : ∀ j, w7.frozen? ⟨W5.heap.size, j, none⟩ = false := fun j => frozen_at hz7; have zc := fun j => cell_at (j := j) hz7; have zc0 := zc 0; have zc1 := zc 1; have zc2 := zc 2; have zc3 := zc 3; have zc4 := zc 4; have zc5 := zc 5; have zc6 := zc 6; have zc7 := zc 7; have zc8 := zc 8; have zc9 := zc 9; have HZ7 : Hid (w7.heap[W5.heap.size]? = some (Obj.cells #[Value.int .u8 0, .slice none 0 0, .int .i64 0, .int .i64 0, .int .i64 0, .int .i64 0, .int .i64 0, .int .i64 0, .int .i64 0, .int .i64 0] 35)) := hz7; clear zc hz7))
    all_goals (go_wp2_with fail; go_meet; first | (have hZ := HZ7.out; have T := @tailB W5 w7 a2 c2 lb kb sb z0 z1 z2 z3 z4 z5 z6 z7 hrb hb7 hZ; exact T) | (have T := @tailA W5 w7 a2 c2 lb kb sb z0 z1 z2 z3 z4 z5 z6 z7 hrb hb7; exact T))
  case rest =>
    obtain ⟨Bk, a2, c2, rfl, hBk, hrb, hb8⟩ := hcut
    have HALL : Hid (∀ y, Below wc.heap.size wc y → y.heap[w3.heap.size]? = some (Obj.cells #[Value.slice ar nr cr, .slice af nf cf, .slice aa na ca] 25) ∧ y.heap[w.heap.size + 1]? = some (Obj.cells #[Value.int .i64 x0, .int .i64 x1, .int .i64 x2, .int .i64 x3, .int .i64 x4, .int .i64 x5, .int .i64 x6, .int .i64 x7] 26) ∧ y.heap[w5.heap.size]? = some (Obj.cells #[Value.int .u8 sa, .slice a1 la c1, .int .i64 y0, .int .i64 y1, .int .i64 y2, .int .i64 y3, .int .i64 y4, .int .i64 y5, .int .i64 y6, .int .i64 y7] 35) ∧ y.heap[Bk]? = some (Obj.cells #[.int .u8 sb, .slice a2 lb c2, .int .i64 z0, .int .i64 z1, .int .i64 z2, .int .i64 z3, .int .i64 z4, .int .i64 z5, .int .i64 z6, .int .i64 z7] 35)) := fun y hy => by
      have hs := hb8.size
      exact ⟨(hy.block _ (by omega)).trans ((hb8.block _ (by omega)).trans HV5.out), (hy.block _ (by omega)).trans ((hb8.block _ (by omega)).trans HR5.out), (hy.block _ (by omega)).trans ((hb8.block _ (by omega)).trans HA5.out), (hy.block _ (lt_of_some hBk)).trans hBk⟩
    have hw8 : Below W.heap.size W wc := HB5.out.trans (hb8.mono (by omega))
    have hra8 : wc.ownsRow W.heap.size 76 2 (.slice a1 la c1) la ka := by
      refine HO5.out.kept (w' := wc) (row := none) ⟨hb8.os, hb8.tape, hb8.output, hb8.size, fun k hk _ => hb8.block k hk⟩ (by cases Value.ownBlock (.slice a1 la c1) <;> simp)
    have HHA : Hid (Calls Tryz.prog 32 #[.agg #[.int .u8 sa, .slice a1 la c1, .int .i64 y0, .int .i64 y1, .int .i64 y2, .int .i64 y3, .int .i64 y4, .int .i64 y5, .int .i64 y6, .int .i64 y7], .agg #[.slice ar nr cr, .slice af nf cf, .slice aa na ca], .agg #[.int .i64 x0, .int .i64 x1, .int .i64 x2, .int .i64 x3, .int .i64 x4, .int .i64 x5, .int .i64 x6, .int .i64 x7]] wc fun e w' => e = .returned (.bool true) ∧ Below wc.heap.size wc w') := HHa.out wc _ hw8 hra8
    have HHB : Hid (∀ y, Below wc.heap.size wc y → Calls Tryz.prog 32 #[.agg #[.int .u8 sb, .slice a2 lb c2, .int .i64 z0, .int .i64 z1, .int .i64 z2, .int .i64 z3, .int .i64 z4, .int .i64 z5, .int .i64 z6, .int .i64 z7], .agg #[.slice ar nr cr, .slice af nf cf, .slice aa na ca], .agg #[.int .i64 x0, .int .i64 x1, .int .i64 x2, .int .i64 x3, .int .i64 x4, .int .i64 x5, .int .i64 x6, .int .i64 x7]] y fun e w' => e = .returned (.bool true) ∧ Below y.heap.size y w') := fun y hy => by
      have hs := hw8.size
      exact HHb.out y _ W5.heap.size (hw8.trans (hy.mono (by omega))) (hrb.kept (w' := y) (row := none) ⟨hy.os, hy.tape, hy.output, hy.size, fun k hk _ => hy.block k hk⟩ (by cases Value.ownBlock (.slice a2 lb c2) <;> simp))
    have HNC : Hid (∀ y, Below wc.heap.size wc y → y.cell? ⟨C, 2, none⟩ = some (.int .i64 need)) := fun y hy => by
      have hs := hb8.size
      exact (hy.cell (p := ⟨C, 2, none⟩) (by show C < _; omega)).trans ((hb8.cell (p := ⟨C, 2, none⟩) cl).trans nc)
    have HBW : Hid (Below w.heap.size w wc) := HAW.out.1.below.trans (hw8.mono (by omega))
    have HSZ : Hid (w.heap.size ≤ wc.heap.size) := by have := hw8.size; show _ ≤ _; omega
    have hh := HALL.out wc (Below.refl _ _)
    clear v0 v1 v2 r0 r1 r2 r3 r4 r5 r6 r7 HRA HRB HV5 HR5 HA5 HB5 HO5 HHa HHb hBk hrb hb8 hw8 hra8 nc cl cn NC2 vl vn rl rn hs5 hs5' HAW HOV hWs hsW HW HW5 HNE
    have wcv0 : wc.cell? ⟨w3.heap.size, 0, none⟩ = some (.slice ar nr cr) := cell_at hh.1
    have wcv1 : wc.cell? ⟨w3.heap.size, 1, none⟩ = some (.slice af nf cf) := cell_at hh.1
    have wcv2 : wc.cell? ⟨w3.heap.size, 2, none⟩ = some (.slice aa na ca) := cell_at hh.1
    have wcr0 : wc.cell? ⟨w.heap.size + 1, 0, none⟩ = some (.int .i64 x0) := cell_at hh.2.1
    have wcr1 : wc.cell? ⟨w.heap.size + 1, 1, none⟩ = some (.int .i64 x1) := cell_at hh.2.1
    have wcr2 : wc.cell? ⟨w.heap.size + 1, 2, none⟩ = some (.int .i64 x2) := cell_at hh.2.1
    have wcr3 : wc.cell? ⟨w.heap.size + 1, 3, none⟩ = some (.int .i64 x3) := cell_at hh.2.1
    have wcr4 : wc.cell? ⟨w.heap.size + 1, 4, none⟩ = some (.int .i64 x4) := cell_at hh.2.1
    have wcr5 : wc.cell? ⟨w.heap.size + 1, 5, none⟩ = some (.int .i64 x5) := cell_at hh.2.1
    have wcr6 : wc.cell? ⟨w.heap.size + 1, 6, none⟩ = some (.int .i64 x6) := cell_at hh.2.1
    have wcr7 : wc.cell? ⟨w.heap.size + 1, 7, none⟩ = some (.int .i64 x7) := cell_at hh.2.1
    have wca0 : wc.cell? ⟨w5.heap.size, 0, none⟩ = some (.int .u8 sa) := cell_at hh.2.2.1
    have wcb0 : wc.cell? ⟨Bk, 0, none⟩ = some (.int .u8 sb) := cell_at hh.2.2.2
    have wca1 : wc.cell? ⟨w5.heap.size, 1, none⟩ = some (.slice a1 la c1) := cell_at hh.2.2.1
    have wcb1 : wc.cell? ⟨Bk, 1, none⟩ = some (.slice a2 lb c2) := cell_at hh.2.2.2
    have wca2 : wc.cell? ⟨w5.heap.size, 2, none⟩ = some (.int .i64 y0) := cell_at hh.2.2.1
    have wcb2 : wc.cell? ⟨Bk, 2, none⟩ = some (.int .i64 z0) := cell_at hh.2.2.2
    have wca3 : wc.cell? ⟨w5.heap.size, 3, none⟩ = some (.int .i64 y1) := cell_at hh.2.2.1
    have wcb3 : wc.cell? ⟨Bk, 3, none⟩ = some (.int .i64 z1) := cell_at hh.2.2.2
    have wca4 : wc.cell? ⟨w5.heap.size, 4, none⟩ = some (.int .i64 y2) := cell_at hh.2.2.1
    have wcb4 : wc.cell? ⟨Bk, 4, none⟩ = some (.int .i64 z2) := cell_at hh.2.2.2
    have wca5 : wc.cell? ⟨w5.heap.size, 5, none⟩ = some (.int .i64 y3) := cell_at hh.2.2.1
    have wcb5 : wc.cell? ⟨Bk, 5, none⟩ = some (.int .i64 z3) := cell_at hh.2.2.2
    have wca6 : wc.cell? ⟨w5.heap.size, 6, none⟩ = some (.int .i64 y4) := cell_at hh.2.2.1
    have wcb6 : wc.cell? ⟨Bk, 6, none⟩ = some (.int .i64 z4) := cell_at hh.2.2.2
    have wca7 : wc.cell? ⟨w5.heap.size, 7, none⟩ = some (.int .i64 y5) := cell_at hh.2.2.1
    have wcb7 : wc.cell? ⟨Bk, 7, none⟩ = some (.int .i64 z5) := cell_at hh.2.2.2
    have wca8 : wc.cell? ⟨w5.heap.size, 8, none⟩ = some (.int .i64 y6) := cell_at hh.2.2.1
    have wcb8 : wc.cell? ⟨Bk, 8, none⟩ = some (.int .i64 z6) := cell_at hh.2.2.2
    have wca9 : wc.cell? ⟨w5.heap.size, 9, none⟩ = some (.int .i64 y7) := cell_at hh.2.2.1
    have wcb9 : wc.cell? ⟨Bk, 9, none⟩ = some (.int .i64 z7) := cell_at hh.2.2.2
    clear hh
    go_wp2_with fail
    refine HHA.out.mono ?_
    rintro e wd ⟨rfl, hbd⟩
    have hh := HALL.out wd hbd
    have wdv0 : wd.cell? ⟨w3.heap.size, 0, none⟩ = some (.slice ar nr cr) := cell_at hh.1
    have wdv1 : wd.cell? ⟨w3.heap.size, 1, none⟩ = some (.slice af nf cf) := cell_at hh.1
    have wdv2 : wd.cell? ⟨w3.heap.size, 2, none⟩ = some (.slice aa na ca) := cell_at hh.1
    have wdr0 : wd.cell? ⟨w.heap.size + 1, 0, none⟩ = some (.int .i64 x0) := cell_at hh.2.1
    have wdr1 : wd.cell? ⟨w.heap.size + 1, 1, none⟩ = some (.int .i64 x1) := cell_at hh.2.1
    have wdr2 : wd.cell? ⟨w.heap.size + 1, 2, none⟩ = some (.int .i64 x2) := cell_at hh.2.1
    have wdr3 : wd.cell? ⟨w.heap.size + 1, 3, none⟩ = some (.int .i64 x3) := cell_at hh.2.1
    have wdr4 : wd.cell? ⟨w.heap.size + 1, 4, none⟩ = some (.int .i64 x4) := cell_at hh.2.1
    have wdr5 : wd.cell? ⟨w.heap.size + 1, 5, none⟩ = some (.int .i64 x5) := cell_at hh.2.1
    have wdr6 : wd.cell? ⟨w.heap.size + 1, 6, none⟩ = some (.int .i64 x6) := cell_at hh.2.1
    have wdr7 : wd.cell? ⟨w.heap.size + 1, 7, none⟩ = some (.int .i64 x7) := cell_at hh.2.1
    have wda0 : wd.cell? ⟨w5.heap.size, 0, none⟩ = some (.int .u8 sa) := cell_at hh.2.2.1
    have wdb0 : wd.cell? ⟨Bk, 0, none⟩ = some (.int .u8 sb) := cell_at hh.2.2.2
    have wda1 : wd.cell? ⟨w5.heap.size, 1, none⟩ = some (.slice a1 la c1) := cell_at hh.2.2.1
    have wdb1 : wd.cell? ⟨Bk, 1, none⟩ = some (.slice a2 lb c2) := cell_at hh.2.2.2
    have wda2 : wd.cell? ⟨w5.heap.size, 2, none⟩ = some (.int .i64 y0) := cell_at hh.2.2.1
    have wdb2 : wd.cell? ⟨Bk, 2, none⟩ = some (.int .i64 z0) := cell_at hh.2.2.2
    have wda3 : wd.cell? ⟨w5.heap.size, 3, none⟩ = some (.int .i64 y1) := cell_at hh.2.2.1
    have wdb3 : wd.cell? ⟨Bk, 3, none⟩ = some (.int .i64 z1) := cell_at hh.2.2.2
    have wda4 : wd.cell? ⟨w5.heap.size, 4, none⟩ = some (.int .i64 y2) := cell_at hh.2.2.1
    have wdb4 : wd.cell? ⟨Bk, 4, none⟩ = some (.int .i64 z2) := cell_at hh.2.2.2
    have wda5 : wd.cell? ⟨w5.heap.size, 5, none⟩ = some (.int .i64 y3) := cell_at hh.2.2.1
    have wdb5 : wd.cell? ⟨Bk, 5, none⟩ = some (.int .i64 z3) := cell_at hh.2.2.2
    have wda6 : wd.cell? ⟨w5.heap.size, 6, none⟩ = some (.int .i64 y4) := cell_at hh.2.2.1
    have wdb6 : wd.cell? ⟨Bk, 6, none⟩ = some (.int .i64 z4) := cell_at hh.2.2.2
    have wda7 : wd.cell? ⟨w5.heap.size, 7, none⟩ = some (.int .i64 y5) := cell_at hh.2.2.1
    have wdb7 : wd.cell? ⟨Bk, 7, none⟩ = some (.int .i64 z5) := cell_at hh.2.2.2
    have wda8 : wd.cell? ⟨w5.heap.size, 8, none⟩ = some (.int .i64 y6) := cell_at hh.2.2.1
    have wdb8 : wd.cell? ⟨Bk, 8, none⟩ = some (.int .i64 z6) := cell_at hh.2.2.2
    have wda9 : wd.cell? ⟨w5.heap.size, 9, none⟩ = some (.int .i64 y7) := cell_at hh.2.2.1
    have wdb9 : wd.cell? ⟨Bk, 9, none⟩ = some (.int .i64 z7) := cell_at hh.2.2.2
    have HHD : Hid (Calls Tryz.prog 32 #[.agg #[.int .u8 sb, .slice a2 lb c2, .int .i64 z0, .int .i64 z1, .int .i64 z2, .int .i64 z3, .int .i64 z4, .int .i64 z5, .int .i64 z6, .int .i64 z7], .agg #[.slice ar nr cr, .slice af nf cf, .slice aa na ca], .agg #[.int .i64 x0, .int .i64 x1, .int .i64 x2, .int .i64 x3, .int .i64 x4, .int .i64 x5, .int .i64 x6, .int .i64 x7]] wd fun e w' => e = .returned (.bool true) ∧ Below wd.heap.size wd w') := HHB.out wd hbd
    have HBD : Hid (Below wc.heap.size wc wd) := hbd
    clear hh hbd HHA HHB wcv0 wcv1 wcv2 wcr0 wcr1 wcr2 wcr3 wcr4 wcr5 wcr6 wcr7 wca0 wcb0 wca1 wcb1 wca2 wcb2 wca3 wcb3 wca4 wcb4 wca5 wcb5 wca6 wcb6 wca7 wcb7 wca8 wcb8 wca9 wcb9
    go_wp2_with fail
    refine HHD.out.mono ?_
    rintro e we ⟨rfl, hbe⟩
    have hbe2 : Below wc.heap.size wc we := HBD.out.trans (hbe.mono (by have := HBD.out.size; omega))
    have hh := HALL.out we hbe2
    have nc := HNC.out we hbe2
    have wev0 : we.cell? ⟨w3.heap.size, 0, none⟩ = some (.slice ar nr cr) := cell_at hh.1
    have wev1 : we.cell? ⟨w3.heap.size, 1, none⟩ = some (.slice af nf cf) := cell_at hh.1
    have wev2 : we.cell? ⟨w3.heap.size, 2, none⟩ = some (.slice aa na ca) := cell_at hh.1
    have wer0 : we.cell? ⟨w.heap.size + 1, 0, none⟩ = some (.int .i64 x0) := cell_at hh.2.1
    have wer1 : we.cell? ⟨w.heap.size + 1, 1, none⟩ = some (.int .i64 x1) := cell_at hh.2.1
    have wer2 : we.cell? ⟨w.heap.size + 1, 2, none⟩ = some (.int .i64 x2) := cell_at hh.2.1
    have wer3 : we.cell? ⟨w.heap.size + 1, 3, none⟩ = some (.int .i64 x3) := cell_at hh.2.1
    have wer4 : we.cell? ⟨w.heap.size + 1, 4, none⟩ = some (.int .i64 x4) := cell_at hh.2.1
    have wer5 : we.cell? ⟨w.heap.size + 1, 5, none⟩ = some (.int .i64 x5) := cell_at hh.2.1
    have wer6 : we.cell? ⟨w.heap.size + 1, 6, none⟩ = some (.int .i64 x6) := cell_at hh.2.1
    have wer7 : we.cell? ⟨w.heap.size + 1, 7, none⟩ = some (.int .i64 x7) := cell_at hh.2.1
    have wea0 : we.cell? ⟨w5.heap.size, 0, none⟩ = some (.int .u8 sa) := cell_at hh.2.2.1
    have web0 : we.cell? ⟨Bk, 0, none⟩ = some (.int .u8 sb) := cell_at hh.2.2.2
    have wea1 : we.cell? ⟨w5.heap.size, 1, none⟩ = some (.slice a1 la c1) := cell_at hh.2.2.1
    have web1 : we.cell? ⟨Bk, 1, none⟩ = some (.slice a2 lb c2) := cell_at hh.2.2.2
    have wea2 : we.cell? ⟨w5.heap.size, 2, none⟩ = some (.int .i64 y0) := cell_at hh.2.2.1
    have web2 : we.cell? ⟨Bk, 2, none⟩ = some (.int .i64 z0) := cell_at hh.2.2.2
    have wea3 : we.cell? ⟨w5.heap.size, 3, none⟩ = some (.int .i64 y1) := cell_at hh.2.2.1
    have web3 : we.cell? ⟨Bk, 3, none⟩ = some (.int .i64 z1) := cell_at hh.2.2.2
    have wea4 : we.cell? ⟨w5.heap.size, 4, none⟩ = some (.int .i64 y2) := cell_at hh.2.2.1
    have web4 : we.cell? ⟨Bk, 4, none⟩ = some (.int .i64 z2) := cell_at hh.2.2.2
    have wea5 : we.cell? ⟨w5.heap.size, 5, none⟩ = some (.int .i64 y3) := cell_at hh.2.2.1
    have web5 : we.cell? ⟨Bk, 5, none⟩ = some (.int .i64 z3) := cell_at hh.2.2.2
    have wea6 : we.cell? ⟨w5.heap.size, 6, none⟩ = some (.int .i64 y4) := cell_at hh.2.2.1
    have web6 : we.cell? ⟨Bk, 6, none⟩ = some (.int .i64 z4) := cell_at hh.2.2.2
    have wea7 : we.cell? ⟨w5.heap.size, 7, none⟩ = some (.int .i64 y5) := cell_at hh.2.2.1
    have web7 : we.cell? ⟨Bk, 7, none⟩ = some (.int .i64 z5) := cell_at hh.2.2.2
    have wea8 : we.cell? ⟨w5.heap.size, 8, none⟩ = some (.int .i64 y6) := cell_at hh.2.2.1
    have web8 : we.cell? ⟨Bk, 8, none⟩ = some (.int .i64 z6) := cell_at hh.2.2.2
    have wea9 : we.cell? ⟨w5.heap.size, 9, none⟩ = some (.int .i64 y7) := cell_at hh.2.2.1
    have web9 : we.cell? ⟨Bk, 9, none⟩ = some (.int .i64 z7) := cell_at hh.2.2.2
    have HF : Hid (Below w.heap.size w we) := HBW.out.trans (hbe2.mono HSZ.out)
    have HNE2 : Hid (Calls Tryz.prog 17 #[.pointer (some ⟨C, 0, none⟩)] we fun e w' => e = .returned (.int .i64 need) ∧ w' = we) := need_any nc
    clear hh hbe hbe2 HHD HBD HALL HNC HBW HSZ nc wdv0 wdv1 wdv2 wdr0 wdr1 wdr2 wdr3 wdr4 wdr5 wdr6 wdr7 wda0 wdb0 wda1 wdb1 wda2 wdb2 wda3 wdb3 wda4 wdb4 wda5 wdb5 wda6 wdb6 wda7 wdb7 wda8 wdb8 wda9 wdb9
    obtain ⟨l1, l2, l3⟩ := HLW.out
    have m1 : (sb == 2) = false := by simpa using l1
    have m1' : (sb != 2) = true := by simpa using l1
    by_cases hsa : sa = 2
    · have hlt := l2 hsa
      have m2 : decide (need ≤ fuel) = false := by simp; omega
      subst hsa
      have m3 : ((2 : Int) == sb) = false := by simp; omega
      clear HLW l1 l2 l3 hlt
      go_wp2_with (go_at_call 17; refine HNE2.out.mono ?_; rintro e w' ⟨rfl, hw⟩; have hw' := hw.symm; subst hw'; clear hw)
      go_ret
      exact ⟨rfl, HF.out⟩
    · obtain ⟨p1, p2, p3, p4, p5, p6, p7, p8, p9, p10⟩ := l3 hsa
      have m2 : (sa == 2) = false := by simpa using hsa
      have e8 := fun w => eql8 w y0 y1 y2 y3 y4 y5 y6 y7
      subst p1 p2 p3 p4 p5 p6 p7 p8 p9 p10
      clear HLW l1 l2 l3
      by_cases hf : need ≤ fuel
      · have m3 : decide (need ≤ fuel) = true := decide_eq_true hf
        go_wp2_with (go_at_call 17; refine HNE2.out.mono ?_; rintro e w' ⟨rfl, hw⟩; have hw' := hw.symm; subst hw'; clear hw)
        go_ret
        exact ⟨rfl, HF.out⟩
      · have m3 : decide (need ≤ fuel) = false := decide_eq_false hf
        go_wp2_with (go_at_call 17; refine HNE2.out.mono ?_; rintro e w' ⟨rfl, hw⟩; have hw' := hw.symm; subst hw'; clear hw)
        go_ret
        exact ⟨rfl, HF.out⟩
end Go.Proofs.YthllhabjfchgiaaGreatDoor
