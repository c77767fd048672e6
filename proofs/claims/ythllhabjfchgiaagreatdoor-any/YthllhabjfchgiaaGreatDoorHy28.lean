import Derived.Test.YthllhabjfchgiaaGreatDoorHy27
/- Package helmkeep: viewOf. -/
namespace Go.Proofs.YthllhabjfchgiaaGreatDoor
open Go.RowKit
open Hx (Rd Pk Vw St Mc In64)
attribute [local go_sem ↓] Go.wp_at_zero Go.wp_at_succ
attribute [local go_sem] setCell_drewN'
variable {w : World}

theorem info_road : (Tryz.prog.info? 74).map (fun i => (i.zero, i.size, i.bytes)) = some (some (.agg #[.int .i64 0, .int .i64 0, .int .i64 0, .int .i64 0, .bool false]), 5, 40) := by kernel_rfl
theorem info_packet : (Tryz.prog.info? 72).map (fun i => (i.zero, i.size, i.bytes)) = some (some (.agg #[.int .i64 0, .int .i64 0, .int .i64 0]), 3, 24) := by kernel_rfl

/-- what viewOf has laid -/
structure VoOut (w wr : World) (vr vf va : Value) (out : List Rd) (fs gs : List Pk) : Prop where
  below : Below w.heap.size w wr
  rowR : wr.ownsRow (w.heap.size + 4) 74 5 vr out.length (roadCells out)
  rowF : wr.ownsRow (w.heap.size + 4) 72 3 vf fs.length (packCells fs)
  rowA : wr.ownsRow (w.heap.size + 4) 72 3 va gs.length (packCells gs)

theorem VoIn.out {wr : World} {x : Raw} {vr vf va : Value} {out : List Rd} {fs gs : List Pk} {sn : Array Value} (h : VoIn w wr x vr vf va out fs gs sn) (a b c : Value) : VoOut w (((wr.setCell ⟨w.heap.size + 1, 0, none⟩ a).setCell ⟨w.heap.size + 1, 1, none⟩ b).setCell ⟨w.heap.size + 1, 2, none⟩ c) vr vf va out fs gs := by
  have g1 := grown_set wr (w.heap.size + 1) 0 a
  have g2 := grown_set (wr.setCell ⟨w.heap.size + 1, 0, none⟩ a) (w.heap.size + 1) 1 b
  have g3 := grown_set ((wr.setCell ⟨w.heap.size + 1, 0, none⟩ a).setCell ⟨w.heap.size + 1, 1, none⟩ b) (w.heap.size + 1) 2 c
  have gg := (g1.trans g2).trans g3
  refine ⟨((h.below.setCell (p := ⟨w.heap.size + 1, 0, none⟩) (by show _ ≤ w.heap.size + 1; omega) _).setCell (p := ⟨w.heap.size + 1, 1, none⟩) (by show _ ≤ w.heap.size + 1; omega) _).setCell (p := ⟨w.heap.size + 1, 2, none⟩) (by show _ ≤ w.heap.size + 1; omega) _, ?_, ?_, ?_⟩
  · exact h.rowR.kept gg (own_far h.rowR (by omega))
  · exact h.rowF.kept gg (own_far h.rowF (by omega))
  · exact h.rowA.kept gg (own_far h.rowA (by omega))

theorem viewOf_results (tmps : Array Value) (w : World) (g : Nat) (v0 v1 v2 : Value) (h2 : tmps[2]? = some (.pointer (some ⟨g, 0, none⟩))) (q0 : w.cell? ⟨g, 0, none⟩ = some v0) (q1 : w.cell? ⟨g, 1, none⟩ = some v1) (q2 : w.cell? ⟨g, 2, none⟩ = some v2) :
    (results Tryz.f29 tmps).run Tryz.prog w = .ok (.agg #[v0, v1, v2]) w := by
  simp [results, Tryz.results29, go_sem, h2, q0, q1, q2]

theorem vo_first (w : World) (x : Raw) : VoIn w ((((w.alloc (.cells #[.slice x.ar x.nr x.cr, .slice x.af x.nf x.cf, .slice x.aa x.na x.ca] 25)).alloc (.cells #[.slice none 0 0, .slice none 0 0, .slice none 0 0] 25)).alloc (.cells #[.slice none 0 0, .slice none 0 0, .slice none 0 0] 25)).alloc
    (.cells #[.bool false, .bool false, .bool false, .bool false, .bool false, .bool false, .bool false, .bool false] 146)) x (.slice none 0 0) (.slice none 0 0) (.slice none 0 0) [] [] [] (seenOf []) := by
  generalize ho0 : Obj.cells #[.slice x.ar x.nr x.cr, .slice x.af x.nf x.cf, .slice x.aa x.na x.ca] 25 = o0
  generalize ho1 : Obj.cells #[Value.slice none 0 0, .slice none 0 0, .slice none 0 0] 25 = o1
  generalize ho3 : Obj.cells #[Value.bool false, .bool false, .bool false, .bool false, .bool false, .bool false, .bool false, .bool false] 146 = o3
  have e : ((((w.alloc o0).alloc o1).alloc o1).alloc o3).heap = (((w.heap.push o0).push o1).push o1).push o3 := rfl
  have s : ((((w.alloc o0).alloc o1).alloc o1).alloc o3).heap.size = w.heap.size + 4 := by rw [e]; simp
  have g : w.grownBy ((((w.alloc o0).alloc o1).alloc o1).alloc o3) none := (((World.grownBy_alloc w _ none).trans (World.grownBy_alloc _ _ none)).trans (World.grownBy_alloc _ _ none)).trans (World.grownBy_alloc _ _ none)
  refine ⟨⟨g.os, g.tape, g.output, g.size, fun k hk => g.block k hk (by simp)⟩, by omega, ?_, ?_, ?_, ?_, World.ownsRow_nil _ _ _ _, World.ownsRow_nil _ _ _ _, World.ownsRow_nil _ _ _ _, apart_nil _, apart_nil _, apart_nil _⟩
  · rw [e, ho0]; simp only [Array.getElem?_push, Array.size_push]; repeat (rw [if_neg (by omega)])
    exact if_pos trivial
  · rw [e, ho1]; simp only [Array.getElem?_push, Array.size_push]; repeat (rw [if_neg (by omega)])
    exact if_pos trivial
  · rw [e, ho1]; simp only [Array.getElem?_push, Array.size_push]; repeat (rw [if_neg (by omega)])
    exact if_pos trivial
  · rw [e, show seenOf [] = #[Value.bool false, .bool false, .bool false, .bool false, .bool false, .bool false, .bool false, .bool false] from rfl, ho3]; simp only [Array.getElem?_push, Array.size_push]; repeat (rw [if_neg (by omega)])
    exact if_pos trivial

theorem size_ad (w : World) (o : Obj) (n : Nat) : ((w.alloc o).drewN n).heap.size = w.heap.size + 1 := Array.size_push ..

set_option maxRecDepth 100000 in
set_option maxHeartbeats 4000000 in
theorem viewOf_any (x : Raw) (v : Vw) (hv : ViewV w.heap.size w x.ar x.af x.aa x.nr x.nf x.na v) (hnr : x.nr ≤ maxLen) :
    Calls Tryz.prog 29 #[.agg #[.slice x.ar x.nr x.cr, .slice x.af x.nf x.cf, .slice x.aa x.na x.ca]] w fun e w' => ∃ vr vf va, e = .returned (.agg #[vr, vf, va]) ∧ VoOut w w' vr vf va (addRoads [] v.roads) (v.fresh.take 16) (v.again.take 16) := by
  go_enter Tryz.func29, Tryz.ntmps29
  go_upto_block 0 with fail
  go_cut [] (fun wx => ∃ vr, VoIn w wx x vr (.slice none 0 0) (.slice none 0 0) (addRoads [] v.roads) [] [] (seenOf (addRoads [] v.roads)))
  case first =>
    go_wp2_with fail
    go_loopw [5] (fun i wr => ∃ (k : Nat) (vr : Value) (out : List Rd), k ≤ x.nr ∧ i = .int .i64 k ∧ Hid (addRoads [] v.roads = addRoads out (v.roads.drop k)) ∧ VoIn w wr x vr (.slice none 0 0) (.slice none 0 0) out [] [] (seenOf out)) (fun i _ => x.nr - (intOf i).toNat)
    case atStart => exact ⟨0, _, [], Nat.zero_le _, rfl, rfl, vo_first w x⟩
    case round =>
      obtain ⟨k, vr, out, hk, rfl, HE, hV⟩ := hrel
      obtain ⟨avr, cvr, rfl⟩ := slice_form hV.rowR
      have q0 : wr.cell? ⟨w.heap.size, 0, none⟩ = some (.slice x.ar x.nr x.cr) := cell_at hV.b0
      have o0 : wr.cell? ⟨w.heap.size + 1 + 1, 0, none⟩ = some (.slice avr out.length cvr) := cell_at hV.b2
      have hRs := hv.lenR
      have hnr2 : x.nr ≤ 9223372036854775807 := by unfold maxLen at hnr; omega
      by_cases hlt : k < x.nr
      · have d1 : decide ((k : Int) < (x.nr : Int)) = true := by simp; omega
        by_cases hl : out.length < 8
        · have d2 : decide ((out.length : Int) < 8) = true := by simp; omega
          have hget : v.roads[k]? = some v.roads[k] := by simp
          obtain ⟨b, o, har, hbb, b', o', e, c1, c2, c3, c4, c5⟩ := hv.roads k _ hget
          obtain ⟨rfl, rfl⟩ : b = b' ∧ o + k * 5 = o' := by simpa using e
          have hin := hv.rng.roads v.roads[k] (by simp)
          have HD : Hid (v.roads.drop k = v.roads[k] :: v.roads.drop (k + 1)) := List.drop_eq_getElem_cons (by omega)
          generalize v.roads[k] = r at *
          have w1 : wr.cell? ⟨b, o + k * 5, none⟩ = some (.int .i64 r.id) := (hV.below.cell (p := ⟨b, o + k * 5, none⟩) hbb).trans c1
          have w2 : wr.cell? ⟨b, o + k * 5 + 1, none⟩ = some (.int .i64 r.rtt) := (hV.below.cell (p := ⟨b, o + k * 5 + 1, none⟩) hbb).trans c2
          have w3 : wr.cell? ⟨b, o + k * 5 + 2, none⟩ = some (.int .i64 r.cwnd) := (hV.below.cell (p := ⟨b, o + k * 5 + 2, none⟩) hbb).trans c3
          have w4 : wr.cell? ⟨b, o + k * 5 + 3, none⟩ = some (.int .i64 r.out) := (hV.below.cell (p := ⟨b, o + k * 5 + 3, none⟩) hbb).trans c4
          have w5 : wr.cell? ⟨b, o + k * 5 + 4, none⟩ = some (.bool r.lossy) := (hV.below.cell (p := ⟨b, o + k * 5 + 4, none⟩) hbb).trans c5
          obtain ⟨p0, p8⟩ := pickN_bd (c := r.id) (n := 8) (by omega)
          obtain ⟨j, hj⟩ := Int.eq_ofNat_of_zero_le p0
          have j8 : j < 8 := by omega
          have HC : Hid (∀ w, Calls Tryz.prog 28 #[.int .i64 r.id, .int .i64 8] w fun e w' => e = .returned (.int .i64 j) ∧ w' = w) := fun w => by
            have := pick_any w r.id 8 hin.1 (by omega) (by omega)
            rwa [hj] at this
          have s3 : wr.cell? ⟨w.heap.size + 1 + 1 + 1, j, none⟩ = some (.bool (out.any fun q => decide (q.id = (j : Int)))) := (cell_at hV.b3).trans (seen_at out j j8)
          have HV : Hid (VoIn w wr x (.slice avr out.length cvr) (.slice none 0 0) (.slice none 0 0) out [] [] (seenOf out)) := hV
          have hsz := hV.size
          have n1 : ¬ w.heap.size = wr.heap.size := by omega
          have n2 : ¬ w.heap.size + 1 + 1 = wr.heap.size := by omega
          have n3 : ¬ w.heap.size + 1 + 1 + 1 = wr.heap.size := by omega
          have i1 : (0 : Int) ≤ (k : Int) := by omega
          have jj1 : (k : Int) < (x.nr : Int) := by omega
          have jj2 : (0 : Int) ≤ (j : Int) := by omega
          have jj3 : (j : Int) < 8 := by omega
          have HJ : Hid (pickN r.id 8 = (j : Int)) := hj
          have l2 : w.heap.size + 1 + 1 < wr.heap.size := by omega
          have l3 : w.heap.size + 1 + 1 + 1 < wr.heap.size := by omega
          rw [har] at q0
          clear hv hget e c1 c2 c3 c4 c5 hV p0 p8 hj hin har hRs
          cases hs : out.any (fun q => decide (q.id = (j : Int))) with
          | true =>
            rw [hs] at s3
            go_wp2_with (go_at_call 28; refine (HC.out _).mono ?_; rintro e w' ⟨rfl, rfl⟩)
            refine ⟨⟨k + 1, _, out, by omega, by go_num, ?_, HV.out.grow (World.grownBy_alloc _ _ none)⟩, by simp [intOf]; omega⟩
            show _ = _
            rw [HE.out, HD.out, addRoads, if_pos hl, HJ.out, hs, if_pos rfl]
          | false =>
            rw [hs] at s3
            obtain ⟨i0, hi, hz0, hz1, hz2⟩ := info_parts info_road
            have HW : Hid (∀ o u o2, VoIn w (((wr.setCell ⟨w.heap.size + 1 + 1 + 1, j, none⟩ u).alloc o).alloc o2) x (.slice avr out.length cvr) (.slice none 0 0) (.slice none 0 0) out [] [] ((seenOf out).setIfInBounds j u)) := fun o u o2 => ((HV.out.seen j u).grow (World.grownBy_alloc _ _ none)).grow (World.grownBy_alloc _ _ none)
            have sf : wr.frozen? ⟨w.heap.size + 1 + 1 + 1, j, none⟩ = false := frozen_at HV.out.b3
            generalize hrc : roadCells out = rc at *
            have HRC : Hid (roadCells out = rc) := hrc
            clear hrc
            have HO : Hid (∀ o u o2, (((wr.setCell ⟨w.heap.size + 1 + 1 + 1, j, none⟩ u).alloc o).alloc o2).ownsRow (w.heap.size + 4) 74 5 (.slice avr out.length cvr) out.length rc) := fun o u o2 => by
              rw [← HRC.out]; exact (HW.out o u o2).rowR
            have HP : Hid (∀ o u o2 y, (((wr.setCell ⟨w.heap.size + 1 + 1 + 1, j, none⟩ u).alloc o).alloc o2).grownBy y (Value.slice avr out.length cvr).ownBlock → y.cell? ⟨w.heap.size + 1 + 1, 0, none⟩ = some (.slice avr out.length cvr) ∧ y.frozen? ⟨w.heap.size + 1 + 1, 0, none⟩ = false) := fun o u o2 y hy => by
              have h5 := ((HW.out o u o2).after (Or.inl rfl) hy 0 (.slice none 0 0)).2.2.2.2
              exact ⟨cell_at h5, frozen_at h5⟩
            have HN : Hid (∀ o u o2, (((wr.setCell ⟨w.heap.size + 1 + 1 + 1, j, none⟩ u).alloc o).alloc o2).heap[wr.heap.size + 1]? = some o2) := fun o u o2 => by
              have := heap_alloc_new ((wr.setCell ⟨w.heap.size + 1 + 1 + 1, j, none⟩ u).alloc o) o2
              simpa using this
            go_wp2_with (first
              | (go_at_call 28; refine (HC.out _).mono ?_; rintro e w' ⟨rfl, rfl⟩)
              | (at_builtin; refine wpList_append_lies _ rfl _ _ 22 rfl (w.heap.size + 4) 74 i0 _ 5 40 Tryz.underlying22 hi hz0 hz1 hz2 rfl (by decide) (.slice avr out.length cvr) out.length rc rfl (HO.out _ _ _) ⟨wr.heap.size + 1, 0, none⟩ 1 1 [.int .i64 j, .int .i64 r.rtt, .int .i64 r.cwnd, .int .i64 r.out, .bool r.lossy] rfl rfl (World.news_of_block (cs := #[.int .i64 j, .int .i64 r.rtt, .int .i64 r.cwnd, .int .i64 r.out, .bool r.lossy]) (t := 74) (fr := (0, 0)) (HN.out _ _ _)) (by simp [Value.oneCell']) (by decide) (by unfold maxLen; omega) (by omega) (by simp; omega) (wr.heap.size + 1 + 1) (by simp) ?_; intro g cap w2 hown hgr hat hlt; obtain ⟨y1, y2⟩ := HP.out _ _ _ _ hgr))
            rw [← HRC.out] at hown
            have h6 := (HW.out _ _ _).addR hgr { r with id := (j : Int) } hown (hat.elim Or.inl fun e => Or.inr (by simp; omega))
            rw [seen_set out { r with id := (j : Int) } j j8 rfl] at h6
            refine ⟨⟨k + 1, _, _, by omega, by go_num, ?_, h6⟩, by simp [intOf]; omega⟩
            show _ = _
            rw [HE.out, HD.out, addRoads, if_pos hl, HJ.out, hs]
            rfl
        · have d2 : decide ((out.length : Int) < 8) = false := by simp; omega
          have HF : Hid (addRoads [] v.roads = out) := by
            show _ = _
            rw [HE.out, List.drop_eq_getElem_cons (by omega), addRoads, if_neg hl]
          have HV : Hid (VoIn w wr x (.slice avr out.length cvr) (.slice none 0 0) (.slice none 0 0) out [] [] (seenOf out)) := hV
          clear hv hV HE hRs
          go_wp2_with fail
          go_meet
          rw [HF.out]
          exact ⟨_, HV.out⟩
      · have d1 : decide ((k : Int) < (x.nr : Int)) = false := by simp; omega
        have HF : Hid (addRoads [] v.roads = out) := by
          show _ = _
          rw [HE.out, List.drop_eq_nil_of_le (by omega), addRoads]
        have HV : Hid (VoIn w wr x (.slice avr out.length cvr) (.slice none 0 0) (.slice none 0 0) out [] [] (seenOf out)) := hV
        clear hv hV HE hRs
        go_wp2_with fail
        go_meet
        rw [HF.out]
        exact ⟨_, HV.out⟩
  case rest =>
    obtain ⟨vr, hV1⟩ := hcut
    generalize hrs : addRoads [] v.roads = rs at *
    have HRS : Hid (addRoads [] v.roads = rs) := hrs
    clear hrs
    generalize seenOf rs = sn at *
    go_upto_block 2 with fail
    go_cut [] (fun wx => ∃ vf, VoIn w wx x vr vf (.slice none 0 0) rs (v.fresh.take 16) [] sn)
    case first =>
      have HV1 : Hid (VoIn w wc x vr (.slice none 0 0) (.slice none 0 0) rs [] [] sn) := hV1
      clear hV1
      go_wp2_with fail
      go_loopw [7] (fun i wr => ∃ (vf : Value) (fs : List Pk), fs.length ≤ x.nf ∧ fs.length ≤ 16 ∧ i = .int .i64 fs.length ∧ Hid (fs = v.fresh.take fs.length) ∧ VoIn w wr x vr vf (.slice none 0 0) rs fs [] sn) (fun i _ => x.nf - (intOf i).toNat)
      case atStart => exact ⟨_, [], Nat.zero_le _, by simp, rfl, rfl, HV1.out⟩
      case round =>
        obtain ⟨vf, fs, hk, hk16, rfl, HT, hV⟩ := hrel
        have hFs := hv.lenF
        obtain ⟨avf, cvf, rfl⟩ := slice_form hV.rowF
        have q0 : wr.cell? ⟨w.heap.size, 1, none⟩ = some (.slice x.af x.nf x.cf) := cell_at hV.b0
        have o0 : wr.cell? ⟨w.heap.size + 1 + 1, 1, none⟩ = some (.slice avf fs.length cvf) := cell_at hV.b2
        have HV : Hid (VoIn w wr x vr (.slice avf fs.length cvf) (.slice none 0 0) rs fs [] sn) := hV
        clear HV1
        by_cases hlt : fs.length < x.nf
        · have d1 : decide ((fs.length : Int) < (x.nf : Int)) = true := by simp; omega
          by_cases hl : fs.length < 16
          · have d2 : decide ((fs.length : Int) < 16) = true := by simp; omega
            have hget : v.fresh[fs.length]? = some v.fresh[fs.length] := by simp
            obtain ⟨b, o, har, hbb, b', o', e, c1, c2, c3⟩ := hv.fresh fs.length _ hget
            obtain ⟨rfl, rfl⟩ : b = b' ∧ o + fs.length * 3 = o' := by simpa using e
            have HD : Hid (fs ++ [v.fresh[fs.length]] = v.fresh.take (fs.length + 1)) := by
              show _ = _
              rw [List.take_add_one, hget, ← HT.out]; rfl
            generalize v.fresh[fs.length] = r at *
            have w1 : wr.cell? ⟨b, o + fs.length * 3, none⟩ = some (.int .i64 r.seq) := (hV.below.cell (p := ⟨b, o + fs.length * 3, none⟩) hbb).trans c1
            have w2 : wr.cell? ⟨b, o + fs.length * 3 + 1, none⟩ = some (.int .i64 r.size) := (hV.below.cell (p := ⟨b, o + fs.length * 3 + 1, none⟩) hbb).trans c2
            have w3 : wr.cell? ⟨b, o + fs.length * 3 + 2, none⟩ = some (.int .i64 r.on) := (hV.below.cell (p := ⟨b, o + fs.length * 3 + 2, none⟩) hbb).trans c3
            obtain ⟨i0, hi, hz0, hz1, hz2⟩ := info_parts info_packet
            have HW : Hid (∀ o n, VoIn w ((wr.alloc o).drewN n) x vr (.slice avf fs.length cvf) (.slice none 0 0) rs fs [] sn) := fun o n => (hV.grow (World.grownBy_alloc _ _ none)).grow (grown_drewN _ n)
            have HO : Hid (∀ o n, ((wr.alloc o).drewN n).ownsRow (w.heap.size + 4) 72 3 (.slice avf fs.length cvf) fs.length (packCells fs)) := fun o n => (HW.out o n).rowF
            have HP : Hid (∀ o n y, ((wr.alloc o).drewN n).grownBy y (Value.slice avf fs.length cvf).ownBlock → y.cell? ⟨w.heap.size + 1 + 1, 1, none⟩ = some (.slice avf fs.length cvf) ∧ y.frozen? ⟨w.heap.size + 1 + 1, 1, none⟩ = false) := fun o n y hy => by
              have h5 := ((HW.out o n).after (Or.inr (Or.inl rfl)) hy 1 (.slice none 0 0)).2.2.2.2
              exact ⟨cell_at h5, frozen_at h5⟩
            have HR : Hid (∀ o n y g cap, ((wr.alloc o).drewN n).grownBy y (Value.slice avf fs.length cvf).ownBlock → y.ownsRow (w.heap.size + 4) 72 3 (.slice (some ⟨g, 0, none⟩) (fs.length + 1) cap) (fs.length + 1) (packCells fs ++ [.int .i64 r.seq, .int .i64 r.size, .int .i64 r.on]) → ((Value.slice avf fs.length cvf).ownBlock = some g ∨ g = wr.heap.size + 1) →
                (∃ (vf : Value) (fs' : List Pk), fs'.length ≤ x.nf ∧ fs'.length ≤ 16 ∧ Value.int .i64 ((fs.length : Int) + 1) = .int .i64 fs'.length ∧ Hid (fs' = v.fresh.take fs'.length) ∧ VoIn w (y.setCell ⟨w.heap.size + 1 + 1, 1, none⟩ (.slice (some ⟨g, 0, none⟩) (fs.length + 1) cap)) x vr vf (.slice none 0 0) rs fs' [] sn)) := fun o n y g cap hy ho hat => by
              have h6 := (HW.out o n).addF hy r ho (hat.elim Or.inl fun e => Or.inr (by have := size_ad wr o n; omega))
              refine ⟨_, fs ++ [r], by simp; omega, by simp; omega, by simp, ?_, h6⟩
              show _ = _
              simp only [List.length_append, List.length_cons, List.length_nil, Nat.zero_add]
              exact HD.out
            have hsz := hV.size
            have n1 : ¬ w.heap.size = wr.heap.size := by omega
            have n2 : ¬ w.heap.size + 1 + 1 = wr.heap.size := by omega
            have n3 : ¬ b = wr.heap.size := by omega
            have l1 : w.heap.size < wr.heap.size := by omega
            have l2 : w.heap.size + 1 + 1 < wr.heap.size := by omega
            have l3 : b < wr.heap.size := by omega
            have i1 : (0 : Int) ≤ (fs.length : Int) := by omega
            have jj1 : (fs.length : Int) < (x.nf : Int) := by omega
            rw [har] at q0
            clear hv hget e c1 c2 c3 hV har hFs HV HD HT HW
            generalize packCells fs = pc at *
            generalize fs.length = k at *
            go_wp2_with fail
            go_region_law ((refine step_append_lies _ (by rfl) _ _ _ (by rfl) (w.heap.size + 4) 72 i0 _ 3 24 Tryz.underlying23 hi hz0 hz1 hz2 (by rfl) (by omega) (.slice avf k cvf) k pc (by rfl) (HO.out _ 1) ⟨wr.heap.size, 0, none⟩ 1 1 [.int .i64 r.seq, .int .i64 r.size, .int .i64 r.on] (by rfl) (by rfl) (World.news_of_block (cs := #[.int .i64 r.seq, .int .i64 r.size, .int .i64 r.on]) (t := 72) (fr := (0, 0)) (heap_alloc_new wr _)) (by simp [Value.oneCell']) (by omega) (by unfold maxLen; omega) (by omega) (by simp; omega) (wr.heap.size + 1) (by simp) ?_; intro gg cap1 w4 hown1 hgrow hat hlt2; obtain ⟨y1, y2⟩ := HP.out _ 1 _ hgrow))
            all_goals (go_wp2_with fail; refine ⟨HR.out _ 1 _ _ _ hgrow hown1 hat, ?_⟩; simp [intOf]; omega)
          · have d2 : decide ((fs.length : Int) < 16) = false := by simp; omega
            have HF : Hid (fs = v.fresh.take 16) := by
              show _ = _
              rw [show (16 : Nat) = fs.length by omega]; exact HT.out
            clear hv hV hFs HT
            go_wp2_with fail
            go_meet
            rw [← HF.out]
            exact ⟨_, HV.out⟩
        · have d1 : decide ((fs.length : Int) < (x.nf : Int)) = false := by simp; omega
          have HF : Hid (fs = v.fresh.take 16) := by
            show _ = _
            rw [HT.out, List.take_of_length_le (by omega), List.take_of_length_le (by omega)]
          clear hv hV hFs HT
          go_wp2_with fail
          go_meet
          rw [← HF.out]
          exact ⟨_, HV.out⟩
    case rest =>
      obtain ⟨vf0, hV2⟩ := hcut
      generalize hfs : v.fresh.take 16 = fs0 at *
      have HFS : Hid (v.fresh.take 16 = fs0) := hfs
      clear hfs
      go_upto_block 4 with fail
      go_cut [] (fun wx => ∃ va, VoIn w wx x vr vf0 va rs fs0 (v.again.take 16) sn)
      case first =>
        have HV2 : Hid (VoIn w wc x vr vf0 (.slice none 0 0) rs fs0 [] sn) := hV2
        clear hV2
        go_wp2_with fail
        go_loopw [8] (fun i wr => ∃ (vf : Value) (fs : List Pk), fs.length ≤ x.na ∧ fs.length ≤ 16 ∧ i = .int .i64 fs.length ∧ Hid (fs = v.again.take fs.length) ∧ VoIn w wr x vr vf0 vf rs fs0 fs sn) (fun i _ => x.na - (intOf i).toNat)
        case atStart => exact ⟨_, [], Nat.zero_le _, by simp, rfl, rfl, HV2.out⟩
        case round =>
          obtain ⟨vf, fs, hk, hk16, rfl, HT, hV⟩ := hrel
          have hFs := hv.lenA
          obtain ⟨avf, cvf, rfl⟩ := slice_form hV.rowA
          have q0 : wr.cell? ⟨w.heap.size, 2, none⟩ = some (.slice x.aa x.na x.ca) := cell_at hV.b0
          have o0 : wr.cell? ⟨w.heap.size + 1 + 1, 2, none⟩ = some (.slice avf fs.length cvf) := cell_at hV.b2
          have HV : Hid (VoIn w wr x vr vf0 (.slice avf fs.length cvf) rs fs0 fs sn) := hV
          clear HV2
          by_cases hlt : fs.length < x.na
          · have d1 : decide ((fs.length : Int) < (x.na : Int)) = true := by simp; omega
            by_cases hl : fs.length < 16
            · have d2 : decide ((fs.length : Int) < 16) = true := by simp; omega
              have hget : v.again[fs.length]? = some v.again[fs.length] := by simp
              obtain ⟨b, o, har, hbb, b', o', e, c1, c2, c3⟩ := hv.again fs.length _ hget
              obtain ⟨rfl, rfl⟩ : b = b' ∧ o + fs.length * 3 = o' := by simpa using e
              have HD : Hid (fs ++ [v.again[fs.length]] = v.again.take (fs.length + 1)) := by
                show _ = _
                rw [List.take_add_one, hget, ← HT.out]; rfl
              generalize v.again[fs.length] = r at *
              have w1 : wr.cell? ⟨b, o + fs.length * 3, none⟩ = some (.int .i64 r.seq) := (hV.below.cell (p := ⟨b, o + fs.length * 3, none⟩) hbb).trans c1
              have w2 : wr.cell? ⟨b, o + fs.length * 3 + 1, none⟩ = some (.int .i64 r.size) := (hV.below.cell (p := ⟨b, o + fs.length * 3 + 1, none⟩) hbb).trans c2
              have w3 : wr.cell? ⟨b, o + fs.length * 3 + 2, none⟩ = some (.int .i64 r.on) := (hV.below.cell (p := ⟨b, o + fs.length * 3 + 2, none⟩) hbb).trans c3
              obtain ⟨i0, hi, hz0, hz1, hz2⟩ := info_parts info_packet
              have HW : Hid (∀ o n, VoIn w ((wr.alloc o).drewN n) x vr vf0 (.slice avf fs.length cvf) rs fs0 fs sn) := fun o n => (hV.grow (World.grownBy_alloc _ _ none)).grow (grown_drewN _ n)
              have HO : Hid (∀ o n, ((wr.alloc o).drewN n).ownsRow (w.heap.size + 4) 72 3 (.slice avf fs.length cvf) fs.length (packCells fs)) := fun o n => (HW.out o n).rowA
              have HP : Hid (∀ o n y, ((wr.alloc o).drewN n).grownBy y (Value.slice avf fs.length cvf).ownBlock → y.cell? ⟨w.heap.size + 1 + 1, 2, none⟩ = some (.slice avf fs.length cvf) ∧ y.frozen? ⟨w.heap.size + 1 + 1, 2, none⟩ = false) := fun o n y hy => by
                have h5 := ((HW.out o n).after (Or.inr (Or.inr rfl)) hy 2 (.slice none 0 0)).2.2.2.2
                exact ⟨cell_at h5, frozen_at h5⟩
              have HR : Hid (∀ o n y g cap, ((wr.alloc o).drewN n).grownBy y (Value.slice avf fs.length cvf).ownBlock → y.ownsRow (w.heap.size + 4) 72 3 (.slice (some ⟨g, 0, none⟩) (fs.length + 1) cap) (fs.length + 1) (packCells fs ++ [.int .i64 r.seq, .int .i64 r.size, .int .i64 r.on]) → ((Value.slice avf fs.length cvf).ownBlock = some g ∨ g = wr.heap.size + 1) →
                  (∃ (vf : Value) (fs' : List Pk), fs'.length ≤ x.na ∧ fs'.length ≤ 16 ∧ Value.int .i64 ((fs.length : Int) + 1) = .int .i64 fs'.length ∧ Hid (fs' = v.again.take fs'.length) ∧ VoIn w (y.setCell ⟨w.heap.size + 1 + 1, 2, none⟩ (.slice (some ⟨g, 0, none⟩) (fs.length + 1) cap)) x vr vf0 vf rs fs0 fs' sn)) := fun o n y g cap hy ho hat => by
                have h6 := (HW.out o n).addA hy r ho (hat.elim Or.inl fun e => Or.inr (by have := size_ad wr o n; omega))
                refine ⟨_, fs ++ [r], by simp; omega, by simp; omega, by simp, ?_, h6⟩
                show _ = _
                simp only [List.length_append, List.length_cons, List.length_nil, Nat.zero_add]
                exact HD.out
              have hsz := hV.size
              have n1 : ¬ w.heap.size = wr.heap.size := by omega
              have n2 : ¬ w.heap.size + 1 + 1 = wr.heap.size := by omega
              have n3 : ¬ b = wr.heap.size := by omega
              have l1 : w.heap.size < wr.heap.size := by omega
              have l2 : w.heap.size + 1 + 1 < wr.heap.size := by omega
              have l3 : b < wr.heap.size := by omega
              have i1 : (0 : Int) ≤ (fs.length : Int) := by omega
              have jj1 : (fs.length : Int) < (x.na : Int) := by omega
              rw [har] at q0
              clear hv hget e c1 c2 c3 hV har hFs HV HD HT HW
              generalize packCells fs = pc at *
              generalize fs.length = k at *
              go_wp2_with fail
              go_region_law ((refine step_append_lies _ (by rfl) _ _ _ (by rfl) (w.heap.size + 4) 72 i0 _ 3 24 Tryz.underlying23 hi hz0 hz1 hz2 (by rfl) (by omega) (.slice avf k cvf) k pc (by rfl) (HO.out _ 1) ⟨wr.heap.size, 0, none⟩ 1 1 [.int .i64 r.seq, .int .i64 r.size, .int .i64 r.on] (by rfl) (by rfl) (World.news_of_block (cs := #[.int .i64 r.seq, .int .i64 r.size, .int .i64 r.on]) (t := 72) (fr := (0, 0)) (heap_alloc_new wr _)) (by simp [Value.oneCell']) (by omega) (by unfold maxLen; omega) (by omega) (by simp; omega) (wr.heap.size + 1) (by simp) ?_; intro gg cap1 w4 hown1 hgrow hat hlt2; obtain ⟨y1, y2⟩ := HP.out _ 1 _ hgrow))
              all_goals (go_wp2_with fail; refine ⟨HR.out _ 1 _ _ _ hgrow hown1 hat, ?_⟩; simp [intOf]; omega)
            · have d2 : decide ((fs.length : Int) < 16) = false := by simp; omega
              have HF : Hid (fs = v.again.take 16) := by
                show _ = _
                rw [show (16 : Nat) = fs.length by omega]; exact HT.out
              clear hv hV hFs HT
              go_wp2_with fail
              go_meet
              rw [← HF.out]
              exact ⟨_, HV.out⟩
          · have d1 : decide ((fs.length : Int) < (x.na : Int)) = false := by simp; omega
            have HF : Hid (fs = v.again.take 16) := by
              show _ = _
              rw [HT.out, List.take_of_length_le (by omega), List.take_of_length_le (by omega)]
            clear hv hV hFs HT
            go_wp2_with fail
            go_meet
            rw [← HF.out]
            exact ⟨_, HV.out⟩
      case rest =>
        obtain ⟨va, hV3⟩ := hcut
        generalize hgs : v.again.take 16 = gs0 at *
        have HGS : Hid (v.again.take 16 = gs0) := hgs
        clear hgs
        obtain ⟨s0, s1, rfl⟩ := slice_form hV3.rowR
        obtain ⟨s2, s3, rfl⟩ := slice_form hV3.rowF
        obtain ⟨s4, s5, rfl⟩ := slice_form hV3.rowA
        generalize hvr : Value.slice s0 rs.length s1 = vr at *
        generalize hvf : Value.slice s2 fs0.length s3 = vf0 at *
        generalize hva : Value.slice s4 gs0.length s5 = va at *
        have c0 : wc.cell? ⟨w.heap.size + 1 + 1, 0, none⟩ = some vr := cell_at hV3.b2
        have c1 : wc.cell? ⟨w.heap.size + 1 + 1, 1, none⟩ = some vf0 := cell_at hV3.b2
        have c2 : wc.cell? ⟨w.heap.size + 1 + 1, 2, none⟩ = some va := cell_at hV3.b2
        have e0 : wc.cell? ⟨w.heap.size + 1, 0, none⟩ = some (.slice none 0 0) := cell_at hV3.b1
        have e1 : wc.cell? ⟨w.heap.size + 1, 1, none⟩ = some (.slice none 0 0) := cell_at hV3.b1
        have e2 : wc.cell? ⟨w.heap.size + 1, 2, none⟩ = some (.slice none 0 0) := cell_at hV3.b1
        have ef : ∀ j, wc.frozen? ⟨w.heap.size + 1, j, none⟩ = false := fun j => frozen_at hV3.b1
        have HV : Hid (VoIn w wc x vr vf0 va rs fs0 gs0 sn) := hV3
        clear hV1 hV2 hV3 hv
        subst hvr hvf hva
        go_wp2_with fail
        have hE := set3 wc (w.heap.size + 1) 25 _ _ _ (Value.slice s0 rs.length s1) (Value.slice s2 fs0.length s3) (Value.slice s4 gs0.length s5) HV.out.b1
        refine bodyPost_ret (v := .agg #[Value.slice s0 rs.length s1, Value.slice s2 fs0.length s3, Value.slice s4 gs0.length s5]) ?_ rfl ?_
        · exact viewOf_results _ _ (w.heap.size + 1) _ _ _ rfl (cell_at hE) (cell_at hE) (cell_at hE)
        · refine ⟨_, _, _, rfl, ?_⟩
          rw [HRS.out, HFS.out, HGS.out]
          exact HV.out.out _ _ _
end Go.Proofs.YthllhabjfchgiaaGreatDoor

/- Package helmkeep: what viewOf gives is a view; its rows as a view in memory. -/
namespace Go.Proofs.YthllhabjfchgiaaGreatDoor
open Go.RowKit
open Hx (Rd Pk Vw St Mc In64)
variable {w : World}

theorem seen_bits : ∀ (s : Fin 256) (i k : Fin 8), (let t := bits .or .i64 (s.val : Int) (wrap64 (2 ^ i.val)); decide (0 ≤ t) && decide (t < 256) && (Hx.hasBit t (k.val : Int) == (Hx.hasBit (s.val : Int) (k.val : Int) || decide (k = i)))) = true := by
  decide +kernel

theorem seen_next (s i : Int) (s0 : 0 ≤ s) (s1 : s < 256) (i0 : 0 ≤ i) (i1 : i < 8) :
    0 ≤ bits .or .i64 s (wrap64 (2 ^ i.toNat)) ∧ bits .or .i64 s (wrap64 (2 ^ i.toNat)) < 256 ∧ ∀ k : Int, 0 ≤ k → k < 8 → Hx.hasBit (bits .or .i64 s (wrap64 (2 ^ i.toNat))) k = (Hx.hasBit s k || decide (k = i)) := by
  have key := seen_bits ⟨s.toNat, by omega⟩ ⟨i.toNat, by omega⟩
  have es : ((s.toNat : Nat) : Int) = s := by omega
  simp only [es, Bool.and_eq_true, decide_eq_true_eq, beq_iff_eq] at key
  refine ⟨(key ⟨0, by omega⟩).1.1, (key ⟨0, by omega⟩).1.2, fun k k0 k1 => ?_⟩
  have h := (key ⟨k.toNat, by omega⟩).2
  have ek : ((k.toNat : Nat) : Int) = k := by omega
  simp only [ek] at h
  rw [h]
  congr 1
  simp only [Fin.mk.injEq, decide_eq_decide]
  omega

theorem idsOk_of : ∀ (rs : List Rd) (seen : Int), 0 ≤ seen → seen < 256 → (∀ r ∈ rs, 0 ≤ r.id ∧ r.id < 8 ∧ Hx.hasBit seen r.id = false) → rs.Pairwise (fun a b => a.id ≠ b.id) → idsOk seen rs = true
  | [], _, _, _, _, _ => rfl
  | q :: rs, seen, h0, h1, h2, h3 => by
    obtain ⟨q0, q1, q2⟩ := h2 q (by simp)
    unfold idsOk
    rw [if_neg (by rw [q2]; simp; omega)]
    obtain ⟨t0, t1, t2⟩ := seen_next seen q.id h0 h1 q0 q1
    rw [List.pairwise_cons] at h3
    refine idsOk_of rs _ t0 t1 (fun r hr => ?_) h3.2
    obtain ⟨r0, r1, r2⟩ := h2 r (by simp [hr])
    refine ⟨r0, r1, ?_⟩
    rw [t2 r.id r0 r1, r2]
    have := h3.1 r hr
    simp; omega

theorem hasBit_zero (k : Int) (h0 : 0 ≤ k) (h1 : k < 8) : Hx.hasBit 0 k = false := by
  have : ∀ i : Fin 8, Hx.hasBit 0 (i.val : Int) = false := by decide +kernel
  have h := this ⟨k.toNat, by omega⟩
  have ek : ((k.toNat : Nat) : Int) = k := by omega
  simpa [ek] using h

structure RoadsOk (out : List Rd) : Prop where
  len : out.length ≤ 8
  ids : ∀ r ∈ out, 0 ≤ r.id ∧ r.id < 8
  diff : out.Pairwise (fun a b => a.id ≠ b.id)
  rng : ∀ r ∈ out, In64 r.id ∧ In64 r.rtt ∧ In64 r.cwnd ∧ In64 r.out

theorem addRoads_ok : ∀ (rs out : List Rd), RoadsOk out → (∀ r ∈ rs, In64 r.id ∧ In64 r.rtt ∧ In64 r.cwnd ∧ In64 r.out) → RoadsOk (addRoads out rs)
  | [], out, h, _ => h
  | r :: rs, out, h, hr => by
    unfold addRoads
    split
    · rename_i hl
      refine addRoads_ok rs _ ?_ (fun q hq => hr q (by simp [hq]))
      split
      · exact h
      · rename_i hn
        obtain ⟨p0, p1⟩ := pickN_bd (c := r.id) (n := 8) (by omega)
        have hn' : ∀ q ∈ out, ¬ q.id = pickN r.id 8 := by simpa using hn
        have hr0 := hr r (by simp)
        refine ⟨by simp; omega, fun q hq => ?_, ?_, fun q hq => ?_⟩
        · rcases List.mem_append.1 hq with hq | hq
          · exact h.ids q hq
          · simp at hq; subst hq; exact ⟨p0, p1⟩
        · rw [List.pairwise_append]
          refine ⟨h.diff, by simp, fun a ha b hb => ?_⟩
          simp at hb; subst hb
          exact hn' a ha
        · rcases List.mem_append.1 hq with hq | hq
          · exact h.rng q hq
          · simp at hq; subst hq
            exact ⟨⟨by show _ ≤ pickN r.id 8; omega, by show pickN r.id 8 ≤ _; omega⟩, hr0.2⟩
    · exact h

theorem viewOut_roads (v : Vw) (h : v.inRange) : RoadsOk (addRoads [] v.roads) := addRoads_ok _ _ ⟨by simp, by simp, by simp, by simp⟩ h.roads

theorem viewOut_ok (v : Vw) (h : v.inRange) : viewOk (viewOut v) = true := by
  have hr := viewOut_roads v h
  simp only [viewOk, viewOut, Bool.and_eq_true]
  refine ⟨⟨⟨decide_eq_true hr.len, decide_eq_true (by simp; omega)⟩, decide_eq_true (by simp; omega)⟩, idsOk_of _ 0 (by omega) (by omega) (fun r hr' => ?_) hr.diff⟩
  have := hr.ids r hr'
  exact ⟨this.1, this.2, hasBit_zero _ this.1 this.2⟩

theorem viewOut_rng (v : Vw) (h : v.inRange) : (viewOut v).inRange :=
  ⟨(viewOut_roads v h).rng, fun p hp => h.fresh p (List.mem_of_mem_take hp), fun p hp => h.again p (List.mem_of_mem_take hp)⟩

theorem roadCells_at : ∀ (l : List Rd) (i : Nat) (r : Rd), l[i]? = some r → (roadCells l)[i * 5]? = some (.int .i64 r.id) ∧ (roadCells l)[i * 5 + 1]? = some (.int .i64 r.rtt) ∧ (roadCells l)[i * 5 + 2]? = some (.int .i64 r.cwnd) ∧ (roadCells l)[i * 5 + 3]? = some (.int .i64 r.out) ∧ (roadCells l)[i * 5 + 4]? = some (.bool r.lossy)
  | [], i, r, h => by simp at h
  | q :: l, 0, r, h => by
    simp at h; subst h
    simp [roadCells]
  | q :: l, i + 1, r, h => by
    have ih := roadCells_at l i r (by simpa using h)
    have e : roadCells (q :: l) = .int .i64 q.id :: .int .i64 q.rtt :: .int .i64 q.cwnd :: .int .i64 q.out :: .bool q.lossy :: roadCells l := by simp [roadCells]
    rw [e, show (i + 1) * 5 = i * 5 + 1 + 1 + 1 + 1 + 1 by omega]
    refine ⟨ih.1, ?_, ?_, ?_, ?_⟩
    · rw [show i * 5 + 1 + 1 + 1 + 1 + 1 + 1 = (i * 5 + 1) + 1 + 1 + 1 + 1 + 1 by omega]; exact ih.2.1
    · rw [show i * 5 + 1 + 1 + 1 + 1 + 1 + 2 = (i * 5 + 2) + 1 + 1 + 1 + 1 + 1 by omega]; exact ih.2.2.1
    · rw [show i * 5 + 1 + 1 + 1 + 1 + 1 + 3 = (i * 5 + 3) + 1 + 1 + 1 + 1 + 1 by omega]; exact ih.2.2.2.1
    · rw [show i * 5 + 1 + 1 + 1 + 1 + 1 + 4 = (i * 5 + 4) + 1 + 1 + 1 + 1 + 1 by omega]; exact ih.2.2.2.2

theorem packCells_at : ∀ (l : List Pk) (i : Nat) (r : Pk), l[i]? = some r → (packCells l)[i * 3]? = some (.int .i64 r.seq) ∧ (packCells l)[i * 3 + 1]? = some (.int .i64 r.size) ∧ (packCells l)[i * 3 + 2]? = some (.int .i64 r.on)
  | [], i, r, h => by simp at h
  | q :: l, 0, r, h => by
    simp at h; subst h
    simp [packCells]
  | q :: l, i + 1, r, h => by
    have ih := packCells_at l i r (by simpa using h)
    have e : packCells (q :: l) = .int .i64 q.seq :: .int .i64 q.size :: .int .i64 q.on :: packCells l := by simp [packCells]
    rw [e, show (i + 1) * 3 = i * 3 + 1 + 1 + 1 by omega]
    refine ⟨ih.1, ?_, ?_⟩
    · rw [show i * 3 + 1 + 1 + 1 + 1 = (i * 3 + 1) + 1 + 1 + 1 by omega]; exact ih.2.1
    · rw [show i * 3 + 1 + 1 + 1 + 2 = (i * 3 + 2) + 1 + 1 + 1 by omega]; exact ih.2.2

/-- the cells of a row that is owned -/
theorem row_cell {B : Nat} {e : TypeId} {s n : Nat} {xs : List Value} {a : Option Addr} {l c : Nat} (h : w.ownsRow B e s (.slice a l c) n xs) {j : Nat} {u : Value} (hj : xs[j]? = some u) :
    ∃ g, a = some ⟨g, 0, none⟩ ∧ B ≤ g ∧ g < w.heap.size ∧ ∀ j u, xs[j]? = some u → w.cell? ⟨g, j, none⟩ = some u := by
  have h0 := h.2
  rcases h0 with ⟨e1, e2⟩ | ⟨g, cap, cur, e1, e2, e3, e4⟩
  · subst e2
    have h1 := h.1
    simp at h1
    rw [h1] at hj
    simp at hj
  · simp only [Value.slice.injEq] at e1
    obtain ⟨rfl, rfl, rfl⟩ := e1
    refine ⟨g, rfl, e2, (h.lt g rfl).2, fun j u hj => ?_⟩
    have := h.cells (g := g) rfl j u hj
    have e : (⟨g, 0, none⟩ : Addr).add j = ⟨g, j, none⟩ := by unfold Addr.add; split <;> simp_all
    rwa [e] at this

theorem roadsAt_row {B : Nat} {a : Option Addr} {l c : Nat} {rs : List Rd} (h : w.ownsRow B 74 5 (.slice a l c) rs.length (roadCells rs)) : RoadsAt w.heap.size w a rs := by
  intro i r hi
  obtain ⟨c1, c2, c3, c4, c5⟩ := roadCells_at rs i r hi
  obtain ⟨g, e, _, hg, hc⟩ := row_cell h c1
  refine ⟨g, 0, e, hg, g, 0 + i * 5, rfl, ?_, ?_, ?_, ?_, ?_⟩
  all_goals (simp only [Nat.zero_add]; apply hc; assumption)

theorem packsAt_row {B : Nat} {a : Option Addr} {l c : Nat} {rs : List Pk} (h : w.ownsRow B 72 3 (.slice a l c) rs.length (packCells rs)) : PacksAt w.heap.size w a rs := by
  intro i r hi
  obtain ⟨c1, c2, c3⟩ := packCells_at rs i r hi
  obtain ⟨g, e, _, hg, hc⟩ := row_cell h c1
  refine ⟨g, 0, e, hg, g, 0 + i * 3, rfl, ?_, ?_, ?_⟩
  all_goals (simp only [Nat.zero_add]; apply hc; assumption)

theorem VoOut.view {w' : World} {vr vf va : Value} {v : Vw} (h : VoOut w w' vr vf va (addRoads [] v.roads) (v.fresh.take 16) (v.again.take 16)) (hv : v.inRange) :
    ∃ ar af aa cr cf ca, vr = .slice ar (viewOut v).roads.length cr ∧ vf = .slice af (viewOut v).fresh.length cf ∧ va = .slice aa (viewOut v).again.length ca ∧ ViewV w'.heap.size w' ar af aa (viewOut v).roads.length (viewOut v).fresh.length (viewOut v).again.length (viewOut v) := by
  obtain ⟨ar, cr, rfl⟩ := slice_form h.rowR
  obtain ⟨af, cf, rfl⟩ := slice_form h.rowF
  obtain ⟨aa, ca, rfl⟩ := slice_form h.rowA
  exact ⟨ar, af, aa, cr, cf, ca, rfl, rfl, rfl, roadsAt_row h.rowR, packsAt_row h.rowF, packsAt_row h.rowA, rfl, rfl, rfl, viewOut_rng v hv⟩
end Go.Proofs.YthllhabjfchgiaaGreatDoor
