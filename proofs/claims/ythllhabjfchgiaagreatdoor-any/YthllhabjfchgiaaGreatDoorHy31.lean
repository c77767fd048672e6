import Derived.Test.YthllhabjfchgiaaGreatDoorRows
import Derived.Test.YthllhabjfchgiaaGreatDoorTie
import Derived.Test.YthllhabjfchgiaaGreatDoorCards
import Derived.Test.YthllhabjfchgiaaGreatDoorHy02
import Derived.Test.YthllhabjfchgiaaGreatDoorHy30
import Derived.Test.YthllhabjfchgiaaGreatDoorHy22
import Derived.ProofKit
import Derived.LaidMore
import Derived.OpenShut
import Derived.ShutString
import Derived.ChangeOld
import Derived.Below
import Derived.Stop.Joined
import Derived.Stop.LaidErr
import Derived.Lib.LaidTab
import Derived.SevenTiedAt
/- The row of Any, and its card. -/
namespace Go.Proofs.YthllhabjfchgiaaGreatDoor
open Go.ChangeShapes Go.WideShapes Go.ChangeAt Go.RowKit
open Go.ChangeMaps (open_string shut_string)

theorem helm_g64 : Tryz.prog.globalNamed "math/bits.deBruijn64tab" = some 1 := by kernel_rfl
theorem helm_t64 : (Tryz.prog.globals[1]?).map (·.type) = some 306 := by kernel_rfl

/-- The door's own heap meets the condition. -/
theorem any_door (os : Os) (args : Array Value) : laidMetH Tryz.prog Rows.anyRow.laid ((World.doorLaid Tryz.prog 62 os).forCall (fun _ _ => 0) ⟨#[], args, []⟩).memory :=
  laidMetH_of_parts3 (fuel := 8) (laidMet_of_run' 8 (by kernel_rfl) (by kernel_rfl)) (by kernel_rfl) (by kernel_rfl)

/-- What the condition gives the walk: the table of math/bits. -/
theorem any_tab {W : World} (h : laidMetH Tryz.prog Rows.anyRow.laid W) : Tab64 W ∧ 1 < W.heap.size := by
  rw [MakeChecks.laidMetH_plain _ _ _ (by kernel_rfl)] at h
  have t : laidMet Tryz.prog (("math/bits.deBruijn64tab", Lib.tabData .u8 (Lib.deBruijn64tab.map fun (n : Nat) => (n : Int))) :: Rows.anyRow.laid.drop 2) W := laidMet.tail h
  have u := Lib.tabIs_of_head helm_g64 helm_t64 Tryz.underlying306 Tryz.underlying5 (by kernel_rfl) (by kernel_rfl) t
  have v : Tab64 W := fun j hj => by
    have hl : Lib.deBruijn64tab.length = 64 := by decide +kernel
    have hj' : j < Lib.deBruijn64tab.length := by omega
    have c := u.cell helm_g64 j (by simpa using hj')
    rw [c]
    simp [List.getD, List.getElem?_eq_getElem hj']
  exact ⟨v, World.block_lt_of_cell? W _ (v 0 (by omega))⟩

set_option maxRecDepth 100000 in
theorem any_lifted (os : Os) (started : os.Started) (H : Type) (enc : TypeId × Value → H) :
    ReturnsInHanded {} Tryz.checked os 8 .any (fun w args => (Rows.anySpec.pre enc Tryz.prog Tryz.f8 [] false w args ∧ laidMetH Tryz.prog Rows.anyRow.laid w) ∧ sizedMet enc Tryz.prog Tryz.f8 (OpenSpec.ofChange Rows.anySpec) false w args)
      (Rows.anySpec.post enc Tryz.prog Tryz.f8 false true false false) := by
  refine returnsInHanded_of_change_and (C := Tryz.checked) (X := fun w _ => laidMetH Tryz.prog Rows.anyRow.laid w) (fun _ _ _ hh h => h.of_heap hh) helm_own started (by kernel_rfl) Tryz.func8
    (ChangeSpec.witness_shaped (enc := enc) (C := Tryz.checked) (os := os) (X := fun w _ => laidMetH Tryz.prog Rows.anyRow.laid w) false (World.doorLaid Tryz.prog 62 os) #[.string ByteArray.empty, .agg #[.slice none 0 0, .slice none 0 0, .slice none 0 0], .agg #[.int .i64 0, .int .i64 0, .int .i64 0, .int .i64 0, .int .i64 0, .int .i64 0, .int .i64 0, .int .i64 0], .int .i64 0] 8 rfl (World.shaped_of_RefB (by kernel_rfl) (by kernel_rfl)) (by kernel_rfl) (by kernel_rfl) (by kernel_rfl) (any_door os _)) ?_
  intro W base args ds gs before hval0 hW _ _ hL _
  have hval : ∀ (j : Nat) t v, Tryz.f8.params[j]? = some t → args[j]? = some v → Value.okWide Tryz.prog W .any base t v := hval0
  have hW' := hW
  obtain ⟨p, q, hA0, hV, rfl, hfz, hnd⟩ := hW
  have hA : DataW.TrodAll enc Tryz.prog W 0 (fun _ => true) true Tryz.f8.params.toList args.toList ds p := hA0
  rw [Tryz.params8] at hA hval
  obtain ⟨v0, vs0, d0, ds0, p0, q0, hargs, rfl, rfl, h0, r0⟩ := trodAll_cons hA
  obtain ⟨v1, vs1, d1, ds1, p1, q1, rfl, rfl, rfl, h1, r1⟩ := trodAll_cons r0
  obtain ⟨v2, vs2, d2, ds2, p2, q2, rfl, rfl, rfl, h2, r2⟩ := trodAll_cons r1
  obtain ⟨v3, vs3, d3, ds3, p3, q3, rfl, rfl, rfl, h3, r3⟩ := trodAll_cons r2
  obtain ⟨rfl, rfl, rfl⟩ := trodAll_nil r3
  obtain rfl : args = #[v0, v1, v2, v3] := by cases args; simp_all
  obtain ⟨rfl, rfl⟩ := trodVars_none hV
  obtain ⟨s, rfl, rfl, rfl, ws⟩ := open_string Tryz.underlying9 (hval 0 9 v0 rfl rfl) h0
  obtain ⟨cs, rfl, hcs⟩ := okWide_struct Tryz.underlying25 (hval 1 25 v1 rfl rfl)
  obtain ⟨rs, rfl, hrs⟩ := okWide_array Tryz.underlying26 (hval 2 26 v2 rfl rfl)
  obtain ⟨fu, rfl, rfl, rfl, wf⟩ := open_int Tryz.underlying3 (hval 3 3 v3 rfl rfl) h3
  have k1 := h1
  have lt1 : ∀ x ∈ p1, x.block < W.heap.size := by obtain ⟨m, hm⟩ := k1; exact DataW.trod_lt m _ _ _ hm
  have k2 := h2
  have lt2 : ∀ x ∈ p2, x.block < W.heap.size := by obtain ⟨m, hm⟩ := k2; exact DataW.trod_lt m _ _ _ hm
  obtain ⟨n1, t1⟩ := h1
  obtain ⟨n2, t2⟩ := h2
  obtain ⟨ar, af, aa, nr, cr, nf, cf, na, ca, v, hc1, hv, hnr⟩ := view_of Tryz.underlying25 (by kernel_rfl) (by kernel_rfl) rfl rfl rfl Tryz.underlying22 Tryz.underlying74 (by kernel_rfl) (by kernel_rfl) Tryz.underlying3 Tryz.underlying3 Tryz.underlying3 Tryz.underlying3 Tryz.underlying4 Tryz.underlying23 Tryz.underlying72 (by kernel_rfl) (by kernel_rfl) Tryz.underlying3 Tryz.underlying3 Tryz.underlying3 t1
  obtain ⟨zs, hc2, hzl, hz⟩ := ints_of Tryz.underlying26 Tryz.underlying3 (by kernel_rfl) (by kernel_rfl) t2
  simp only [Value.cells] at hc1 hc2
  obtain rfl : cs = #[.slice ar nr cr, .slice af nf cf, .slice aa na ca] := by cases cs; simp_all
  obtain ⟨x0, x1, x2, x3, x4, x5, x6, x7, rfl⟩ : ∃ x0 x1 x2 x3 x4 x5 x6 x7, zs = [x0, x1, x2, x3, x4, x5, x6, x7] := by
    match zs, hzl with
    | [x0, x1, x2, x3, x4, x5, x6, x7], _ => exact ⟨x0, x1, x2, x3, x4, x5, x6, x7, rfl⟩
  obtain rfl : rs = #[.int .i64 x0, .int .i64 x1, .int .i64 x2, .int .i64 x3, .int .i64 x4, .int .i64 x5, .int .i64 x6, .int .i64 x7] := by cases rs; simp_all
  obtain ⟨hT, hone⟩ := any_tab hL
  clear hA0 hval0
  refine (any_walk (x := ⟨ar, af, aa, nr, cr, nf, cf, na, ca⟩) s v fu hv hnr hT hone hz (in64_of_wf wf)).mono fun e W' ⟨he, bel⟩ => ?_
  subst he
  exact ⟨_, rfl, _, _, _, [], _, [], hW', trodAll_mk1 (shut_bool Tryz.underlying4 _), (trodAll_cons_mk (shut_string Tryz.underlying9 ws) (trodAll_cons_mk (Below.trod helm_laidOut (by kernel_rfl) (of_decide_eq_true (by kernel_rfl)) k1 bel lt1) (trodAll_cons_mk (Below.trod helm_laidOut (by kernel_rfl) (of_decide_eq_true (by kernel_rfl)) k2 bel lt2) (trodAll_cons_mk (shut_int Tryz.underlying3 wf) trodAll_mk0)))), rfl, bel.frame _, fun h => by cases h⟩

theorem any_said : Rows.AnySaid :=
  OpenClaim.holds_of_wide 8 Tryz.f8 rfl rfl rfl rfl rfl rfl rfl ⟨rfl, rfl, rfl, rfl, rfl⟩ rfl rfl rfl rfl rfl any_func Tryz.func8 any_closed
    (of_decide_eq_true (by kernel_rfl)) (by unfold Func.isWrapper; first | (rw [if_pos (by decide +kernel)]; kernel_rfl) | (rw [if_neg (by decide +kernel)]; exact ⟨rfl, rfl⟩))
    (fun os started H enc _ => any_lifted os started H enc)

theorem any_holds : Rows.AnyCardSaid :=
  Claim7.holds_tied_plain_at .later [] [.data, .data, .data, .sentinel, .sentinel] true Rows.anyCard.stood.harness true
    any_said (fun _ h => by cases h) any_wf (fun _ h => by cases h) any_row_tie rfl ⟨rfl, rfl⟩ helm_main rfl
    (fun f fn hf hfn => by
      obtain rfl : f = 8 := (Option.some.inj (any_func.symm.trans hf)).symm
      obtain rfl : fn = Tryz.f8 := (Option.some.inj (Tryz.func8.symm.trans hfn)).symm
      exact ⟨helm_looks, fun j t ht => by
        rw [Tryz.params8] at ht
        have hm : t ∈ [9, 25, 26, 3] := by simpa using Array.mem_of_getElem? ht
        have hall : ([9, 25, 26, 3].all fun u => !Tryz.prog.wantsStandIn u) = true := by kernel_rfl
        exact (show Tryz.prog.wantsStandIn t = false by simpa using List.all_eq_true.1 hall t hm)⟩)
    any_goes
#print axioms any_holds
end Go.Proofs.YthllhabjfchgiaaGreatDoor
