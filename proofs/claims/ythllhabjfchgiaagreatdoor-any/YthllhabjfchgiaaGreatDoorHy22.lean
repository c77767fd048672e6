import Derived.Test.YthllhabjfchgiaaGreatDoorHy21
/- Closed facts of Any's row, the small ones: her row's facts in one. -/
namespace Go.Proofs.YthllhabjfchgiaaGreatDoor
set_option maxRecDepth 100000
theorem any_closed : joinedFacts Tryz.prog 8 Tryz.f8 Rows.anySpec Rows.anyRow = true :=
  joined_mk (by kernel_rfl) helm_laidOut helm_mapsRowed (by kernel_rfl) (by kernel_rfl) (by kernel_rfl) helm_stops (by kernel_rfl) helm_knobs any_inPlace any_unfollowed any_recurses any_named (by kernel_rfl) (by kernel_rfl) (by kernel_rfl) (by kernel_rfl) (by kernel_rfl) (by kernel_rfl) (by kernel_rfl) (by kernel_rfl) (by kernel_rfl)
    helm_keys (by kernel_rfl) helm_heard helm_mayEnter helm_lifted helm_make (by kernel_rfl) (by kernel_rfl) (by kernel_rfl) (by kernel_rfl)
theorem any_wf : Rows.anyRow.wfByText (OpenSpec.ofChange Rows.anySpec) = true := by kernel_rfl
end Go.Proofs.YthllhabjfchgiaaGreatDoor
