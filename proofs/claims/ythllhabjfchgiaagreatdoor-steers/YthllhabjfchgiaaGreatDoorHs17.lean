import Derived.Test.YthllhabjfchgiaaGreatDoorHs16
set_option maxRecDepth 100000
set_option maxHeartbeats 8000000
set_option linter.unusedSimpArgs false
namespace Go.Proofs.YthllhabjfchgiaaGreatDoor
open _root_.Go.Proofs.Tryz
section
theorem at7:joinedFacts prog 6 Tryz.f6 Rows.steersSpec Rows.steersRow=true:=
 anV (by kernel_rfl) adi amx (by kernel_rfl) (by kernel_rfl) (by kernel_rfl) amB (by kernel_rfl) amr auc aui auf aue (by kernel_rfl) (by kernel_rfl) (by kernel_rfl) (by kernel_rfl) (by kernel_rfl) (by kernel_rfl) (by kernel_rfl) (by kernel_rfl) (by kernel_rfl)
  amq (by kernel_rfl) amo amy ams amw (by kernel_rfl) (by kernel_rfl) (by kernel_rfl) (by kernel_rfl)
theorem auj:Rows.steersRow.wfByText (OpenSpec.ofChange Rows.steersSpec)=true:=by kernel_rfl
end
end Go.Proofs.YthllhabjfchgiaaGreatDoor
