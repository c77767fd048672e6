import Derived.Test.YthllhabjfchgiaaGreatDoorHk16
set_option maxRecDepth 100000
set_option maxHeartbeats 8000000
set_option linter.unusedSimpArgs false
namespace Go.Proofs.YthllhabjfchgiaaGreatDoor
open _root_.Go.Proofs.Tryz
section
theorem aqS:joinedFacts prog 5 Tryz.f5 Rows.reckonsSpec Rows.reckonsRow=true:=
 amx (by kernel_rfl) ak7 alc (by kernel_rfl) (by kernel_rfl) (by kernel_rfl) alf (by kernel_rfl) ak6 aqV aq2 aqZ aqX (by kernel_rfl) (by kernel_rfl) (by kernel_rfl) (by kernel_rfl) (by kernel_rfl) (by kernel_rfl) (by kernel_rfl) (by kernel_rfl) (by kernel_rfl)
  ak5 (by kernel_rfl) ak4 ald ak8 alb (by kernel_rfl) (by kernel_rfl) (by kernel_rfl) (by kernel_rfl)
theorem aq3:Rows.reckonsRow.wfByText (OpenSpec.ofChange Rows.reckonsSpec)=true:=by kernel_rfl
end
end Go.Proofs.YthllhabjfchgiaaGreatDoor
