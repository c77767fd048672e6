import Derived.Test.YthllhabjfchgiaaGreatDoorHb16
set_option maxRecDepth 100000
set_option maxHeartbeats 8000000
set_option linter.unusedSimpArgs false
namespace Go.Proofs.YthllhabjfchgiaaGreatDoor
open _root_.Go.Proofs.Tryz
section
theorem ah1:joinedFacts prog 7 Tryz.f7 Rows.betterSpec Rows.betterRow=true:=
 alu (by kernel_rfl) Uw akc (by kernel_rfl) (by kernel_rfl) (by kernel_rfl) akf (by kernel_rfl) aj6 ah4 aia ah7 ah6 (by kernel_rfl) (by kernel_rfl) (by kernel_rfl) (by kernel_rfl) (by kernel_rfl) (by kernel_rfl) (by kernel_rfl) (by kernel_rfl) (by kernel_rfl)
  aj3 (by kernel_rfl) aj2 akd aj7 akb (by kernel_rfl) (by kernel_rfl) (by kernel_rfl) (by kernel_rfl)
theorem aib:Rows.betterRow.wfByText (OpenSpec.ofChange Rows.betterSpec)=true:=by kernel_rfl
end
end Go.Proofs.YthllhabjfchgiaaGreatDoor
