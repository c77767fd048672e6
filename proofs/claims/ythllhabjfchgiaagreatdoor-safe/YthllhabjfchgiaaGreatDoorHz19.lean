import Derived.Test.YthllhabjfchgiaaGreatDoorHz16
import Derived.Test.YthllhabjfchgiaaGreatDoorHz17
import Derived.Test.YthllhabjfchgiaaGreatDoorHz18
set_option maxRecDepth 100000
set_option maxHeartbeats 8000000
namespace Go.Proofs.YthllhabjfchgiaaGreatDoor
open _root_.Go.Proofs.Tryz
section
theorem ahp:joinedFacts prog 9 Tryz.f9 (Rows.OpenSpec.upto Rows.safeSpec).bare Rows.safeUptoRow=true:=
 adz (by kernel_rfl) UF ab9 (by kernel_rfl) (by kernel_rfl) (by kernel_rfl) acf (by kernel_rfl) ab4 ahs ahz ahw ahu (by kernel_rfl) (by kernel_rfl) (by kernel_rfl) (by kernel_rfl) (by kernel_rfl) (by kernel_rfl) (by kernel_rfl) (by kernel_rfl) (by kernel_rfl)
  ab3 (by kernel_rfl) ab2 acd ab5 ab8 (by kernel_rfl) (by kernel_rfl) (by kernel_rfl) (by kernel_rfl)
theorem ahA:Rows.safeUptoRow.wfByText (Rows.OpenSpec.upto Rows.safeSpec)=true:=by kernel_rfl
end
end Go.Proofs.YthllhabjfchgiaaGreatDoor
