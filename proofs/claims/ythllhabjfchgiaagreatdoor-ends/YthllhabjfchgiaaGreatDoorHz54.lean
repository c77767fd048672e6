import Derived.Test.YthllhabjfchgiaaGreatDoorHz51
import Derived.Test.YthllhabjfchgiaaGreatDoorHz52
import Derived.Test.YthllhabjfchgiaaGreatDoorHz53
set_option maxRecDepth 100000
set_option maxHeartbeats 8000000
namespace Go.Proofs.YthllhabjfchgiaaGreatDoor
open _root_.Go.Proofs.Tryz
section
theorem akx:joinedFacts prog 10 Tryz.f10 (Rows.OpenSpec.upto Rows.endsSpec).bare Rows.endsUptoRow=true:=
 adz (by kernel_rfl) UF ab9 (by kernel_rfl) (by kernel_rfl) (by kernel_rfl) acf (by kernel_rfl) ab4 akA akH akE akC (by kernel_rfl) (by kernel_rfl) (by kernel_rfl) (by kernel_rfl) (by kernel_rfl) (by kernel_rfl) (by kernel_rfl) (by kernel_rfl) (by kernel_rfl)
  ab3 (by kernel_rfl) ab2 acd ab5 ab8 (by kernel_rfl) (by kernel_rfl) (by kernel_rfl) (by kernel_rfl)
theorem akI:Rows.endsUptoRow.wfByText (Rows.OpenSpec.upto Rows.endsSpec)=true:=by kernel_rfl
end
end Go.Proofs.YthllhabjfchgiaaGreatDoor
