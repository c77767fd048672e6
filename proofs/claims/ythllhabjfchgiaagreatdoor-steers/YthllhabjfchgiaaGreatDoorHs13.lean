import Derived.Test.YthllhabjfchgiaaGreatDoorCards
import Derived.Test.YthllhabjfchgiaaGreatDoorHs12
set_option maxRecDepth 100000
set_option maxHeartbeats 8000000
set_option linter.unusedSimpArgs false
namespace Go.Proofs.YthllhabjfchgiaaGreatDoor
section
theorem amv:Tryz.pinned.checked.prog.mainIs=some (Rows.anyCard.stood.harness.1,Rows.anyCard.stood.harness.2.toList):=by kernel_rfl
theorem amu:true=Tryz.pinned.checked.prog.looks []:=by kernel_rfl
end
end Go.Proofs.YthllhabjfchgiaaGreatDoor
