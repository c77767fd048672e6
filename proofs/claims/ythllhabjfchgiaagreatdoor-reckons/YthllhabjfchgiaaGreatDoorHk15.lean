import Derived.Test.YthllhabjfchgiaaGreatDoorHk14
set_option maxRecDepth 100000
set_option maxHeartbeats 8000000
set_option linter.unusedSimpArgs false
namespace Go.Proofs.YthllhabjfchgiaaGreatDoor
open _root_.Go.Proofs.Tryz
section
theorem aqZ:(Rows.reckonsRow.recurses==prog.recurses 5)=true:=by kernel_rfl
theorem aqX:(Rows.reckonsRow.named==prog.varsNamed 5)=true:=by kernel_rfl
end
end Go.Proofs.YthllhabjfchgiaaGreatDoor
