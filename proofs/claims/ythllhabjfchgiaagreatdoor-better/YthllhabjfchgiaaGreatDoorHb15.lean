import Derived.Test.YthllhabjfchgiaaGreatDoorHb14
set_option maxRecDepth 100000
set_option maxHeartbeats 8000000
set_option linter.unusedSimpArgs false
namespace Go.Proofs.YthllhabjfchgiaaGreatDoor
open _root_.Go.Proofs.Tryz
section
theorem ah7:(Rows.betterRow.recurses==prog.recurses 7)=true:=by kernel_rfl
theorem ah6:(Rows.betterRow.named==prog.varsNamed 7)=true:=by kernel_rfl
end
end Go.Proofs.YthllhabjfchgiaaGreatDoor
