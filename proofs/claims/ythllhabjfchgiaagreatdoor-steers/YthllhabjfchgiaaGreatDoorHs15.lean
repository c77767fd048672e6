import Derived.Test.YthllhabjfchgiaaGreatDoorHs14
set_option maxRecDepth 100000
set_option maxHeartbeats 8000000
set_option linter.unusedSimpArgs false
namespace Go.Proofs.YthllhabjfchgiaaGreatDoor
open _root_.Go.Proofs.Tryz
section
theorem auf:(Rows.steersRow.recurses==prog.recurses 6)=true:=by kernel_rfl
theorem aue:(Rows.steersRow.named==prog.varsNamed 6)=true:=by kernel_rfl
end
end Go.Proofs.YthllhabjfchgiaaGreatDoor
