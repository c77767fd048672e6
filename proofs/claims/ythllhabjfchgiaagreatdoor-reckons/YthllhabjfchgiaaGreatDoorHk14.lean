import Derived.Test.YthllhabjfchgiaaGreatDoorHk13
set_option maxRecDepth 100000
set_option maxHeartbeats 8000000
set_option linter.unusedSimpArgs false
namespace Go.Proofs.YthllhabjfchgiaaGreatDoor
open _root_.Go.Proofs.Tryz
section
theorem aqV:(Rows.reckonsRow.inPlace==prog.inPlace 5)=true:=by kernel_rfl
theorem aq2:(Rows.reckonsRow.unfollowed==prog.unfollowed 5)=true:=by kernel_rfl
theorem afd:Tryz.pinned.checked.prog.funcNamed Rows.reckonsRow.func=some 5:=by kernel_rfl
end
end Go.Proofs.YthllhabjfchgiaaGreatDoor
