import Derived.Test.YthllhabjfchgiaaGreatDoorHb13
set_option maxRecDepth 100000
set_option maxHeartbeats 8000000
set_option linter.unusedSimpArgs false
namespace Go.Proofs.YthllhabjfchgiaaGreatDoor
open _root_.Go.Proofs.Tryz
section
theorem ah4:(Rows.betterRow.inPlace==prog.inPlace 7)=true:=by kernel_rfl
theorem aia:(Rows.betterRow.unfollowed==prog.unfollowed 7)=true:=by kernel_rfl
theorem ZJ:Tryz.pinned.checked.prog.funcNamed Rows.betterRow.func=some 7:=by kernel_rfl
end
end Go.Proofs.YthllhabjfchgiaaGreatDoor
