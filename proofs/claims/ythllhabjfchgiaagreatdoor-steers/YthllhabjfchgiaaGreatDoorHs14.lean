import Derived.Test.YthllhabjfchgiaaGreatDoorHs13
set_option maxRecDepth 100000
set_option maxHeartbeats 8000000
set_option linter.unusedSimpArgs false
namespace Go.Proofs.YthllhabjfchgiaaGreatDoor
open _root_.Go.Proofs.Tryz
section
theorem auc:(Rows.steersRow.inPlace==prog.inPlace 6)=true:=by kernel_rfl
theorem aui:(Rows.steersRow.unfollowed==prog.unfollowed 6)=true:=by kernel_rfl
theorem ahr:Tryz.pinned.checked.prog.funcNamed Rows.steersRow.func=some 6:=by kernel_rfl
end
end Go.Proofs.YthllhabjfchgiaaGreatDoor
