import Derived.Test.YthllhabjfchgiaaGreatDoorHz15
set_option maxRecDepth 100000
set_option maxHeartbeats 8000000
namespace Go.Proofs.YthllhabjfchgiaaGreatDoor
open _root_.Go.Proofs.Tryz
section
theorem ahs:(Rows.safeUptoRow.inPlace==prog.inPlace 9)=true:=by kernel_rfl
theorem ahz:(Rows.safeUptoRow.unfollowed==prog.unfollowed 9)=true:=by kernel_rfl
theorem XC:Tryz.pinned.checked.prog.funcNamed Rows.safeUptoRow.func=some 9:=by kernel_rfl
end
end Go.Proofs.YthllhabjfchgiaaGreatDoor
