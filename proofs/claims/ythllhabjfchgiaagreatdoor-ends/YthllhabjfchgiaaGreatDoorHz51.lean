import Derived.Test.YthllhabjfchgiaaGreatDoorHz15
set_option maxRecDepth 100000
set_option maxHeartbeats 8000000
namespace Go.Proofs.YthllhabjfchgiaaGreatDoor
open _root_.Go.Proofs.Tryz
section
theorem akA:(Rows.endsUptoRow.inPlace==prog.inPlace 10)=true:=by kernel_rfl
theorem akH:(Rows.endsUptoRow.unfollowed==prog.unfollowed 10)=true:=by kernel_rfl
theorem ajd:Tryz.pinned.checked.prog.funcNamed Rows.endsUptoRow.func=some 10:=by kernel_rfl
end
end Go.Proofs.YthllhabjfchgiaaGreatDoor
