import Derived.Test.YthllhabjfchgiaaGreatDoorHz15
set_option maxRecDepth 100000
set_option maxHeartbeats 8000000
namespace Go.Proofs.YthllhabjfchgiaaGreatDoor
open _root_.Go.Proofs.Tryz
section
theorem ahw:(Rows.safeUptoRow.recurses==prog.recurses 9)=true:=by kernel_rfl
theorem ahu:(Rows.safeUptoRow.named==prog.varsNamed 9)=true:=by kernel_rfl
end
end Go.Proofs.YthllhabjfchgiaaGreatDoor
