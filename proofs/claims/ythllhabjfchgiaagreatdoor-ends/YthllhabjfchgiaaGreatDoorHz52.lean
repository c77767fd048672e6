import Derived.Test.YthllhabjfchgiaaGreatDoorHz15
set_option maxRecDepth 100000
set_option maxHeartbeats 8000000
namespace Go.Proofs.YthllhabjfchgiaaGreatDoor
open _root_.Go.Proofs.Tryz
section
theorem akE:(Rows.endsUptoRow.recurses==prog.recurses 10)=true:=by kernel_rfl
theorem akC:(Rows.endsUptoRow.named==prog.varsNamed 10)=true:=by kernel_rfl
end
end Go.Proofs.YthllhabjfchgiaaGreatDoor
