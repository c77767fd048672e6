import Derived.Test.YthllhabjfchgiaaGreatDoorHz15
set_option maxRecDepth 100000
set_option maxHeartbeats 8000000
namespace Go.Proofs.YthllhabjfchgiaaGreatDoor
section
theorem akz:false=Rows.endsUptoRow.goesBy Tryz.pinned.checked.prog:=by kernel_rfl
end
end Go.Proofs.YthllhabjfchgiaaGreatDoor
