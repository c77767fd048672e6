import Derived.Test.YthllhabjfchgiaaGreatDoorHs15
set_option maxRecDepth 100000
set_option maxHeartbeats 8000000
set_option linter.unusedSimpArgs false
namespace Go.Proofs.YthllhabjfchgiaaGreatDoor
section
theorem aub:false=Rows.steersRow.goesBy Tryz.pinned.checked.prog:=by kernel_rfl
end
end Go.Proofs.YthllhabjfchgiaaGreatDoor
