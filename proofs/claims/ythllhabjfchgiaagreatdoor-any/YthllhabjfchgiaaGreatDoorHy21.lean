import Derived.Test.YthllhabjfchgiaaGreatDoorHy20
/- Closed facts of Any's row, further. -/
namespace Go.Proofs.YthllhabjfchgiaaGreatDoor
set_option maxRecDepth 100000
theorem any_goes : false = Rows.anyRow.goesBy Tryz.pinned.checked.prog := by kernel_rfl
end Go.Proofs.YthllhabjfchgiaaGreatDoor
