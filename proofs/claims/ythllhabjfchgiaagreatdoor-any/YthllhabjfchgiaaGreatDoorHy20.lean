import Derived.Test.YthllhabjfchgiaaGreatDoorHy19
/- Closed facts of Any's row, further. -/
namespace Go.Proofs.YthllhabjfchgiaaGreatDoor
set_option maxRecDepth 100000
theorem any_recurses : (Rows.anyRow.recurses == Tryz.prog.recurses 8) = true := by kernel_rfl
theorem any_named : (Rows.anyRow.named == Tryz.prog.varsNamed 8) = true := by kernel_rfl
end Go.Proofs.YthllhabjfchgiaaGreatDoor
