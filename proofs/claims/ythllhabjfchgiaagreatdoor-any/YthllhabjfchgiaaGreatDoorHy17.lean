import Derived.Test.YthllhabjfchgiaaGreatDoorHy16
/- Closed facts of the whole program, further. -/
namespace Go.Proofs.YthllhabjfchgiaaGreatDoor
set_option maxRecDepth 100000
theorem helm_mayEnter : Tryz.prog.mayEnter = true := by kernel_rfl
theorem helm_lifted : (Rows.anyRow.lifted == Tryz.prog.liftsFinal) = true := by kernel_rfl
theorem helm_make : (Tryz.prog.make == some Rows.anyRow.make) = true := by kernel_rfl
end Go.Proofs.YthllhabjfchgiaaGreatDoor
