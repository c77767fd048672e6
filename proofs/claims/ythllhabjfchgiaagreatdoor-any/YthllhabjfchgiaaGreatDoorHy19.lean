import Derived.Test.YthllhabjfchgiaaGreatDoorHy18
/- Closed facts of Any's row. -/
namespace Go.Proofs.YthllhabjfchgiaaGreatDoor
set_option maxRecDepth 100000
theorem any_inPlace : (Rows.anyRow.inPlace == Tryz.prog.inPlace 8) = true := by kernel_rfl
theorem any_unfollowed : (Rows.anyRow.unfollowed == Tryz.prog.unfollowed 8) = true := by kernel_rfl
theorem any_func : Tryz.pinned.checked.prog.funcNamed Rows.anyRow.func = some 8 := by kernel_rfl
end Go.Proofs.YthllhabjfchgiaaGreatDoor
