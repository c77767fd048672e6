import Derived.Test.YthllhabjfchgiaaGreatDoorCards
import Derived.Test.YthllhabjfchgiaaGreatDoorHy17
/- Closed facts of the whole program, for the cards. -/
namespace Go.Proofs.YthllhabjfchgiaaGreatDoor
set_option maxRecDepth 100000
theorem helm_main : Tryz.pinned.checked.prog.mainIs = some (Rows.anyCard.stood.harness.1, Rows.anyCard.stood.harness.2.toList) := by kernel_rfl
theorem helm_looks : true = Tryz.pinned.checked.prog.looks [] := by kernel_rfl
end Go.Proofs.YthllhabjfchgiaaGreatDoor
