import Derived.Test.YthllhabjfchgiaaGreatDoorHs11
set_option maxRecDepth 100000
set_option maxHeartbeats 8000000
set_option linter.unusedSimpArgs false
namespace Go.Proofs.YthllhabjfchgiaaGreatDoor
open _root_.Go.Proofs.Tryz
section
theorem amy:prog.mayEnter=true:=by kernel_rfl
theorem ams:(Rows.anyRow.lifted==prog.liftsFinal)=true:=by kernel_rfl
theorem amw:(prog.make==some Rows.anyRow.make)=true:=by kernel_rfl
end
end Go.Proofs.YthllhabjfchgiaaGreatDoor
