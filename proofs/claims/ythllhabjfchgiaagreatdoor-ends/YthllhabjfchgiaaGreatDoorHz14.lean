import Derived.Test.YthllhabjfchgiaaGreatDoorHz13
set_option maxRecDepth 100000
set_option maxHeartbeats 8000000
namespace Go.Proofs.YthllhabjfchgiaaGreatDoor
open _root_.Go.Proofs.Tryz
section
theorem acd:prog.mayEnter=true:=by kernel_rfl
theorem ab5:(Rows.anyRow.lifted==prog.liftsFinal)=true:=by kernel_rfl
theorem ab8:(prog.make==some Rows.anyRow.make)=true:=by kernel_rfl
end
end Go.Proofs.YthllhabjfchgiaaGreatDoor
