import Derived.Test.YthllhabjfchgiaaGreatDoorHz12
set_option maxRecDepth 100000
set_option maxHeartbeats 8000000
namespace Go.Proofs.YthllhabjfchgiaaGreatDoor
open _root_.Go.Proofs.Tryz
section
theorem ab9:mapsRowed prog=true:=by kernel_rfl
theorem ab2:prog.stopsHeard=true:=by kernel_rfl
theorem ab3:(Rows.anyRow.plainKeys==prog.plainKeys)=true:=by kernel_rfl
end
end Go.Proofs.YthllhabjfchgiaaGreatDoor
