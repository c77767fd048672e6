import Derived.Test.YthllhabjfchgiaaGreatDoorHs10
set_option maxRecDepth 100000
set_option maxHeartbeats 8000000
set_option linter.unusedSimpArgs false
namespace Go.Proofs.YthllhabjfchgiaaGreatDoor
open _root_.Go.Proofs.Tryz
section
theorem amx:mapsRowed prog=true:=by kernel_rfl
theorem amo:prog.stopsHeard=true:=by kernel_rfl
theorem amq:(Rows.anyRow.plainKeys==prog.plainKeys)=true:=by kernel_rfl
end
end Go.Proofs.YthllhabjfchgiaaGreatDoor
