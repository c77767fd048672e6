import Derived.Test.YthllhabjfchgiaaGreatDoorHy15
/- Closed facts of the whole program, further. -/
namespace Go.Proofs.YthllhabjfchgiaaGreatDoor
set_option maxRecDepth 100000
theorem helm_mapsRowed : mapsRowed Tryz.prog = true := by kernel_rfl
theorem helm_heard : Tryz.prog.stopsHeard = true := by kernel_rfl
theorem helm_keys : (Rows.anyRow.plainKeys == Tryz.prog.plainKeys) = true := by kernel_rfl
end Go.Proofs.YthllhabjfchgiaaGreatDoor
