/-
  DERIVED. GIVEN WITH THE SEED: THE CARDS: each row of YthllhabjfchgiaaGreatDoorRows.lean that lists a variable, with what it lists TIED to the program's text (the seventh form; the later family's looks); each row that meets fmt, with fmt's text TOLD by the authors' own Lean function (tested against real Go, not proved from fmt's source: count such statements apart). THE CARD IS WHAT COUNTS. Prove the row's statement (the work); the ties are given (YthllhabjfchgiaaGreatDoorTie.lean); close each card by the builder's one call (the guide's Derived/Test/ToyasCard.lean, 'card_holds'). Laid BY PROGRAM, IN A SANDBOX (cutbox-door.mjs). By AI agents, Wed Nov 11 2026. No macro, syntax, notation, axiom, sorry.
-/
import Derived.Test.YthllhabjfchgiaaGreatDoorRows
import GoSem.ClaimSeven
namespace Go.Proofs.YthllhabjfchgiaaGreatDoor
namespace Rows

/-- THE TIED CARD OF 'helmlaw.Runs'. -/
def runsCard : Claim7 := { stood := { row := runsRow, standIns := [], harness := (true, "145cdf35d48cfd07ac0baccfef4d3543fbe1e67f00c3dfc209eba3bfc86ef0ff"), looks := true }, kinds := [], alts := [], laidByText := true, laidKinds := [.data, .data, .data, .sentinel, .sentinel], laidTests := true, laidLooks := .later }
def RunsCardSaid : Prop := Claim7.holds Tryz.pinned (.plain (OpenSpec.ofChange runsSpec)) runsCard

/-- THE TIED CARD OF 'helmlaw.Links'. -/
def linksCard : Claim7 := { stood := { row := linksRow, standIns := [], harness := (true, "145cdf35d48cfd07ac0baccfef4d3543fbe1e67f00c3dfc209eba3bfc86ef0ff"), looks := true }, kinds := [], alts := [], laidByText := true, laidKinds := [.data, .data, .data, .sentinel, .sentinel], laidTests := true, laidLooks := .later }
def LinksCardSaid : Prop := Claim7.holds Tryz.pinned (.plain (OpenSpec.ofChange linksSpec)) linksCard

/-- THE TIED CARD OF 'helmkeep.Reckons'. -/
def reckonsCard : Claim7 := { stood := { row := reckonsRow, standIns := [], harness := (true, "145cdf35d48cfd07ac0baccfef4d3543fbe1e67f00c3dfc209eba3bfc86ef0ff"), looks := true }, kinds := [], alts := [], laidByText := true, laidKinds := [.data, .data, .data, .sentinel, .sentinel], laidTests := true, laidLooks := .later }
def ReckonsCardSaid : Prop := Claim7.holds Tryz.pinned (.plain (OpenSpec.ofChange reckonsSpec)) reckonsCard

/-- THE TIED CARD OF 'helmkeep.Steers'. -/
def steersCard : Claim7 := { stood := { row := steersRow, standIns := [], harness := (true, "145cdf35d48cfd07ac0baccfef4d3543fbe1e67f00c3dfc209eba3bfc86ef0ff"), looks := true }, kinds := [], alts := [], laidByText := true, laidKinds := [.data, .data, .data, .sentinel, .sentinel], laidTests := true, laidLooks := .later }
def SteersCardSaid : Prop := Claim7.holds Tryz.pinned (.plain (OpenSpec.ofChange steersSpec)) steersCard

/-- THE TIED CARD OF 'helmkeep.Better'. -/
def betterCard : Claim7 := { stood := { row := betterRow, standIns := [], harness := (true, "145cdf35d48cfd07ac0baccfef4d3543fbe1e67f00c3dfc209eba3bfc86ef0ff"), looks := true }, kinds := [], alts := [], laidByText := true, laidKinds := [.data, .data, .data, .sentinel, .sentinel], laidTests := true, laidLooks := .later }
def BetterCardSaid : Prop := Claim7.holds Tryz.pinned (.plain (OpenSpec.ofChange betterSpec)) betterCard

/-- THE TIED CARD OF 'helmkeep.Any'. -/
def anyCard : Claim7 := { stood := { row := anyRow, standIns := [], harness := (true, "145cdf35d48cfd07ac0baccfef4d3543fbe1e67f00c3dfc209eba3bfc86ef0ff"), looks := true }, kinds := [], alts := [], laidByText := true, laidKinds := [.data, .data, .data, .sentinel, .sentinel], laidTests := true, laidLooks := .later }
def AnyCardSaid : Prop := Claim7.holds Tryz.pinned (.plain (OpenSpec.ofChange anySpec)) anyCard

/-- THE TIED CARD OF 'helmkeep.Safe'. -/
def safeCard : Claim7 := { stood := { row := safeRow, standIns := [], harness := (true, "145cdf35d48cfd07ac0baccfef4d3543fbe1e67f00c3dfc209eba3bfc86ef0ff"), looks := true }, kinds := [], alts := [], laidByText := true, laidKinds := [.data, .data, .data, .sentinel, .sentinel], laidTests := true, laidLooks := .later }
def SafeCardSaid : Prop := Claim7.holds Tryz.pinned (.plain (OpenSpec.ofChange safeSpec)) safeCard

/-- THE TIED CARD OF 'helmkeep.Ends'. -/
def endsCard : Claim7 := { stood := { row := endsRow, standIns := [], harness := (true, "145cdf35d48cfd07ac0baccfef4d3543fbe1e67f00c3dfc209eba3bfc86ef0ff"), looks := true }, kinds := [], alts := [], laidByText := true, laidKinds := [.data, .data, .data, .sentinel, .sentinel], laidTests := true, laidLooks := .later }
def EndsCardSaid : Prop := Claim7.holds Tryz.pinned (.plain (OpenSpec.ofChange endsSpec)) endsCard

/-- THE SECOND FORM's CARD OF 'helmlaw.Runs'. -/
def runsUptoCard : Claim7 := { stood := { row := runsUptoRow, standIns := [], harness := (true, "145cdf35d48cfd07ac0baccfef4d3543fbe1e67f00c3dfc209eba3bfc86ef0ff"), looks := true }, kinds := [], alts := [], laidByText := true, laidKinds := [.data, .data, .data, .sentinel, .sentinel], laidTests := true, laidLooks := .later }
def RunsUptoCardSaid : Prop := Claim7.holds Tryz.pinned (.plain (OpenSpec.upto runsSpec)) runsUptoCard

/-- THE SECOND FORM's CARD OF 'helmlaw.Links'. -/
def linksUptoCard : Claim7 := { stood := { row := linksUptoRow, standIns := [], harness := (true, "145cdf35d48cfd07ac0baccfef4d3543fbe1e67f00c3dfc209eba3bfc86ef0ff"), looks := true }, kinds := [], alts := [], laidByText := true, laidKinds := [.data, .data, .data, .sentinel, .sentinel], laidTests := true, laidLooks := .later }
def LinksUptoCardSaid : Prop := Claim7.holds Tryz.pinned (.plain (OpenSpec.upto linksSpec)) linksUptoCard

/-- THE SECOND FORM's CARD OF 'helmkeep.Reckons'. -/
def reckonsUptoCard : Claim7 := { stood := { row := reckonsUptoRow, standIns := [], harness := (true, "145cdf35d48cfd07ac0baccfef4d3543fbe1e67f00c3dfc209eba3bfc86ef0ff"), looks := true }, kinds := [], alts := [], laidByText := true, laidKinds := [.data, .data, .data, .sentinel, .sentinel], laidTests := true, laidLooks := .later }
def ReckonsUptoCardSaid : Prop := Claim7.holds Tryz.pinned (.plain (OpenSpec.upto reckonsSpec)) reckonsUptoCard

/-- THE SECOND FORM's CARD OF 'helmkeep.Steers'. -/
def steersUptoCard : Claim7 := { stood := { row := steersUptoRow, standIns := [], harness := (true, "145cdf35d48cfd07ac0baccfef4d3543fbe1e67f00c3dfc209eba3bfc86ef0ff"), looks := true }, kinds := [], alts := [], laidByText := true, laidKinds := [.data, .data, .data, .sentinel, .sentinel], laidTests := true, laidLooks := .later }
def SteersUptoCardSaid : Prop := Claim7.holds Tryz.pinned (.plain (OpenSpec.upto steersSpec)) steersUptoCard

/-- THE SECOND FORM's CARD OF 'helmkeep.Better'. -/
def betterUptoCard : Claim7 := { stood := { row := betterUptoRow, standIns := [], harness := (true, "145cdf35d48cfd07ac0baccfef4d3543fbe1e67f00c3dfc209eba3bfc86ef0ff"), looks := true }, kinds := [], alts := [], laidByText := true, laidKinds := [.data, .data, .data, .sentinel, .sentinel], laidTests := true, laidLooks := .later }
def BetterUptoCardSaid : Prop := Claim7.holds Tryz.pinned (.plain (OpenSpec.upto betterSpec)) betterUptoCard

/-- THE SECOND FORM's CARD OF 'helmkeep.Any'. -/
def anyUptoCard : Claim7 := { stood := { row := anyUptoRow, standIns := [], harness := (true, "145cdf35d48cfd07ac0baccfef4d3543fbe1e67f00c3dfc209eba3bfc86ef0ff"), looks := true }, kinds := [], alts := [], laidByText := true, laidKinds := [.data, .data, .data, .sentinel, .sentinel], laidTests := true, laidLooks := .later }
def AnyUptoCardSaid : Prop := Claim7.holds Tryz.pinned (.plain (OpenSpec.upto anySpec)) anyUptoCard

/-- THE SECOND FORM's CARD OF 'helmkeep.Safe'. -/
def safeUptoCard : Claim7 := { stood := { row := safeUptoRow, standIns := [], harness := (true, "145cdf35d48cfd07ac0baccfef4d3543fbe1e67f00c3dfc209eba3bfc86ef0ff"), looks := true }, kinds := [], alts := [], laidByText := true, laidKinds := [.data, .data, .data, .sentinel, .sentinel], laidTests := true, laidLooks := .later }
def SafeUptoCardSaid : Prop := Claim7.holds Tryz.pinned (.plain (OpenSpec.upto safeSpec)) safeUptoCard

/-- THE SECOND FORM's CARD OF 'helmkeep.Ends'. -/
def endsUptoCard : Claim7 := { stood := { row := endsUptoRow, standIns := [], harness := (true, "145cdf35d48cfd07ac0baccfef4d3543fbe1e67f00c3dfc209eba3bfc86ef0ff"), looks := true }, kinds := [], alts := [], laidByText := true, laidKinds := [.data, .data, .data, .sentinel, .sentinel], laidTests := true, laidLooks := .later }
def EndsUptoCardSaid : Prop := Claim7.holds Tryz.pinned (.plain (OpenSpec.upto endsSpec)) endsUptoCard
end Rows
end Go.Proofs.YthllhabjfchgiaaGreatDoor
