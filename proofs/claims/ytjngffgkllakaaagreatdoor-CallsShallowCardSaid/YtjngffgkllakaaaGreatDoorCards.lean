/-
  DERIVED. GIVEN WITH THE SEED: THE CARDS: each row of YtjngffgkllakaaaGreatDoorRows.lean that lists a variable, with what it lists TIED to the program's text (the seventh form; the later family's looks); each row that meets fmt, with fmt's text TOLD by the authors' own Lean function (tested against real Go, not proved from fmt's source: count such statements apart). THE CARD IS WHAT COUNTS. Prove the row's statement (the work); the ties are given (YtjngffgkllakaaaGreatDoorTie.lean); close each card by the builder's one call (the guide's Derived/Test/ToyasCard.lean, 'card_holds'). Laid BY PROGRAM, IN A SANDBOX (cutbox-door.mjs). By AI agents, Wed Nov 11 2026. No macro, syntax, notation, axiom, sorry.
-/
import Derived.Test.YtjngffgkllakaaaGreatDoorRows
import GoSem.ClaimSeven
namespace Go.Proofs.YtjngffgkllakaaaGreatDoor
namespace Rows

/-- THE TIED CARD OF 'interdictlaw18.CallsTo'. -/
def callsToCard : Claim7 := { stood := { row := callsToRow, standIns := [], harness := (true, "396b1f0745302422c1eed4c4636257b9bbdf558356c0a7baeec8743570b941d1"), looks := true }, kinds := [], alts := [], laidByText := true, laidKinds := [.data, .data], laidTests := true, laidLooks := .later }
def CallsToCardSaid : Prop := Claim7.holds Tryz.pinned (.plain (OpenSpec.ofChange callsToSpec)) callsToCard

/-- THE TIED CARD OF 'interdictlaw18.CallsShallow'. -/
def callsShallowCard : Claim7 := { stood := { row := callsShallowRow, standIns := [], harness := (true, "396b1f0745302422c1eed4c4636257b9bbdf558356c0a7baeec8743570b941d1"), looks := true }, kinds := [], alts := [], laidByText := true, laidKinds := [.data, .data], laidTests := true, laidLooks := .later }
def CallsShallowCardSaid : Prop := Claim7.holds Tryz.pinned (.plain (OpenSpec.ofChange callsShallowSpec)) callsShallowCard

/-- THE SECOND FORM's CARD OF 'interdictlaw18.CallsTo'. -/
def callsToUptoCard : Claim7 := { stood := { row := callsToUptoRow, standIns := [], harness := (true, "396b1f0745302422c1eed4c4636257b9bbdf558356c0a7baeec8743570b941d1"), looks := true }, kinds := [], alts := [], laidByText := true, laidKinds := [.data, .data], laidTests := true, laidLooks := .later }
def CallsToUptoCardSaid : Prop := Claim7.holds Tryz.pinned (.plain (OpenSpec.upto callsToSpec)) callsToUptoCard

/-- THE SECOND FORM's CARD OF 'interdictlaw18.CallsShallow'. -/
def callsShallowUptoCard : Claim7 := { stood := { row := callsShallowUptoRow, standIns := [], harness := (true, "396b1f0745302422c1eed4c4636257b9bbdf558356c0a7baeec8743570b941d1"), looks := true }, kinds := [], alts := [], laidByText := true, laidKinds := [.data, .data], laidTests := true, laidLooks := .later }
def CallsShallowUptoCardSaid : Prop := Claim7.holds Tryz.pinned (.plain (OpenSpec.upto callsShallowSpec)) callsShallowUptoCard
end Rows
end Go.Proofs.YtjngffgkllakaaaGreatDoor
