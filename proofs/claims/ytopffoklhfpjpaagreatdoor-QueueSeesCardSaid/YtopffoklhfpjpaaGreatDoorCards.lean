/-
  DERIVED. GIVEN WITH THE SEED: THE CARDS: each row of YtopffoklhfpjpaaGreatDoorRows.lean that lists a variable, with what it lists TIED to the program's text (the seventh form; the later family's looks); each row that meets fmt, with fmt's text TOLD by the authors' own Lean function (tested against real Go, not proved from fmt's source: count such statements apart). THE CARD IS WHAT COUNTS. Prove the row's statement (the work); the ties are given (YtopffoklhfpjpaaGreatDoorTie.lean); close each card by the builder's one call (the guide's Derived/Test/ToyasCard.lean, 'card_holds'). Laid BY PROGRAM, IN A SANDBOX (cutbox-door.mjs). By AI agents, Wed Nov 11 2026. No macro, syntax, notation, axiom, sorry.
-/
import Derived.Test.YtopffoklhfpjpaaGreatDoorRows
import GoSem.ClaimSeven
namespace Go.Proofs.YtopffoklhfpjpaaGreatDoor
namespace Rows

/-- THE TIED CARD OF 'interdictlaw15.QueuePlays'. -/
def queuePlaysCard : Claim7 := { stood := { row := queuePlaysRow, standIns := [], harness := (true, "268a0b7ebececed4dbe9d563a5ff753c6ccc76b3e79c02faee6312c8f4f153e2"), looks := true }, kinds := [], alts := [], laidByText := true, laidKinds := [.data, .data, .data, .data, .sentinel, .sentinel, .pinned], laidTests := true, laidLooks := .later }
def QueuePlaysCardSaid : Prop := Claim7.holds Tryz.pinned (.plain (OpenSpec.ofChange queuePlaysSpec)) queuePlaysCard

/-- THE TIED CARD OF 'interdictlaw15.QueueSees'. -/
def queueSeesCard : Claim7 := { stood := { row := queueSeesRow, standIns := [], harness := (true, "268a0b7ebececed4dbe9d563a5ff753c6ccc76b3e79c02faee6312c8f4f153e2"), looks := true }, kinds := [], alts := [], laidByText := true, laidKinds := [.data, .data, .data, .data, .sentinel, .sentinel, .pinned], laidTests := true, laidLooks := .later }
def QueueSeesCardSaid : Prop := Claim7.holds Tryz.pinned (.plain (OpenSpec.ofChange queueSeesSpec)) queueSeesCard

/-- THE TIED CARD OF 'interdictlaw15.QueueMixes'. -/
def queueMixesCard : Claim7 := { stood := { row := queueMixesRow, standIns := [], harness := (true, "268a0b7ebececed4dbe9d563a5ff753c6ccc76b3e79c02faee6312c8f4f153e2"), looks := true }, kinds := [], alts := [], laidByText := true, laidKinds := [.data, .data, .data, .data, .sentinel, .sentinel, .pinned], laidTests := true, laidLooks := .later }
def QueueMixesCardSaid : Prop := Claim7.holds Tryz.pinned (.plain (OpenSpec.ofChange queueMixesSpec)) queueMixesCard

/-- THE TIED CARD OF 'interdictlaw15.QueueNil'. -/
def queueNilCard : Claim7 := { stood := { row := queueNilRow, standIns := [], harness := (true, "268a0b7ebececed4dbe9d563a5ff753c6ccc76b3e79c02faee6312c8f4f153e2"), looks := true }, kinds := [], alts := [], laidByText := true, laidKinds := [.data, .data, .data, .data, .sentinel, .sentinel, .pinned], laidTests := true, laidLooks := .later }
def QueueNilCardSaid : Prop := Claim7.holds Tryz.pinned (.plain (OpenSpec.ofChange queueNilSpec)) queueNilCard

/-- THE SECOND FORM's CARD OF 'interdictlaw15.QueuePlays'. -/
def queuePlaysUptoCard : Claim7 := { stood := { row := queuePlaysUptoRow, standIns := [], harness := (true, "268a0b7ebececed4dbe9d563a5ff753c6ccc76b3e79c02faee6312c8f4f153e2"), looks := true }, kinds := [], alts := [], laidByText := true, laidKinds := [.data, .data, .data, .data, .sentinel, .sentinel, .pinned], laidTests := true, laidLooks := .later }
def QueuePlaysUptoCardSaid : Prop := Claim7.holds Tryz.pinned (.plain (OpenSpec.upto queuePlaysSpec)) queuePlaysUptoCard

/-- THE SECOND FORM's CARD OF 'interdictlaw15.QueueSees'. -/
def queueSeesUptoCard : Claim7 := { stood := { row := queueSeesUptoRow, standIns := [], harness := (true, "268a0b7ebececed4dbe9d563a5ff753c6ccc76b3e79c02faee6312c8f4f153e2"), looks := true }, kinds := [], alts := [], laidByText := true, laidKinds := [.data, .data, .data, .data, .sentinel, .sentinel, .pinned], laidTests := true, laidLooks := .later }
def QueueSeesUptoCardSaid : Prop := Claim7.holds Tryz.pinned (.plain (OpenSpec.upto queueSeesSpec)) queueSeesUptoCard

/-- THE SECOND FORM's CARD OF 'interdictlaw15.QueueMixes'. -/
def queueMixesUptoCard : Claim7 := { stood := { row := queueMixesUptoRow, standIns := [], harness := (true, "268a0b7ebececed4dbe9d563a5ff753c6ccc76b3e79c02faee6312c8f4f153e2"), looks := true }, kinds := [], alts := [], laidByText := true, laidKinds := [.data, .data, .data, .data, .sentinel, .sentinel, .pinned], laidTests := true, laidLooks := .later }
def QueueMixesUptoCardSaid : Prop := Claim7.holds Tryz.pinned (.plain (OpenSpec.upto queueMixesSpec)) queueMixesUptoCard

/-- THE SECOND FORM's CARD OF 'interdictlaw15.QueueNil'. -/
def queueNilUptoCard : Claim7 := { stood := { row := queueNilUptoRow, standIns := [], harness := (true, "268a0b7ebececed4dbe9d563a5ff753c6ccc76b3e79c02faee6312c8f4f153e2"), looks := true }, kinds := [], alts := [], laidByText := true, laidKinds := [.data, .data, .data, .data, .sentinel, .sentinel, .pinned], laidTests := true, laidLooks := .later }
def QueueNilUptoCardSaid : Prop := Claim7.holds Tryz.pinned (.plain (OpenSpec.upto queueNilSpec)) queueNilUptoCard
end Rows
end Go.Proofs.YtopffoklhfpjpaaGreatDoor
