/-
  DERIVED. GIVEN WITH THE SEED: THE CARDS: each row of YtkoofibhddkpiaaDoorRows.lean that lists a variable, with what it lists TIED to the program's text (the seventh form; the later family's looks); each row that meets fmt, with fmt's text TOLD by the authors' own Lean function (tested against real Go, not proved from fmt's source: count such statements apart). THE CARD IS WHAT COUNTS. Prove the row's statement (the work); the ties are given (YtkoofibhddkpiaaDoorTie.lean); close each card by the builder's one call (the guide's Derived/Test/ToyasCard.lean, 'card_holds'). Laid BY PROGRAM, IN A SANDBOX (cutbox-door.mjs). By AI agents, Wed Nov 11 2026. No macro, syntax, notation, axiom, sorry.
-/
import Derived.Test.YtkoofibhddkpiaaDoorRows
import GoSem.ClaimSeven
namespace Go.Proofs.YtkoofibhddkpiaaDoor
namespace Rows

/-- THE TIED CARD OF 'interdictlaw17.SolveTurned'. -/
def solveTurnedCard : Claim7 := { stood := { row := solveTurnedRow, standIns := [], harness := (true, "baa93af97ec48211da61d9fafcbbdc345f3df56637caeacba1a54c4e1853d359"), looks := true }, kinds := [], alts := [], laidByText := true, laidKinds := [.data], laidTests := true, laidLooks := .later }
def SolveTurnedCardSaid : Prop := Claim7.holds Tryd.pinned (.plain (OpenSpec.ofChange solveTurnedSpec)) solveTurnedCard

/-- THE SECOND FORM's CARD OF 'interdictlaw17.SolveTurned'. -/
def solveTurnedUptoCard : Claim7 := { stood := { row := solveTurnedUptoRow, standIns := [], harness := (true, "baa93af97ec48211da61d9fafcbbdc345f3df56637caeacba1a54c4e1853d359"), looks := true }, kinds := [], alts := [], laidByText := true, laidKinds := [.data], laidTests := true, laidLooks := .later }
def SolveTurnedUptoCardSaid : Prop := Claim7.holds Tryd.pinned (.plain (OpenSpec.upto solveTurnedSpec)) solveTurnedUptoCard
end Rows
end Go.Proofs.YtkoofibhddkpiaaDoor
