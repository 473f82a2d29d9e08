/-
  DERIVED. GIVEN WITH THE SEED: THE CARDS: each row of YtgfjdnmnjabbbaaDoorRows.lean that lists a variable, with what it lists TIED to the program's text (the seventh form; the later family's looks); each row that meets fmt, with fmt's text TOLD by the authors' own Lean function (tested against real Go, not proved from fmt's source: count such statements apart). THE CARD IS WHAT COUNTS. Prove the row's statement (the work); the ties are given (YtgfjdnmnjabbbaaDoorTie.lean); close each card by the builder's one call (the guide's Derived/Test/ToyasCard.lean, 'card_holds'). Laid BY PROGRAM, IN A SANDBOX (cutbox-door.mjs). By AI agents, Wed Nov 11 2026. No macro, syntax, notation, axiom, sorry.
-/
import Derived.Test.YtgfjdnmnjabbbaaDoorRows
import GoSem.ClaimSeven
namespace Go.Proofs.YtgfjdnmnjabbbaaDoor
namespace Rows

/-- THE TIED CARD OF 'interdictlaw06.PolicyFinds'. -/
def policyFindsCard : Claim7 := { stood := { row := policyFindsRow, standIns := [], harness := (true, "e26e9ef35937b470c33a17d691de6e6526899e2b8b6a893e49c70904518293be"), looks := true }, kinds := [], alts := [], laidByText := true, laidKinds := [.data, .data, .data, .data, .sentinel, .sentinel, .pinned], laidTests := true, laidLooks := .later }
def PolicyFindsCardSaid : Prop := Claim7.holds Tryd.pinned (.plain (OpenSpec.ofChange policyFindsSpec)) policyFindsCard

/-- THE TIED CARD OF 'interdictlaw06.PolicyNotes'. -/
def policyNotesCard : Claim7 := { stood := { row := policyNotesRow, standIns := [], harness := (true, "e26e9ef35937b470c33a17d691de6e6526899e2b8b6a893e49c70904518293be"), looks := true }, kinds := [], alts := [], laidByText := true, laidKinds := [.data, .data, .data, .data, .sentinel, .sentinel, .pinned], laidTests := true, laidLooks := .later }
def PolicyNotesCardSaid : Prop := Claim7.holds Tryd.pinned (.plain (OpenSpec.ofChange policyNotesSpec)) policyNotesCard

/-- THE SECOND FORM's CARD OF 'interdictlaw06.PolicyFinds'. -/
def policyFindsUptoCard : Claim7 := { stood := { row := policyFindsUptoRow, standIns := [], harness := (true, "e26e9ef35937b470c33a17d691de6e6526899e2b8b6a893e49c70904518293be"), looks := true }, kinds := [], alts := [], laidByText := true, laidKinds := [.data, .data, .data, .data, .sentinel, .sentinel, .pinned], laidTests := true, laidLooks := .later }
def PolicyFindsUptoCardSaid : Prop := Claim7.holds Tryd.pinned (.plain (OpenSpec.upto policyFindsSpec)) policyFindsUptoCard

/-- THE SECOND FORM's CARD OF 'interdictlaw06.PolicyNotes'. -/
def policyNotesUptoCard : Claim7 := { stood := { row := policyNotesUptoRow, standIns := [], harness := (true, "e26e9ef35937b470c33a17d691de6e6526899e2b8b6a893e49c70904518293be"), looks := true }, kinds := [], alts := [], laidByText := true, laidKinds := [.data, .data, .data, .data, .sentinel, .sentinel, .pinned], laidTests := true, laidLooks := .later }
def PolicyNotesUptoCardSaid : Prop := Claim7.holds Tryd.pinned (.plain (OpenSpec.upto policyNotesSpec)) policyNotesUptoCard
end Rows
end Go.Proofs.YtgfjdnmnjabbbaaDoor
