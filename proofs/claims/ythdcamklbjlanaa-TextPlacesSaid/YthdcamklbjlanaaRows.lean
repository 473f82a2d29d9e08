/-
  No cell of these rows narrows 'for every input' (looked for: loops, veiled, ifaces, maps, wideKeys, modest, calm, conditions, laid).
  DERIVED. THE GIVEN ROWS OF THIS SEAT. 5 by the template 'for every input the law returns true; each argument reads behind the call as it read before'; 0 by the template 'total and deterministic' (their statements: YthdcamklbjlanaaTotals.lean).
  GIVEN WITH THE SEED: the statements are not yours to turn. If you find one false, say at which input.
  Laid BY PROGRAM, IN A SANDBOX (cutbox-rows.mjs): the forced cells as the released guide's own fill.sh prints them over the translation d8bf3f3e02cf3581… (all of the seat's roots in one cut). By AI agents, Wed Nov 11 2026. No macro, syntax, notation, axiom, sorry.
-/
import Derived.Test.YthdcamklbjlanaaChecked
import GoSem.Claim
import GoSem.ClaimJoined
import GoSem.ClaimMapViews
import Derived.JoinedTies
import Derived.KernelRfl
namespace Go.Proofs.Ythdcamklbjlanaa
/- THE CELL 'sum', in the pinned program and in every row, IS THE sha256 OF THE DUMP (.gsa) THAT YthdcamklbjlanaaProg.lean LOADS. Nothing in Lean hashes anything: it is a label: what it is worth is what the hold of that sum in a sandbox is worth. -/
noncomputable def Try.pinned : Pinned := { name := "ythdcamklbjlanaa", sum := "d8bf3f3e02cf3581db68ec8a1048d9141649605ddf1ef751f490ec7a14fc74ab", checked := Try.checked }
namespace Rows
def none {H : Type} : Left H := { results := [], args := [] }

/-- 'interdictlaw01.TextLetters': WHATEVER THE INPUT: true; the input reads as it did. -/
def textLettersSpec : ChangeSpec := { name := "textLetters", fn := fun _ => fun
  | [d] => { results := [.lit (.bool true)], args := [d] }
  | _ => none }
def textLettersRow : OpenClaim := { program := "ythdcamklbjlanaa", sum := "d8bf3f3e02cf3581db68ec8a1048d9141649605ddf1ef751f490ec7a14fc74ab", func := "interdict/interdictlaw01.TextLetters", spec := "textLetters", unfollowed := true, recurses := true, apart := false }
def TextLettersSaid : Prop := textLettersRow.holds Try.pinned (OpenSpec.ofChange textLettersSpec)

/-- ITS FALSE NEIGHBOUR: 'it returns false'. Refute it at one input. -/
def textLettersWrong : ChangeSpec := { name := "textLetters", fn := fun _ => fun
  | [d] => { results := [.lit (.bool false)], args := [d] }
  | _ => none }
def TextLettersWrongFalsely : Prop := textLettersRow.holds Try.pinned (OpenSpec.ofChange textLettersWrong)

/-- 'interdictlaw01.TextNames': WHATEVER THE INPUT: true; the input reads as it did. -/
def textNamesSpec : ChangeSpec := { name := "textNames", fn := fun _ => fun
  | [d] => { results := [.lit (.bool true)], args := [d] }
  | _ => none }
def textNamesRow : OpenClaim := { program := "ythdcamklbjlanaa", sum := "d8bf3f3e02cf3581db68ec8a1048d9141649605ddf1ef751f490ec7a14fc74ab", func := "interdict/interdictlaw01.TextNames", spec := "textNames", unfollowed := true, recurses := true, apart := false }
def TextNamesSaid : Prop := textNamesRow.holds Try.pinned (OpenSpec.ofChange textNamesSpec)

/-- ITS FALSE NEIGHBOUR: 'it returns false'. Refute it at one input. -/
def textNamesWrong : ChangeSpec := { name := "textNames", fn := fun _ => fun
  | [d] => { results := [.lit (.bool false)], args := [d] }
  | _ => none }
def TextNamesWrongFalsely : Prop := textNamesRow.holds Try.pinned (OpenSpec.ofChange textNamesWrong)

/-- 'interdictlaw01.TextPlaces': WHATEVER THE INPUT: true; the input reads as it did. -/
def textPlacesSpec : ChangeSpec := { name := "textPlaces", fn := fun _ => fun
  | [d1, d2] => { results := [.lit (.bool true)], args := [d1, d2] }
  | _ => none }
def textPlacesRow : OpenClaim := { program := "ythdcamklbjlanaa", sum := "d8bf3f3e02cf3581db68ec8a1048d9141649605ddf1ef751f490ec7a14fc74ab", func := "interdict/interdictlaw01.TextPlaces", spec := "textPlaces", apart := false }
def TextPlacesSaid : Prop := textPlacesRow.holds Try.pinned (OpenSpec.ofChange textPlacesSpec)

/-- ITS FALSE NEIGHBOUR: 'it returns false'. Refute it at one input. -/
def textPlacesWrong : ChangeSpec := { name := "textPlaces", fn := fun _ => fun
  | [d1, d2] => { results := [.lit (.bool false)], args := [d1, d2] }
  | _ => none }
def TextPlacesWrongFalsely : Prop := textPlacesRow.holds Try.pinned (OpenSpec.ofChange textPlacesWrong)

/-- 'interdictlaw02.MaskBits': WHATEVER THE INPUT: true; the input reads as it did. -/
def maskBitsSpec : ChangeSpec := { name := "maskBits", fn := fun _ => fun
  | [d1, d2] => { results := [.lit (.bool true)], args := [d1, d2] }
  | _ => none }
def maskBitsRow : OpenClaim := { program := "ythdcamklbjlanaa", sum := "d8bf3f3e02cf3581db68ec8a1048d9141649605ddf1ef751f490ec7a14fc74ab", func := "interdict/interdictlaw02.MaskBits", spec := "maskBits", apart := false }
def MaskBitsSaid : Prop := maskBitsRow.holds Try.pinned (OpenSpec.ofChange maskBitsSpec)

/-- ITS FALSE NEIGHBOUR: 'it returns false'. Refute it at one input. -/
def maskBitsWrong : ChangeSpec := { name := "maskBits", fn := fun _ => fun
  | [d1, d2] => { results := [.lit (.bool false)], args := [d1, d2] }
  | _ => none }
def MaskBitsWrongFalsely : Prop := maskBitsRow.holds Try.pinned (OpenSpec.ofChange maskBitsWrong)

/-- 'interdictlaw02.MaskBelow': WHATEVER THE INPUT: true; the input reads as it did. -/
def maskBelowSpec : ChangeSpec := { name := "maskBelow", fn := fun _ => fun
  | [d] => { results := [.lit (.bool true)], args := [d] }
  | _ => none }
def maskBelowRow : OpenClaim := { program := "ythdcamklbjlanaa", sum := "d8bf3f3e02cf3581db68ec8a1048d9141649605ddf1ef751f490ec7a14fc74ab", func := "interdict/interdictlaw02.MaskBelow", spec := "maskBelow", apart := false }
def MaskBelowSaid : Prop := maskBelowRow.holds Try.pinned (OpenSpec.ofChange maskBelowSpec)

/-- ITS FALSE NEIGHBOUR: 'it returns false'. Refute it at one input. -/
def maskBelowWrong : ChangeSpec := { name := "maskBelow", fn := fun _ => fun
  | [d] => { results := [.lit (.bool false)], args := [d] }
  | _ => none }
def MaskBelowWrongFalsely : Prop := maskBelowRow.holds Try.pinned (OpenSpec.ofChange maskBelowWrong)

/- THE SECOND FORM. 'bulk': how many values and letters a reading holds, each counted each time it is reached (what is shared counts as often as it is met; a slice's spare places count too). A statement '..UptoSaid' is the law's where the arguments, and the package variables that the reading takes, are together of bulk at most 1048576: NARROWER than '..Said'. Prove '..Said' where nothing that the law and all that it calls make is longer than what came in: it says more and counts as full. Else prove '..UptoSaid'. A law counts once. -/
mutual
def uptoBulk {H : Type} : DataW H → Nat
  | .lit (.string bytes) => bytes.length + 1
  | .lit _ => 1
  | .nil => 1
  | .ptr d => uptoBulk d + 1
  | .slice elems spare => uptoBulkAll elems + uptoBulkAll spare + 1
  | .agg parts => uptoBulkAll parts + 1
  | .iface _ d => uptoBulk d + 1
  | .map entries => uptoBulkEntries entries + 1
  | .held _ => 1
def uptoBulkAll {H : Type} : List (DataW H) → Nat
  | [] => 0
  | d :: r => uptoBulk d + uptoBulkAll r
def uptoBulkEntries {H : Type} : List (Lit × DataW H) → Nat
  | [] => 0
  | x :: r => uptoBulkEntry x + uptoBulkEntries r
def uptoBulkEntry {H : Type} : Lit × DataW H → Nat
  | (.string bytes, d) => bytes.length + uptoBulk d + 1
  | (_, d) => uptoBulk d + 1
 end
def uptoSmall : (H : Type) → List (DataW H) → Bool := fun _ ds => decide (uptoBulkAll ds ≤ 1048576)
def OpenSpec.upto (s : _root_.Go.ChangeSpec) : _root_.Go.OpenSpec := { _root_.Go.OpenSpec.ofChange s with cond := some uptoSmall }

/-- 'interdictlaw01.TextLetters', WHERE WHAT IT READS IS OF BULK AT MOST 1048576: true; the input reads as it did. -/
def textLettersUptoRow : OpenClaim := { program := "ythdcamklbjlanaa", sum := "d8bf3f3e02cf3581db68ec8a1048d9141649605ddf1ef751f490ec7a14fc74ab", func := "interdict/interdictlaw01.TextLetters", spec := "textLetters", unfollowed := true, recurses := true, apart := false, narrowed := true }
def TextLettersUptoSaid : Prop := textLettersUptoRow.holds Try.pinned (OpenSpec.upto textLettersSpec)

/-- 'interdictlaw01.TextNames', WHERE WHAT IT READS IS OF BULK AT MOST 1048576: true; the input reads as it did. -/
def textNamesUptoRow : OpenClaim := { program := "ythdcamklbjlanaa", sum := "d8bf3f3e02cf3581db68ec8a1048d9141649605ddf1ef751f490ec7a14fc74ab", func := "interdict/interdictlaw01.TextNames", spec := "textNames", unfollowed := true, recurses := true, apart := false, narrowed := true }
def TextNamesUptoSaid : Prop := textNamesUptoRow.holds Try.pinned (OpenSpec.upto textNamesSpec)

/-- 'interdictlaw01.TextPlaces', WHERE WHAT IT READS IS OF BULK AT MOST 1048576: true; the input reads as it did. -/
def textPlacesUptoRow : OpenClaim := { program := "ythdcamklbjlanaa", sum := "d8bf3f3e02cf3581db68ec8a1048d9141649605ddf1ef751f490ec7a14fc74ab", func := "interdict/interdictlaw01.TextPlaces", spec := "textPlaces", apart := false, narrowed := true }
def TextPlacesUptoSaid : Prop := textPlacesUptoRow.holds Try.pinned (OpenSpec.upto textPlacesSpec)

/-- 'interdictlaw02.MaskBits', WHERE WHAT IT READS IS OF BULK AT MOST 1048576: true; the input reads as it did. -/
def maskBitsUptoRow : OpenClaim := { program := "ythdcamklbjlanaa", sum := "d8bf3f3e02cf3581db68ec8a1048d9141649605ddf1ef751f490ec7a14fc74ab", func := "interdict/interdictlaw02.MaskBits", spec := "maskBits", apart := false, narrowed := true }
def MaskBitsUptoSaid : Prop := maskBitsUptoRow.holds Try.pinned (OpenSpec.upto maskBitsSpec)

/-- 'interdictlaw02.MaskBelow', WHERE WHAT IT READS IS OF BULK AT MOST 1048576: true; the input reads as it did. -/
def maskBelowUptoRow : OpenClaim := { program := "ythdcamklbjlanaa", sum := "d8bf3f3e02cf3581db68ec8a1048d9141649605ddf1ef751f490ec7a14fc74ab", func := "interdict/interdictlaw02.MaskBelow", spec := "maskBelow", apart := false, narrowed := true }
def MaskBelowUptoSaid : Prop := maskBelowUptoRow.holds Try.pinned (OpenSpec.upto maskBelowSpec)

end Rows
end Go.Proofs.Ythdcamklbjlanaa
