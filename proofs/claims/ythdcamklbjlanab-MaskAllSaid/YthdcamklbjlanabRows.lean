/-
  No cell of these rows narrows 'for every input' (looked for: loops, veiled, ifaces, maps, wideKeys, modest, calm, conditions, laid).
  DERIVED. THE GIVEN ROWS OF THIS SEAT. 5 by the template 'for every input the law returns true; each argument reads behind the call as it read before'; 0 by the template 'total and deterministic' (their statements: YthdcamklbjlanabTotals.lean).
  GIVEN WITH THE SEED: the statements are not yours to turn. If you find one false, say at which input.
  Laid BY PROGRAM, IN A SANDBOX (cutbox-rows.mjs): the forced cells as the released guide's own fill.sh prints them over the translation ca7d7ce8dfc68d0b… (all of the seat's roots in one cut). By AI agents, Wed Nov 11 2026. No macro, syntax, notation, axiom, sorry.
-/
import Derived.Test.YthdcamklbjlanabChecked
import GoSem.Claim
import GoSem.ClaimJoined
import GoSem.ClaimMapViews
import Derived.JoinedTies
import Derived.KernelRfl
namespace Go.Proofs.Ythdcamklbjlanab
/- THE CELL 'sum', in the pinned program and in every row, IS THE sha256 OF THE DUMP (.gsa) THAT YthdcamklbjlanabProg.lean LOADS. Nothing in Lean hashes anything: it is a label: what it is worth is what the hold of that sum in a sandbox is worth. -/
noncomputable def Try.pinned : Pinned := { name := "ythdcamklbjlanab", sum := "ca7d7ce8dfc68d0b1547d82a102945d85c1f7511bcb0e36fd21c759b84b0de34", checked := Try.checked }
namespace Rows
def none {H : Type} : Left H := { results := [], args := [] }

/-- 'interdictlaw02.MaskCounts': WHATEVER THE INPUT: true; the input reads as it did. -/
def maskCountsSpec : ChangeSpec := { name := "maskCounts", fn := fun _ => fun
  | [d] => { results := [.lit (.bool true)], args := [d] }
  | _ => none }
def maskCountsRow : OpenClaim := { program := "ythdcamklbjlanab", sum := "ca7d7ce8dfc68d0b1547d82a102945d85c1f7511bcb0e36fd21c759b84b0de34", func := "interdict/interdictlaw02.MaskCounts", spec := "maskCounts", unfollowed := true, recurses := true, apart := false }
def MaskCountsSaid : Prop := maskCountsRow.holds Try.pinned (OpenSpec.ofChange maskCountsSpec)

/-- ITS FALSE NEIGHBOUR: 'it returns false'. Refute it at one input. -/
def maskCountsWrong : ChangeSpec := { name := "maskCounts", fn := fun _ => fun
  | [d] => { results := [.lit (.bool false)], args := [d] }
  | _ => none }
def MaskCountsWrongFalsely : Prop := maskCountsRow.holds Try.pinned (OpenSpec.ofChange maskCountsWrong)

/-- 'interdictlaw02.MaskAll': WHATEVER THE INPUT: true; the input reads as it did. -/
def maskAllSpec : ChangeSpec := { name := "maskAll", fn := fun _ => fun
  | [d1, d2] => { results := [.lit (.bool true)], args := [d1, d2] }
  | _ => none }
def maskAllRow : OpenClaim := { program := "ythdcamklbjlanab", sum := "ca7d7ce8dfc68d0b1547d82a102945d85c1f7511bcb0e36fd21c759b84b0de34", func := "interdict/interdictlaw02.MaskAll", spec := "maskAll", unfollowed := true, recurses := true, apart := false }
def MaskAllSaid : Prop := maskAllRow.holds Try.pinned (OpenSpec.ofChange maskAllSpec)

/-- ITS FALSE NEIGHBOUR: 'it returns false'. Refute it at one input. -/
def maskAllWrong : ChangeSpec := { name := "maskAll", fn := fun _ => fun
  | [d1, d2] => { results := [.lit (.bool false)], args := [d1, d2] }
  | _ => none }
def MaskAllWrongFalsely : Prop := maskAllRow.holds Try.pinned (OpenSpec.ofChange maskAllWrong)

/-- 'interdictlaw02.MaskOf': WHATEVER THE INPUT: true; the input reads as it did. -/
def maskOfSpec : ChangeSpec := { name := "maskOf", fn := fun _ => fun
  | [d] => { results := [.lit (.bool true)], args := [d] }
  | _ => none }
def maskOfRow : OpenClaim := { program := "ythdcamklbjlanab", sum := "ca7d7ce8dfc68d0b1547d82a102945d85c1f7511bcb0e36fd21c759b84b0de34", func := "interdict/interdictlaw02.MaskOf", spec := "maskOf", apart := false }
def MaskOfSaid : Prop := maskOfRow.holds Try.pinned (OpenSpec.ofChange maskOfSpec)

/-- ITS FALSE NEIGHBOUR: 'it returns false'. Refute it at one input. -/
def maskOfWrong : ChangeSpec := { name := "maskOf", fn := fun _ => fun
  | [d] => { results := [.lit (.bool false)], args := [d] }
  | _ => none }
def MaskOfWrongFalsely : Prop := maskOfRow.holds Try.pinned (OpenSpec.ofChange maskOfWrong)

/-- 'interdictlaw02.MaskBack': WHATEVER THE INPUT: true; the input reads as it did. -/
def maskBackSpec : ChangeSpec := { name := "maskBack", fn := fun _ => fun
  | [d1, d2] => { results := [.lit (.bool true)], args := [d1, d2] }
  | _ => none }
def maskBackRow : OpenClaim := { program := "ythdcamklbjlanab", sum := "ca7d7ce8dfc68d0b1547d82a102945d85c1f7511bcb0e36fd21c759b84b0de34", func := "interdict/interdictlaw02.MaskBack", spec := "maskBack", unfollowed := true, recurses := true, apart := false }
def MaskBackSaid : Prop := maskBackRow.holds Try.pinned (OpenSpec.ofChange maskBackSpec)

/-- ITS FALSE NEIGHBOUR: 'it returns false'. Refute it at one input. -/
def maskBackWrong : ChangeSpec := { name := "maskBack", fn := fun _ => fun
  | [d1, d2] => { results := [.lit (.bool false)], args := [d1, d2] }
  | _ => none }
def MaskBackWrongFalsely : Prop := maskBackRow.holds Try.pinned (OpenSpec.ofChange maskBackWrong)

/-- 'interdictlaw02.MaskSums': WHATEVER THE INPUT: true; the input reads as it did. -/
def maskSumsSpec : ChangeSpec := { name := "maskSums", fn := fun _ => fun
  | [d1, d2] => { results := [.lit (.bool true)], args := [d1, d2] }
  | _ => none }
def maskSumsRow : OpenClaim := { program := "ythdcamklbjlanab", sum := "ca7d7ce8dfc68d0b1547d82a102945d85c1f7511bcb0e36fd21c759b84b0de34", func := "interdict/interdictlaw02.MaskSums", spec := "maskSums", unfollowed := true, recurses := true, apart := false }
def MaskSumsSaid : Prop := maskSumsRow.holds Try.pinned (OpenSpec.ofChange maskSumsSpec)

/-- ITS FALSE NEIGHBOUR: 'it returns false'. Refute it at one input. -/
def maskSumsWrong : ChangeSpec := { name := "maskSums", fn := fun _ => fun
  | [d1, d2] => { results := [.lit (.bool false)], args := [d1, d2] }
  | _ => none }
def MaskSumsWrongFalsely : Prop := maskSumsRow.holds Try.pinned (OpenSpec.ofChange maskSumsWrong)

/- THE SECOND FORM. 'bulk': how many values and letters a reading holds, each counted each time it is reached (what is shared counts as often as it is met; a slice's spare places count too). A statement '..UptoSaid' is the law's where the arguments, and the package variables that the reading takes, are together of bulk at most 1048576: NARROWER than '..Said'. Prove '..Said' where nothing that the law and all that it calls make is longer than what came in: it says more and counts as full. Else prove '..UptoSaid'. A law counts once. -/
mutual
def uptoBulk {H : Type} : DataW H → Nat
  | .lit (.string bytes) => bytes.length + 1
  | .lit _ => 1
  | .nil => 1
  | .ptr d => uptoBulk d + 1
  | .slice elems spare => uptoBulkAll elems + uptoBulkAll spare + 1
  | .agg parts => uptoBulkAll parts + 1
  | .iface _ d => uptoBulk d + 1
  | .map entries => uptoBulkEntries entries + 1
  | .held _ => 1
def uptoBulkAll {H : Type} : List (DataW H) → Nat
  | [] => 0
  | d :: r => uptoBulk d + uptoBulkAll r
def uptoBulkEntries {H : Type} : List (Lit × DataW H) → Nat
  | [] => 0
  | x :: r => uptoBulkEntry x + uptoBulkEntries r
def uptoBulkEntry {H : Type} : Lit × DataW H → Nat
  | (.string bytes, d) => bytes.length + uptoBulk d + 1
  | (_, d) => uptoBulk d + 1
 end
def uptoSmall : (H : Type) → List (DataW H) → Bool := fun _ ds => decide (uptoBulkAll ds ≤ 1048576)
def OpenSpec.upto (s : _root_.Go.ChangeSpec) : _root_.Go.OpenSpec := { _root_.Go.OpenSpec.ofChange s with cond := some uptoSmall }

/-- 'interdictlaw02.MaskCounts', WHERE WHAT IT READS IS OF BULK AT MOST 1048576: true; the input reads as it did. -/
def maskCountsUptoRow : OpenClaim := { program := "ythdcamklbjlanab", sum := "ca7d7ce8dfc68d0b1547d82a102945d85c1f7511bcb0e36fd21c759b84b0de34", func := "interdict/interdictlaw02.MaskCounts", spec := "maskCounts", unfollowed := true, recurses := true, apart := false, narrowed := true }
def MaskCountsUptoSaid : Prop := maskCountsUptoRow.holds Try.pinned (OpenSpec.upto maskCountsSpec)

/-- 'interdictlaw02.MaskAll', WHERE WHAT IT READS IS OF BULK AT MOST 1048576: true; the input reads as it did. -/
def maskAllUptoRow : OpenClaim := { program := "ythdcamklbjlanab", sum := "ca7d7ce8dfc68d0b1547d82a102945d85c1f7511bcb0e36fd21c759b84b0de34", func := "interdict/interdictlaw02.MaskAll", spec := "maskAll", unfollowed := true, recurses := true, apart := false, narrowed := true }
def MaskAllUptoSaid : Prop := maskAllUptoRow.holds Try.pinned (OpenSpec.upto maskAllSpec)

/-- 'interdictlaw02.MaskOf', WHERE WHAT IT READS IS OF BULK AT MOST 1048576: true; the input reads as it did. -/
def maskOfUptoRow : OpenClaim := { program := "ythdcamklbjlanab", sum := "ca7d7ce8dfc68d0b1547d82a102945d85c1f7511bcb0e36fd21c759b84b0de34", func := "interdict/interdictlaw02.MaskOf", spec := "maskOf", apart := false, narrowed := true }
def MaskOfUptoSaid : Prop := maskOfUptoRow.holds Try.pinned (OpenSpec.upto maskOfSpec)

/-- 'interdictlaw02.MaskBack', WHERE WHAT IT READS IS OF BULK AT MOST 1048576: true; the input reads as it did. -/
def maskBackUptoRow : OpenClaim := { program := "ythdcamklbjlanab", sum := "ca7d7ce8dfc68d0b1547d82a102945d85c1f7511bcb0e36fd21c759b84b0de34", func := "interdict/interdictlaw02.MaskBack", spec := "maskBack", unfollowed := true, recurses := true, apart := false, narrowed := true }
def MaskBackUptoSaid : Prop := maskBackUptoRow.holds Try.pinned (OpenSpec.upto maskBackSpec)

/-- 'interdictlaw02.MaskSums', WHERE WHAT IT READS IS OF BULK AT MOST 1048576: true; the input reads as it did. -/
def maskSumsUptoRow : OpenClaim := { program := "ythdcamklbjlanab", sum := "ca7d7ce8dfc68d0b1547d82a102945d85c1f7511bcb0e36fd21c759b84b0de34", func := "interdict/interdictlaw02.MaskSums", spec := "maskSums", unfollowed := true, recurses := true, apart := false, narrowed := true }
def MaskSumsUptoSaid : Prop := maskSumsUptoRow.holds Try.pinned (OpenSpec.upto maskSumsSpec)

end Rows
end Go.Proofs.Ythdcamklbjlanab
