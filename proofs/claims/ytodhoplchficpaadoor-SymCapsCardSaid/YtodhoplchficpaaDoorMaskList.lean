import Derived.Test.YtodhoplchficpaaDoorMaskG
import Derived.Deep.QuietTactic
import Derived.BigQuiet
/-! the reference's list of a set -/
namespace Go.Proofs.YtodhoplchficpaaDoor
set_option linter.unusedVariables false
open Go.RowKit

theorem take_snoc_int (l : List Int) (k : Nat) (h : k < l.length) : l.take (k + 1) = l.take k ++ [l[k]?.getD 0] := by
  rw [List.take_succ_eq_append_getElem h, List.getElem?_eq_getElem h]; rfl
end Go.Proofs.YtodhoplchficpaaDoor
