import Derived.Test.YtbelhoeailjkkaaGraL
set_option linter.unusedSimpArgs false
set_option linter.unusedVariables false
/-! graphs: least, Lost -/
namespace Go.Proofs.Ytbelhoeailjkkaa
open Go.RowKit
/-- what 'least' and its callers hand back: a number, if it is not below 0 -/
def foundN (x : Int) : Int := if 0 ≤ x then x else 0
def foundB (x : Int) : Bool := decide (0 ≤ x)
def foundE (x : Int) : Ending := .returned (.tuple #[.int .i64 (foundN x), .bool (foundB x)])
theorem foundE_hit (k : Nat) : foundE (k : Int) = .returned (.tuple #[.int .i64 (k : Int), .bool true]) := by
  unfold foundE foundN foundB; rw [if_pos (by omega), decide_eq_true (by omega)]
theorem foundE_none : foundE (-1) = .returned (.tuple #[.int .i64 0, .bool false]) := by
  unfold foundE foundN foundB; rw [if_neg (by omega), decide_eq_false (by omega)]
/-- the least that is not reached; -1: there is none, or no such graph -/
def lostI (to : List (List Int)) : Int := if GG.rightG to = true then GG.firstN to.length (fun x => !GG.reachB to (-1) 0 x) else -1
def stuckI (to : List (List Int)) : Int := if GG.rightG to = true then GG.firstN to.length (fun x => !GG.endsB to x) else -1

end Go.Proofs.Ytbelhoeailjkkaa
