import Derived.Test.YtgfjdnmnjabbbaaDoorPlatU
set_option linter.unusedSimpArgs false
set_option linter.unusedVariables false
/-! the walks of layer 5's Bottom, Top, Height -/
namespace Go.Proofs.YtgfjdnmnjabbbaaDoor
open Go.RowKit

/-- the end of a lattice, one way round -/
def endE (xs : List Int) (t : Bool) : Ending := .returned (.tuple #[.int .i64 (if LL.rightB xs = true then LL.endI (beyL xs t) else 0), .bool (LL.rightB xs)])
theorem end_yes {xs : List Int} (hr : LL.rightB xs = true) (hx : Wide xs) (t : Bool) : ∃ j : Nat, LL.endI (beyL xs t) = (j : Int) ∧ endE xs t = nearE (LL.endI (beyL xs t)) := by
  have key : ∃ j : Nat, LL.endI (beyL xs t) = (j : Int) := by
    cases t
    · obtain ⟨k, hk, h⟩ := LL.ex_end hr hx
      exact ⟨k, LL.endI_is hr hk h⟩
    · obtain ⟨k, hk, h⟩ := LL.ex_far hr hx
      exact ⟨k, (LL.dual_end (LL.right_ord hr)).trans (LL.farI_is hr hk h)⟩
  obtain ⟨j, hj⟩ := key
  refine ⟨j, hj, ?_⟩
  unfold endE nearE
  rw [hr, if_pos rfl, hj, if_pos (by omega), decide_eq_true (by omega)]
theorem far_if {xs : List Int} : (if LL.rightB xs = true then LL.endI (beyL xs true) else 0) = (if LL.rightB xs = true then LL.farI xs else 0) := by
  by_cases h : LL.rightB xs = true
  · rw [if_pos h, if_pos h]; exact LL.dual_end (LL.right_ord h)
  · rw [if_neg h, if_neg h]
theorem right5_c : RightC := fun v xs n₀ w hv hn hx hl hT => right5_any v xs n₀ w hv hn hx hl hT

end Go.Proofs.YtgfjdnmnjabbbaaDoor
