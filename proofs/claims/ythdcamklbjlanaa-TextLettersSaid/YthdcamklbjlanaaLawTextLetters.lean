import Derived.Test.YthdcamklbjlanaaTextL
/-! the walk of TextLetters -/
namespace Go.Proofs.Ythdcamklbjlanaa
set_option linter.unusedVariables false
open Go.RowKit

theorem letter_q : letterB 113 = true := by decide

set_option maxHeartbeats 400000 in
theorem textLetters_walk (r : Int) (w : World) (r0 : -2147483648 ≤ r) (r1 : r ≤ 2147483647) :
    Calls Try.prog 3 #[.int .i32 r] w fun e w' => e = .returned (.bool true) ∧ Below w.heap.size w w' := by
  go_enter Try.func3, Try.ntmps3
  go_wp2_with fail
  refine (letter_any _ _).mono ?_
  rintro e w1 ⟨rfl, hb1⟩
  go_wp2_with fail
  refine (rletter_any _ _).mono ?_
  rintro e w2 ⟨rfl, rfl⟩
  go_wp2_with fail
  refine (digit_any _ _).mono ?_
  rintro e w2 ⟨rfl, hb2⟩
  go_wp2_with fail
  refine (rdigit_any _ _).mono ?_
  rintro e w3 ⟨rfl, rfl⟩
  go_wp2_with fail
  refine (letter_any _ _).mono ?_
  rintro e w3 ⟨rfl, hb3⟩
  rw [letter_q]
  go_wp2_with fail
  go_ret
  exact ⟨rfl, bstep (bstep hb1 hb2) hb3⟩
end Go.Proofs.Ythdcamklbjlanaa
