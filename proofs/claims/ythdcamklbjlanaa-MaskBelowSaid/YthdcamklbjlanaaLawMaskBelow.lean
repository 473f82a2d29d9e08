import Derived.Test.YthdcamklbjlanaaMaskW
/-! the walk of MaskBelow -/
namespace Go.Proofs.Ythdcamklbjlanaa
open Go.RowKit

set_option maxHeartbeats 400000 in
theorem maskBelow_walk (n : Int) (w : World) (n0 : -9223372036854775808 ≤ n) (n1 : n ≤ 9223372036854775807) :
    Calls Try.prog 7 #[.int .i64 n] w fun e w' => e = .returned (.bool true) ∧ Below w.heap.size w w' := by
  have h3 := MM.below_three
  go_enter Try.func7, Try.ntmps7
  go_wp2_with (first | (go_at_call 22; refine (below_any _ _ (by omega) (by omega)).mono ?_; rintro e w' ⟨rfl, rfl⟩) | (go_at_call 23; refine (rbelow_any _ _ (by omega) (by omega)).mono ?_; rintro e w' ⟨rfl, rfl⟩))
  go_ret
  exact ⟨rfl, Below.refl _ _⟩
end Go.Proofs.Ythdcamklbjlanaa
