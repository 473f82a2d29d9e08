import Derived.Test.YthdcamklbjlanaaTextN
/-! the walk of TextNames -/
namespace Go.Proofs.Ythdcamklbjlanaa
set_option linter.unusedVariables false
open Go.RowKit

/-- the string q -/
def strQ : ByteArray := ⟨#[113]⟩
theorem name_q : nameB strQ = true := by decide

set_option maxHeartbeats 400000 in
theorem textNames_walk (s : ByteArray) (w : World) (hs : s.size ≤ 140737488351232) :
    Calls Try.prog 4 #[.string s] w fun e w' => e = .returned (.bool true) ∧ Below w.heap.size w w' := by
  go_enter Try.func4, Try.ntmps4
  go_wp2_with fail
  refine (name_any _ _ hs).mono ?_
  rintro e w1 ⟨rfl, hb1⟩
  go_wp2_with fail
  refine (rname_any _ _ hs).mono ?_
  rintro e w2 ⟨rfl, n, rfl⟩
  go_wp2_with fail
  refine (name_any strQ _ (by decide)).mono ?_
  rintro e w3 ⟨rfl, hb3⟩
  rw [name_q]
  go_wp2_with fail
  go_ret
  exact ⟨rfl, bstep (below_drewN hb1 _) hb3⟩
end Go.Proofs.Ythdcamklbjlanaa
