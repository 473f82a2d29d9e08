import Derived.Test.YthdcamklbjlanaaTextN
/-! the walk of TextPlaces -/
namespace Go.Proofs.Ythdcamklbjlanaa
set_option linter.unusedVariables false
open Go.RowKit

/-- the string q -/
def strQ1 : ByteArray := ⟨#[113]⟩
theorem place_q : lineI strQ1 0 = 1 ∧ colI strQ1 0 = 1 := by decide

set_option maxHeartbeats 400000 in
theorem textPlaces_walk (s : ByteArray) (i : Int) (w : World) (hs : s.size ≤ 140737488351232) :
    Calls Try.prog 5 #[.string s, .int .i64 i] w fun e w' => e = .returned (.bool true) ∧ Below w.heap.size w w' := by
  by_cases hbig : 20000 < s.size
  · have hb : (20000 : Int) < (s.size : Int) := by omega
    go_enter Try.func5, Try.ntmps5
    go_wp2_with fail
    go_ret
    exact ⟨rfl, Below.refl _ _⟩
  · have hb : (s.size : Int) ≤ 20000 := by omega
    have hq := place_q
    by_cases h : 0 ≤ i ∧ i ≤ s.size
    · obtain ⟨k, rfl⟩ := Int.eq_ofNat_of_zero_le h.1
      have hk : k ≤ s.size := by omega
      clear h
      go_enter Try.func5, Try.ntmps5
      go_wp2_with fail
      refine (place_any s k _ hs hk).mono ?_
      rintro e w1 ⟨rfl, hb1⟩
      go_wp2_with fail
      refine (rplace_any s k _ hs hk).mono ?_
      rintro e w2 ⟨rfl, n, rfl⟩
      go_wp2_with fail
      refine (place_any strQ1 0 _ (by decide) (by decide)).mono ?_
      rintro e w3 ⟨rfl, hb3⟩
      rw [hq.1, hq.2]
      go_wp2_with fail
      go_ret
      exact ⟨rfl, bstep (below_drewN hb1 _) hb3⟩
    · have h' : i < 0 ∨ (s.size : Int) < i := by omega
      go_enter Try.func5, Try.ntmps5
      go_wp2_with fail
      refine (place_out s i _ h').mono ?_
      rintro e w1 ⟨rfl, rfl⟩
      go_wp2_with fail
      refine (rplace_out s i _ h').mono ?_
      rintro e w2 ⟨rfl, rfl⟩
      go_wp2_with fail
      refine (place_any strQ1 0 _ (by decide) (by decide)).mono ?_
      rintro e w3 ⟨rfl, hb3⟩
      rw [hq.1, hq.2]
      go_wp2_with fail
      go_ret
      exact ⟨rfl, hb3⟩
end Go.Proofs.Ythdcamklbjlanaa
