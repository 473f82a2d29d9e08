import Derived.Test.YthdcamklbjlanabMaskI
import Derived.Test.YthdcamklbjlanabMaskList
import Derived.Test.YthdcamklbjlanabMaskAll
/-! the walk of MaskCounts -/
namespace Go.Proofs.Ythdcamklbjlanab
set_option linter.unusedVariables false
open Go.RowKit

set_option maxHeartbeats 400000 in
theorem maskCounts_walk (m : Int) (w : World) (m0 : 0 ≤ m) (m1 : m ≤ 18446744073709551615) :
    Calls Try.prog 3 #[.int .u64 m] w fun e w' => e = .returned (.bool true) ∧ Below w.heap.size w w' := by
  go_enter Try.func3, Try.ntmps3
  go_wp2_with fail
  refine (list_any _ _ m0 m1).mono ?_
  rintro e w1 ⟨v, rfl, hrow, hb1⟩
  have hI := ints_of_row hrow
  have hlen := MM.bits_len m
  have hl : (MM.bitsI m).length = (MM.bitsOf m).length := MM.toI_len _
  have h5 := bits_five
  rcases hI with ⟨⟨_, _, rfl⟩, h0⟩ | ⟨b, off, cap, rfl, hb, _, hc⟩
  · have hz : MM.bitsOf m = [] := by
      have : (MM.bitsOf m).length = 0 := by rw [← hl, h0]; rfl
      exact List.length_eq_zero_iff.1 this
    have hf := Lib.hid (show MM.firstOf (MM.bitsOf m) = -1 by rw [hz]; rfl)
    have hg := Lib.hid (show MM.lastOf (MM.bitsOf m) = -1 by rw [hz]; rfl)
    clear hrow hlen
    go_wp2_with fail
    refine (count_any _ _ m0 m1).mono ?_
    rintro e w2 ⟨rfl, hb2⟩
    go_wp2_with fail
    refine (first_any _ _ m0 m1).mono ?_
    rintro e w3 ⟨rfl, hb3⟩
    rw [hf.out]
    go_wp2_with fail
    refine (last_any _ _ m0 m1).mono ?_
    rintro e w4 ⟨rfl, hb4⟩
    rw [hg.out]
    go_wp2_with fail
    refine (count_any _ _ (by omega) (by omega)).mono ?_
    rintro e w5 ⟨rfl, hb5⟩
    go_wp2_with fail
    go_ret
    exact ⟨rfl, bstep (bstep (bstep (bstep hb1 hb2) hb3) hb4) hb5⟩
  · by_cases hp : 0 < (MM.bitsOf m).length
    · have hc0 : w1.cell? ⟨b, off, none⟩ = some (.int .i64 (MM.firstOf (MM.bitsOf m))) := by
        have := hc 0 (by omega); rwa [show MM.bitsI m = MM.toI (MM.bitsOf m) from rfl, MM.first_get _ hp] at this
      have hc1 : w1.cell? ⟨b, off + ((MM.bitsOf m).length - 1), none⟩ = some (.int .i64 (MM.lastOf (MM.bitsOf m))) := by
        have := hc ((MM.bitsOf m).length - 1) (by omega); rwa [show MM.bitsI m = MM.toI (MM.bitsOf m) from rfl, MM.last_get _ hp] at this
      have i0 : (0 : Int) < ((MM.bitsOf m).length : Int) := by omega
      have i1 : (0 : Int) ≤ ((MM.bitsOf m).length : Int) - 1 ∧ ((MM.bitsOf m).length : Int) - 1 < ((MM.bitsOf m).length : Int) := by omega
      clear hc hrow
      go_wp2_with fail
      go_quiet (fail)
      go_wp2_with fail
      refine (count_any _ _ m0 m1).mono ?_
      rintro e w2 ⟨rfl, hb2⟩
      go_wp2_with fail
      refine (first_any _ _ m0 m1).mono ?_
      rintro e w3 ⟨rfl, hb3⟩
      go_wp2_with fail
      refine (last_any _ _ m0 m1).mono ?_
      rintro e w4 ⟨rfl, hb4⟩
      go_wp2_with fail
      refine (count_any _ _ (by omega) (by omega)).mono ?_
      rintro e w5 ⟨rfl, hb5⟩
      go_wp2_with fail
      go_ret
      exact ⟨rfl, bstep (bstep (bstep (bstep (below_drewN hb1 _) hb2) hb3) hb4) hb5⟩
    · have hz : MM.bitsOf m = [] := List.length_eq_zero_iff.1 (by omega)
      have hf := Lib.hid (show MM.firstOf (MM.bitsOf m) = -1 by rw [hz]; rfl)
      have hg := Lib.hid (show MM.lastOf (MM.bitsOf m) = -1 by rw [hz]; rfl)
      clear hrow hlen hz hc
      go_wp2_with fail
      refine (count_any _ _ m0 m1).mono ?_
      rintro e w2 ⟨rfl, hb2⟩
      go_wp2_with fail
      refine (first_any _ _ m0 m1).mono ?_
      rintro e w3 ⟨rfl, hb3⟩
      rw [hf.out]
      go_wp2_with fail
      refine (last_any _ _ m0 m1).mono ?_
      rintro e w4 ⟨rfl, hb4⟩
      rw [hg.out]
      go_wp2_with fail
      refine (count_any _ _ (by omega) (by omega)).mono ?_
      rintro e w5 ⟨rfl, hb5⟩
      go_wp2_with fail
      go_ret
      exact ⟨rfl, bstep (bstep (bstep (bstep hb1 hb2) hb3) hb4) hb5⟩
end Go.Proofs.Ythdcamklbjlanab
