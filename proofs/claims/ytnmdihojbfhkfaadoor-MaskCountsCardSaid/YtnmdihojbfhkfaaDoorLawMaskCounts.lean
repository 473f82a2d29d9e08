import Derived.Test.YtnmdihojbfhkfaaDoorMaskI
import Derived.Test.YtnmdihojbfhkfaaDoorMaskList
import Derived.Test.YtnmdihojbfhkfaaDoorMaskAll
/-! the walk of MaskCounts -/
namespace Go.Proofs.YtnmdihojbfhkfaaDoor
set_option linter.unusedVariables false
open Go.RowKit

set_option maxHeartbeats 400000 in
theorem maskCounts_walk (m : Int) (w : World) (hTz : Tz w) (m0 : 0 ≤ m) (m1 : m ≤ 18446744073709551615) :
    Calls Tryd.prog 3 #[.int .u64 m] w fun e w' => e = .returned (.bool true) ∧ Below w.heap.size w w' := by
  go_enter Tryd.func3, Tryd.ntmps3
  go_wp2_with fail
  refine (list_any _ _ m0 m1).mono ?_
  rintro e w1 ⟨v, rfl, hrow, hb1⟩
  have hI := ints_of_row hrow
  have hlen := MM.bits_len m
  have hl : (MM.bitsI m).length = (MM.bitsOf m).length := MM.toI_len _
  have h5 := bits_five
  rcases hI with ⟨⟨_, _, rfl⟩, h0⟩ | ⟨b, off, cap, rfl, hb, _, hc⟩
  · have hz : MM.bitsOf m = [] := by
      have : (MM.bitsOf m).length = 0 := by rw [← hl, h0]; rfl
      exact List.length_eq_zero_iff.1 this
    have hf := Lib.hid (show MM.firstOf (MM.bitsOf m) = -1 by rw [hz]; rfl)
    have hg := Lib.hid (show MM.lastOf (MM.bitsOf m) = -1 by rw [hz]; rfl)
    clear hrow hlen
    go_wp2_with fail
    refine (count_any _ _ m0 m1 (by first | exact hTz | exact hTz.on (by assumption) | exact hTz.on hb1 | exact (hTz.on hb2).on hb3 | exact ((hTz.on hb2).on hb3).on hb4 | exact (hTz.on hb1).on hb2 | exact ((hTz.on hb1).on hb2).on hb3 | exact (((hTz.on hb1).on hb2).on hb3).on hb4 | exact ((((hTz.on hb1).on hb2).on hb3).on hb4).on hb5 | exact (((((hTz.on hb1).on hb2).on hb3).on hb4).on hb5).on hb6 | exact hTz.alloc _ | exact (hTz.on (by assumption)).alloc _ | exact (hTz.alloc _).alloc _)).mono ?_
    rintro e w2 ⟨rfl, hb2⟩
    go_wp2_with fail
    refine (first_any _ _ m0 m1 (by first | exact hTz | exact hTz.on (by assumption) | exact hTz.on hb1 | exact (hTz.on hb2).on hb3 | exact ((hTz.on hb2).on hb3).on hb4 | exact (hTz.on hb1).on hb2 | exact ((hTz.on hb1).on hb2).on hb3 | exact (((hTz.on hb1).on hb2).on hb3).on hb4 | exact ((((hTz.on hb1).on hb2).on hb3).on hb4).on hb5 | exact (((((hTz.on hb1).on hb2).on hb3).on hb4).on hb5).on hb6 | exact hTz.alloc _ | exact (hTz.on (by assumption)).alloc _ | exact (hTz.alloc _).alloc _)).mono ?_
    rintro e w3 ⟨rfl, hb3⟩
    rw [hf.out]
    go_wp2_with fail
    refine (last_any _ _ m0 m1 (by first | exact hTz | exact hTz.on (by assumption) | exact hTz.on hb1 | exact (hTz.on hb2).on hb3 | exact ((hTz.on hb2).on hb3).on hb4 | exact (hTz.on hb1).on hb2 | exact ((hTz.on hb1).on hb2).on hb3 | exact (((hTz.on hb1).on hb2).on hb3).on hb4 | exact ((((hTz.on hb1).on hb2).on hb3).on hb4).on hb5 | exact (((((hTz.on hb1).on hb2).on hb3).on hb4).on hb5).on hb6 | exact hTz.alloc _ | exact (hTz.on (by assumption)).alloc _ | exact (hTz.alloc _).alloc _)).mono ?_
    rintro e w4 ⟨rfl, hb4⟩
    rw [hg.out]
    go_wp2_with fail
    refine (count_any _ _ (by omega) (by omega) (by first | exact hTz | exact hTz.on (by assumption) | exact hTz.on hb1 | exact (hTz.on hb2).on hb3 | exact ((hTz.on hb2).on hb3).on hb4 | exact (hTz.on hb1).on hb2 | exact ((hTz.on hb1).on hb2).on hb3 | exact (((hTz.on hb1).on hb2).on hb3).on hb4 | exact ((((hTz.on hb1).on hb2).on hb3).on hb4).on hb5 | exact (((((hTz.on hb1).on hb2).on hb3).on hb4).on hb5).on hb6 | exact hTz.alloc _ | exact (hTz.on (by assumption)).alloc _ | exact (hTz.alloc _).alloc _)).mono ?_
    rintro e w5 ⟨rfl, hb5⟩
    go_wp2_with fail
    go_ret
    exact ⟨rfl, bstep (bstep (bstep (bstep hb1 hb2) hb3) hb4) hb5⟩
  · by_cases hp : 0 < (MM.bitsOf m).length
    · have hc0 : w1.cell? ⟨b, off, none⟩ = some (.int .i64 (MM.firstOf (MM.bitsOf m))) := by
        have := hc 0 (by omega); rwa [show MM.bitsI m = MM.toI (MM.bitsOf m) from rfl, MM.first_get _ hp] at this
      have hc1 : w1.cell? ⟨b, off + ((MM.bitsOf m).length - 1), none⟩ = some (.int .i64 (MM.lastOf (MM.bitsOf m))) := by
        have := hc ((MM.bitsOf m).length - 1) (by omega); rwa [show MM.bitsI m = MM.toI (MM.bitsOf m) from rfl, MM.last_get _ hp] at this
      have i0 : (0 : Int) < ((MM.bitsOf m).length : Int) := by omega
      have i1 : (0 : Int) ≤ ((MM.bitsOf m).length : Int) - 1 ∧ ((MM.bitsOf m).length : Int) - 1 < ((MM.bitsOf m).length : Int) := by omega
      clear hc hrow
      go_wp2_with fail
      go_quiet (fail)
      have hTz := (hTz.on hb1).drewN nq
      go_wp2_with fail
      refine (count_any _ _ m0 m1 (by first | exact hTz | exact hTz.on (by assumption) | exact hTz.on hb1 | exact (hTz.on hb2).on hb3 | exact ((hTz.on hb2).on hb3).on hb4 | exact (hTz.on hb1).on hb2 | exact ((hTz.on hb1).on hb2).on hb3 | exact (((hTz.on hb1).on hb2).on hb3).on hb4 | exact ((((hTz.on hb1).on hb2).on hb3).on hb4).on hb5 | exact (((((hTz.on hb1).on hb2).on hb3).on hb4).on hb5).on hb6 | exact hTz.alloc _ | exact (hTz.on (by assumption)).alloc _ | exact (hTz.alloc _).alloc _)).mono ?_
      rintro e w2 ⟨rfl, hb2⟩
      go_wp2_with fail
      refine (first_any _ _ m0 m1 (by first | exact hTz | exact hTz.on (by assumption) | exact hTz.on hb1 | exact (hTz.on hb2).on hb3 | exact ((hTz.on hb2).on hb3).on hb4 | exact (hTz.on hb1).on hb2 | exact ((hTz.on hb1).on hb2).on hb3 | exact (((hTz.on hb1).on hb2).on hb3).on hb4 | exact ((((hTz.on hb1).on hb2).on hb3).on hb4).on hb5 | exact (((((hTz.on hb1).on hb2).on hb3).on hb4).on hb5).on hb6 | exact hTz.alloc _ | exact (hTz.on (by assumption)).alloc _ | exact (hTz.alloc _).alloc _)).mono ?_
      rintro e w3 ⟨rfl, hb3⟩
      go_wp2_with fail
      refine (last_any _ _ m0 m1 (by first | exact hTz | exact hTz.on (by assumption) | exact hTz.on hb1 | exact (hTz.on hb2).on hb3 | exact ((hTz.on hb2).on hb3).on hb4 | exact (hTz.on hb1).on hb2 | exact ((hTz.on hb1).on hb2).on hb3 | exact (((hTz.on hb1).on hb2).on hb3).on hb4 | exact ((((hTz.on hb1).on hb2).on hb3).on hb4).on hb5 | exact (((((hTz.on hb1).on hb2).on hb3).on hb4).on hb5).on hb6 | exact hTz.alloc _ | exact (hTz.on (by assumption)).alloc _ | exact (hTz.alloc _).alloc _)).mono ?_
      rintro e w4 ⟨rfl, hb4⟩
      go_wp2_with fail
      refine (count_any _ _ (by omega) (by omega) (by first | exact hTz | exact hTz.on (by assumption) | exact hTz.on hb1 | exact (hTz.on hb2).on hb3 | exact ((hTz.on hb2).on hb3).on hb4 | exact (hTz.on hb1).on hb2 | exact ((hTz.on hb1).on hb2).on hb3 | exact (((hTz.on hb1).on hb2).on hb3).on hb4 | exact ((((hTz.on hb1).on hb2).on hb3).on hb4).on hb5 | exact (((((hTz.on hb1).on hb2).on hb3).on hb4).on hb5).on hb6 | exact hTz.alloc _ | exact (hTz.on (by assumption)).alloc _ | exact (hTz.alloc _).alloc _)).mono ?_
      rintro e w5 ⟨rfl, hb5⟩
      go_wp2_with fail
      go_ret
      exact ⟨rfl, bstep (bstep (bstep (bstep (below_drewN hb1 _) hb2) hb3) hb4) hb5⟩
    · have hz : MM.bitsOf m = [] := List.length_eq_zero_iff.1 (by omega)
      have hf := Lib.hid (show MM.firstOf (MM.bitsOf m) = -1 by rw [hz]; rfl)
      have hg := Lib.hid (show MM.lastOf (MM.bitsOf m) = -1 by rw [hz]; rfl)
      clear hrow hlen hz hc
      go_wp2_with fail
      refine (count_any _ _ m0 m1 (by first | exact hTz | exact hTz.on (by assumption) | exact hTz.on hb1 | exact (hTz.on hb2).on hb3 | exact ((hTz.on hb2).on hb3).on hb4 | exact (hTz.on hb1).on hb2 | exact ((hTz.on hb1).on hb2).on hb3 | exact (((hTz.on hb1).on hb2).on hb3).on hb4 | exact ((((hTz.on hb1).on hb2).on hb3).on hb4).on hb5 | exact (((((hTz.on hb1).on hb2).on hb3).on hb4).on hb5).on hb6 | exact hTz.alloc _ | exact (hTz.on (by assumption)).alloc _ | exact (hTz.alloc _).alloc _)).mono ?_
      rintro e w2 ⟨rfl, hb2⟩
      go_wp2_with fail
      refine (first_any _ _ m0 m1 (by first | exact hTz | exact hTz.on (by assumption) | exact hTz.on hb1 | exact (hTz.on hb2).on hb3 | exact ((hTz.on hb2).on hb3).on hb4 | exact (hTz.on hb1).on hb2 | exact ((hTz.on hb1).on hb2).on hb3 | exact (((hTz.on hb1).on hb2).on hb3).on hb4 | exact ((((hTz.on hb1).on hb2).on hb3).on hb4).on hb5 | exact (((((hTz.on hb1).on hb2).on hb3).on hb4).on hb5).on hb6 | exact hTz.alloc _ | exact (hTz.on (by assumption)).alloc _ | exact (hTz.alloc _).alloc _)).mono ?_
      rintro e w3 ⟨rfl, hb3⟩
      rw [hf.out]
      go_wp2_with fail
      refine (last_any _ _ m0 m1 (by first | exact hTz | exact hTz.on (by assumption) | exact hTz.on hb1 | exact (hTz.on hb2).on hb3 | exact ((hTz.on hb2).on hb3).on hb4 | exact (hTz.on hb1).on hb2 | exact ((hTz.on hb1).on hb2).on hb3 | exact (((hTz.on hb1).on hb2).on hb3).on hb4 | exact ((((hTz.on hb1).on hb2).on hb3).on hb4).on hb5 | exact (((((hTz.on hb1).on hb2).on hb3).on hb4).on hb5).on hb6 | exact hTz.alloc _ | exact (hTz.on (by assumption)).alloc _ | exact (hTz.alloc _).alloc _)).mono ?_
      rintro e w4 ⟨rfl, hb4⟩
      rw [hg.out]
      go_wp2_with fail
      refine (count_any _ _ (by omega) (by omega) (by first | exact hTz | exact hTz.on (by assumption) | exact hTz.on hb1 | exact (hTz.on hb2).on hb3 | exact ((hTz.on hb2).on hb3).on hb4 | exact (hTz.on hb1).on hb2 | exact ((hTz.on hb1).on hb2).on hb3 | exact (((hTz.on hb1).on hb2).on hb3).on hb4 | exact ((((hTz.on hb1).on hb2).on hb3).on hb4).on hb5 | exact (((((hTz.on hb1).on hb2).on hb3).on hb4).on hb5).on hb6 | exact hTz.alloc _ | exact (hTz.on (by assumption)).alloc _ | exact (hTz.alloc _).alloc _)).mono ?_
      rintro e w5 ⟨rfl, hb5⟩
      go_wp2_with fail
      go_ret
      exact ⟨rfl, bstep (bstep (bstep (bstep hb1 hb2) hb3) hb4) hb5⟩
end Go.Proofs.YtnmdihojbfhkfaaDoor
