import Derived.Test.YtnmdihojbfhkfaaDoorMaskAll
import Derived.Test.YtnmdihojbfhkfaaDoorMaskS
/-! the walk of MaskSums -/
namespace Go.Proofs.YtnmdihojbfhkfaaDoor
set_option linter.unusedVariables false
open Go.RowKit

set_option maxHeartbeats 400000 in
theorem maskSums_walk (a b : Int) (w : World) (hTz : Tz w) (a0 : 0 ≤ a) (a1 : a ≤ 18446744073709551615) (b0 : 0 ≤ b) (b1 : b ≤ 18446744073709551615) :
    Calls Tryd.prog 6 #[.int .u64 a, .int .u64 b] w fun e w' => e = .returned (.bool true) ∧ Below w.heap.size w w' := by
  have la := MM.bits_len a
  have lb := MM.bits_len b
  have lo := MM.bits_len (bits .or .u64 a b)
  have lx := MM.bits_len (bits .and .u64 a b)
  have ob := MM.or_bd a b a0 a1 b0 b1
  have ab := MM.and_bd a b a0 a1 b0 b1
  have hS := MM.or_and_sum a b a0 a1 b0 b1
  have hE : (((MM.bitsOf a).length : Int) + ((MM.bitsOf b).length : Int) == ((MM.bitsOf (bits .or .u64 a b)).length : Int) + ((MM.bitsOf (bits .and .u64 a b)).length : Int)) = true := by rw [beq_iff_eq]; omega
  clear hS
  have hX := Lib.hid (MM.xor_not a a0 a1)
  have hN := MM.not_sum a a0 a1
  have hF : (((MM.bitsOf (18446744073709551615 - a)).length : Int) == 64 - ((MM.bitsOf a).length : Int)) = true := by rw [beq_iff_eq]; omega
  have ln := MM.bits_len (18446744073709551615 - a)
  clear hN
  have hM := MM.below_mono ((MM.bitsOf a).length : Int) (by omega)
  go_enter Tryd.func6, Tryd.ntmps6
  go_wp2_with fail
  refine (count_any _ _ a0 a1 (by first | exact hTz | exact hTz.on (by assumption) | exact hTz.on hb1 | exact (hTz.on hB2).on hb3 | exact (hTz.on hB1).on hb2 | exact (hTz.on hB3).on hb4 | exact (hTz.on hb2).on hb3 | exact ((hTz.on hb2).on hb3).on hb4 | exact (hTz.on hb1).on hb2 | exact ((hTz.on hb1).on hb2).on hb3 | exact (((hTz.on hb1).on hb2).on hb3).on hb4 | exact ((((hTz.on hb1).on hb2).on hb3).on hb4).on hb5 | exact (((((hTz.on hb1).on hb2).on hb3).on hb4).on hb5).on hb6 | exact hTz.alloc _ | exact (hTz.on (by assumption)).alloc _ | exact (hTz.alloc _).alloc _)).mono ?_
  rintro e w1 ⟨rfl, hb1⟩
  go_wp2_with fail
  refine (count_any _ _ b0 b1 (by first | exact hTz | exact hTz.on (by assumption) | exact hTz.on hb1 | exact (hTz.on hB2).on hb3 | exact (hTz.on hB1).on hb2 | exact (hTz.on hB3).on hb4 | exact (hTz.on hb2).on hb3 | exact ((hTz.on hb2).on hb3).on hb4 | exact (hTz.on hb1).on hb2 | exact ((hTz.on hb1).on hb2).on hb3 | exact (((hTz.on hb1).on hb2).on hb3).on hb4 | exact ((((hTz.on hb1).on hb2).on hb3).on hb4).on hb5 | exact (((((hTz.on hb1).on hb2).on hb3).on hb4).on hb5).on hb6 | exact hTz.alloc _ | exact (hTz.on (by assumption)).alloc _ | exact (hTz.alloc _).alloc _)).mono ?_
  rintro e w2 ⟨rfl, hb2⟩
  go_wp2_with fail
  refine (count_any _ _ ob.1 ob.2 (by first | exact hTz | exact hTz.on (by assumption) | exact hTz.on hb1 | exact (hTz.on hB2).on hb3 | exact (hTz.on hB1).on hb2 | exact (hTz.on hB3).on hb4 | exact (hTz.on hb2).on hb3 | exact ((hTz.on hb2).on hb3).on hb4 | exact (hTz.on hb1).on hb2 | exact ((hTz.on hb1).on hb2).on hb3 | exact (((hTz.on hb1).on hb2).on hb3).on hb4 | exact ((((hTz.on hb1).on hb2).on hb3).on hb4).on hb5 | exact (((((hTz.on hb1).on hb2).on hb3).on hb4).on hb5).on hb6 | exact hTz.alloc _ | exact (hTz.on (by assumption)).alloc _ | exact (hTz.alloc _).alloc _)).mono ?_
  rintro e w3 ⟨rfl, hb3⟩
  go_wp2_with fail
  refine (count_any _ _ ab.1 ab.2 (by first | exact hTz | exact hTz.on (by assumption) | exact hTz.on hb1 | exact (hTz.on hB2).on hb3 | exact (hTz.on hB1).on hb2 | exact (hTz.on hB3).on hb4 | exact (hTz.on hb2).on hb3 | exact ((hTz.on hb2).on hb3).on hb4 | exact (hTz.on hb1).on hb2 | exact ((hTz.on hb1).on hb2).on hb3 | exact (((hTz.on hb1).on hb2).on hb3).on hb4 | exact ((((hTz.on hb1).on hb2).on hb3).on hb4).on hb5 | exact (((((hTz.on hb1).on hb2).on hb3).on hb4).on hb5).on hb6 | exact hTz.alloc _ | exact (hTz.on (by assumption)).alloc _ | exact (hTz.alloc _).alloc _)).mono ?_
  rintro e w4 ⟨rfl, hb4⟩
  go_wp2_with fail
  rw [hX.out]
  refine (count_any _ _ (by omega) (by omega) (by first | exact hTz | exact hTz.on (by assumption) | exact hTz.on hb1 | exact (hTz.on hB2).on hb3 | exact (hTz.on hB1).on hb2 | exact (hTz.on hB3).on hb4 | exact (hTz.on hb2).on hb3 | exact ((hTz.on hb2).on hb3).on hb4 | exact (hTz.on hb1).on hb2 | exact ((hTz.on hb1).on hb2).on hb3 | exact (((hTz.on hb1).on hb2).on hb3).on hb4 | exact ((((hTz.on hb1).on hb2).on hb3).on hb4).on hb5 | exact (((((hTz.on hb1).on hb2).on hb3).on hb4).on hb5).on hb6 | exact hTz.alloc _ | exact (hTz.on (by assumption)).alloc _ | exact (hTz.alloc _).alloc _)).mono ?_
  rintro e w5 ⟨rfl, hb5⟩
  go_wp2_with fail
  refine (count_any _ _ a0 a1 (by first | exact hTz | exact hTz.on (by assumption) | exact hTz.on hb1 | exact (hTz.on hB2).on hb3 | exact (hTz.on hB1).on hb2 | exact (hTz.on hB3).on hb4 | exact (hTz.on hb2).on hb3 | exact ((hTz.on hb2).on hb3).on hb4 | exact (hTz.on hb1).on hb2 | exact ((hTz.on hb1).on hb2).on hb3 | exact (((hTz.on hb1).on hb2).on hb3).on hb4 | exact ((((hTz.on hb1).on hb2).on hb3).on hb4).on hb5 | exact (((((hTz.on hb1).on hb2).on hb3).on hb4).on hb5).on hb6 | exact hTz.alloc _ | exact (hTz.on (by assumption)).alloc _ | exact (hTz.alloc _).alloc _)).mono ?_
  rintro e w6 ⟨rfl, hb6⟩
  go_wp2_with fail
  refine (count_any _ _ a0 a1 (by first | exact hTz | exact hTz.on (by assumption) | exact hTz.on hb1 | exact (hTz.on hB2).on hb3 | exact (hTz.on hB1).on hb2 | exact (hTz.on hB3).on hb4 | exact (hTz.on hb2).on hb3 | exact ((hTz.on hb2).on hb3).on hb4 | exact (hTz.on hb1).on hb2 | exact ((hTz.on hb1).on hb2).on hb3 | exact (((hTz.on hb1).on hb2).on hb3).on hb4 | exact ((((hTz.on hb1).on hb2).on hb3).on hb4).on hb5 | exact (((((hTz.on hb1).on hb2).on hb3).on hb4).on hb5).on hb6 | exact hTz.alloc _ | exact (hTz.on (by assumption)).alloc _ | exact (hTz.alloc _).alloc _)).mono ?_
  rintro e w7 ⟨rfl, hb7⟩
  go_wp2_with fail
  refine (below_any _ _ (by omega) (by omega)).mono ?_
  rintro e w8 ⟨rfl, rfl⟩
  go_wp2_with fail
  refine (below_any _ _ (by omega) (by omega)).mono ?_
  rintro e w8 ⟨rfl, rfl⟩
  go_wp2_with fail
  go_ret
  exact ⟨rfl, bstep (bstep (bstep (bstep (bstep (bstep hb1 hb2) hb3) hb4) hb5) hb6) hb7⟩
end Go.Proofs.YtnmdihojbfhkfaaDoor
