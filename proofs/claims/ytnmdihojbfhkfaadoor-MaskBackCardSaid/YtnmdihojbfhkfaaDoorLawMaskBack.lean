import Derived.Test.YtnmdihojbfhkfaaDoorMaskAll
import Derived.Test.YtnmdihojbfhkfaaDoorMaskOf
import Derived.Test.YtnmdihojbfhkfaaDoorMaskS
/-! the walk of MaskBack -/
namespace Go.Proofs.YtnmdihojbfhkfaaDoor
set_option linter.unusedVariables false
open Go.RowKit

set_option maxHeartbeats 400000 in
theorem maskBack_walk (m i : Int) (w : World) (hTz : Tz w) (m0 : 0 ≤ m) (m1 : m ≤ 18446744073709551615) (t0 : 0 ≤ i) (t1 : i ≤ 255) :
    Calls Tryd.prog 5 #[.int .u64 m, .int .u8 i] w fun e w' => e = .returned (.bool true) ∧ Below w.heap.size w w' := by
  have hA := Lib.hid (MM.ofM_bits m m0 m1)
  have hk0 : 0 ≤ i % 64 := by omega
  have hk1 : i % 64 < 64 := by omega
  have hw := MM.withI_bd m (i % 64) m0 m1
  have hwo := MM.withoutI_bd m (i % 64) m0 m1
  have f1 := MM.has_with m (i % 64) m0 m1 ⟨hk0, hk1⟩
  have f2 := MM.has_without m (i % 64) m0 m1 ⟨hk0, hk1⟩
  have f3 := MM.without_with m (i % 64) m0 m1 ⟨hk0, hk1⟩
  go_enter Tryd.func5, Tryd.ntmps5
  go_wp2_with fail
  refine (lall_any _ _ _ m0 m1 (by omega) (by omega) (by first | exact hTz | exact hTz.on (by assumption) | exact hTz.on hb1 | exact (hTz.on hB2).on hb3 | exact (hTz.on hB1).on hb2 | exact (hTz.on hB3).on hb4 | exact (hTz.on hb2).on hb3 | exact ((hTz.on hb2).on hb3).on hb4 | exact (hTz.on hb1).on hb2 | exact ((hTz.on hb1).on hb2).on hb3 | exact (((hTz.on hb1).on hb2).on hb3).on hb4 | exact ((((hTz.on hb1).on hb2).on hb3).on hb4).on hb5 | exact (((((hTz.on hb1).on hb2).on hb3).on hb4).on hb5).on hb6 | exact hTz.alloc _ | exact (hTz.on (by assumption)).alloc _ | exact (hTz.alloc _).alloc _)).mono ?_
  rintro e w1 ⟨v, rfl, hrow, hb1⟩
  have hI := ints_of_row hrow
  clear hrow
  go_wp2_with fail
  refine (of_any _ _ _ _ hI (by have := MM.uptoI_len m 64; rw [List.length_take]; simp; omega)).mono ?_
  rintro e w2 ⟨rfl, rfl⟩
  rw [show ((MM.bitsI m).take (64 : Int).toNat) = MM.bitsI m from List.take_of_length_le (MM.uptoI_len m 64), hA.out.1, hA.out.2]
  go_wp2_with (first | (go_at_call 14; refine (has_any _ _ _ (by omega) (by omega)).mono ?_; rintro e w' ⟨rfl, rfl⟩) | (go_at_call 15; refine (with_any _ _ _ (by omega) (by omega)).mono ?_; rintro e w' ⟨rfl, rfl⟩) | (go_at_call 16; refine (without_any _ _ _ (by omega) (by omega)).mono ?_; rintro e w' ⟨rfl, rfl⟩))
  go_ret
  exact ⟨rfl, hb1⟩
end Go.Proofs.YtnmdihojbfhkfaaDoor
