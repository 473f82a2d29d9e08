import Derived.Test.YtgbbkgmimcomkabArithA
/-! ArithBits: the walk -/
namespace Go.Proofs.Ytgbbkgmimcomkab
set_option linter.unusedVariables false
open Go.RowKit

set_option maxRecDepth 100000 in
set_option maxHeartbeats 1600000 in
theorem arithBits_walk (a b : Int) (w : World) (ha : (Lit.int .i64 a).wf = true) (hb : (Lit.int .i64 b).wf = true) :
    Calls Try.prog 6 #[.int .i64 a, .int .i64 b] w fun e w' => e = .returned (.bool true) ∧ Below w.heap.size w w' := by
  have HA := Lib.hid ha
  have HB := Lib.hid hb
  have HO := Lib.hid (bit_or a b)
  have HN := Lib.hid (bit_and a b)
  have HL := Lib.hid (bit_shl a b)
  have HR := Lib.hid (bit_shr a b)
  have W6 := Lib.hid (dA_wf 6 a b ha)
  have W8 := Lib.hid (dA_wf 8 a b ha)
  have WC := Lib.hid (wf_63 b)
  have W9 := Lib.hid (dA_wf 9 1 (bits .and .i64 b 63) (by decide))
  clear ha hb
  go_enter Try.func6, Try.ntmps6
  go_wp2_with fail
  refine (ldo_any 6 a b (by decide) (by decide) HA.out HB.out _).mono ?_
  rintro e w1 ⟨rfl, hb1⟩
  have hB1 := hb1
  clear hb1
  go_wp2_with fail
  refine (ldo_any 8 a b (by decide) (by decide) HA.out HB.out _).mono ?_
  rintro e w2 ⟨rfl, hb2⟩
  have hB2 := bstep hB1 hb2
  clear hB1 hb2
  go_wp2_with fail
  refine (ldo_any 7 a b (by decide) (by decide) HA.out HB.out _).mono ?_
  rintro e w3 ⟨rfl, hb3⟩
  rw [HO.out]
  have hB3 := bstep hB2 hb3
  clear hB2 hb3
  go_wp2_with fail
  refine (ldo_any 8 (dA 6 a b) (dA 8 a b) (by decide) (by decide) W6.out W8.out _).mono ?_
  rintro e w4 ⟨rfl, hb4⟩
  have hB4 := bstep hB3 hb4
  clear hB3 hb4
  go_wp2_with fail
  refine (ldo_any 6 (dA 6 a b) a (by decide) (by decide) W6.out HA.out _).mono ?_
  rintro e w5 ⟨rfl, hb5⟩
  rw [HN.out]
  have hB5 := bstep hB4 hb5
  clear hB4 hb5
  go_wp2_with fail
  refine (ldo_any 9 a b (by decide) (by decide) HA.out HB.out _).mono ?_
  rintro e w6 ⟨rfl, hb6⟩
  rw [HL.out]
  have hB6 := bstep hB5 hb6
  clear hB5 hb6
  go_wp2_with fail
  refine (ldo_any 9 1 (bits .and .i64 b 63) (by decide) (by decide) (by decide) WC.out _).mono ?_
  rintro e w7 ⟨rfl, hb7⟩
  have hB7 := bstep hB6 hb7
  clear hB6 hb7
  go_wp2_with fail
  refine (ldo_any 3 a (dA 9 1 (bits .and .i64 b 63)) (by decide) (by decide) HA.out W9.out _).mono ?_
  rintro e w8 ⟨rfl, hb8⟩
  have hB8 := bstep hB7 hb8
  clear hB7 hb8
  go_wp2_with fail
  refine (ldo_any 10 a b (by decide) (by decide) HA.out HB.out _).mono ?_
  rintro e w9 ⟨rfl, hb9⟩
  rw [HR.out]
  have hB9 := bstep hB8 hb9
  clear hB8 hb9
  go_wp2_with fail
  refine (ldo_any 10 a (bits .and .i64 b 63) (by decide) (by decide) HA.out WC.out _).mono ?_
  rintro e w10 ⟨rfl, hb10⟩
  have hB10 := bstep hB9 hb10
  clear hB9 hb10
  go_wp2_with fail
  refine (awake_any _).mono ?_
  rintro e w99 ⟨rfl, hb99⟩
  go_wp2_with fail
  go_ret
  exact ⟨rfl, bstep hB10 hb99⟩
end Go.Proofs.Ytgbbkgmimcomkab
