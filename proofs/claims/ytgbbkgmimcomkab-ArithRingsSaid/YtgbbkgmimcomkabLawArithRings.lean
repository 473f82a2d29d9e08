import Derived.Test.YtgbbkgmimcomkabArithA
/-! ArithRings: the walk -/
namespace Go.Proofs.Ytgbbkgmimcomkab
set_option linter.unusedVariables false
open Go.RowKit
set_option maxRecDepth 100000 in
set_option maxHeartbeats 1600000 in
theorem arithRings_walk (a b c : Int) (w : World) (ha : (Lit.int .i64 a).wf = true) (hb : (Lit.int .i64 b).wf = true) (hc : (Lit.int .i64 c).wf = true) :
    Calls Try.prog 5 #[.int .i64 a, .int .i64 b, .int .i64 c] w fun e w' => e = .returned (.bool true) ∧ Below w.heap.size w w' := by
  have HA := Lib.hid ha
  have HB := Lib.hid hb
  have HC := Lib.hid hc
  have HAd := Lib.hid (ring_add a b)
  have HMu := Lib.hid (ring_mul a b)
  have HSu := Lib.hid (ring_sub a b ha)
  have HDi := Lib.hid (ring_dist a b c)
  have W1 := Lib.hid (dA_wf 2 a b ha)
  have W2 := Lib.hid (dA_wf 1 b c hb)
  have W3 := Lib.hid (dA_wf 3 a b ha)
  have W4 := Lib.hid (dA_wf 3 a c ha)
  clear ha hb hc
  go_enter Try.func5, Try.ntmps5
  go_wp2_with fail
  refine (ldo_any 1 a b (by decide) (by decide) HA.out HB.out _).mono ?_
  rintro e w1 ⟨rfl, hb1⟩
  rw [HAd.out]
  go_wp2_with fail
  refine (ldo_any 1 b a (by decide) (by decide) HB.out HA.out _).mono ?_
  rintro e w2 ⟨rfl, hb2⟩
  have hB2 := bstep hb1 hb2
  clear hb1 hb2
  go_wp2_with fail
  refine (ldo_any 3 a b (by decide) (by decide) HA.out HB.out _).mono ?_
  rintro e w3 ⟨rfl, hb3⟩
  rw [HMu.out]
  have hB3 := bstep hB2 hb3
  clear hB2 hb3
  go_wp2_with fail
  refine (ldo_any 3 b a (by decide) (by decide) HB.out HA.out _).mono ?_
  rintro e w4 ⟨rfl, hb4⟩
  have hB4 := bstep hB3 hb4
  clear hB3 hb4
  go_wp2_with fail
  refine (ldo_any 2 a b (by decide) (by decide) HA.out HB.out _).mono ?_
  rintro e w5 ⟨rfl, hb5⟩
  have hB5 := bstep hB4 hb5
  clear hB4 hb5
  go_wp2_with fail
  refine (ldo_any 1 (dA 2 a b) b (by decide) (by decide) W1.out HB.out _).mono ?_
  rintro e w6 ⟨rfl, hb6⟩
  rw [HSu.out]
  have hB6 := bstep hB5 hb6
  clear hB5 hb6
  go_wp2_with fail
  refine (ldo_any 1 b c (by decide) (by decide) HB.out HC.out _).mono ?_
  rintro e w7 ⟨rfl, hb7⟩
  have hB7 := bstep hB6 hb7
  clear hB6 hb7
  go_wp2_with fail
  refine (ldo_any 3 a (dA 1 b c) (by decide) (by decide) HA.out W2.out _).mono ?_
  rintro e w8 ⟨rfl, hb8⟩
  rw [HDi.out]
  have hB8 := bstep hB7 hb8
  clear hB7 hb8
  go_wp2_with fail
  refine (ldo_any 3 a b (by decide) (by decide) HA.out HB.out _).mono ?_
  rintro e w9 ⟨rfl, hb9⟩
  have hB9 := bstep hB8 hb9
  clear hB8 hb9
  go_wp2_with fail
  refine (ldo_any 3 a c (by decide) (by decide) HA.out HC.out _).mono ?_
  rintro e w10 ⟨rfl, hb10⟩
  have hB10 := bstep hB9 hb10
  clear hB9 hb10
  go_wp2_with fail
  refine (ldo_any 1 (dA 3 a b) (dA 3 a c) (by decide) (by decide) W3.out W4.out _).mono ?_
  rintro e w11 ⟨rfl, hb11⟩
  have hB11 := bstep hB10 hb11
  clear hB10 hb11
  go_wp2_with fail
  refine (awake_any _).mono ?_
  rintro e w12 ⟨rfl, hb12⟩
  go_wp2_with fail
  go_ret
  exact ⟨rfl, bstep hB11 hb12⟩
end Go.Proofs.Ytgbbkgmimcomkab
