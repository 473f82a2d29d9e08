import Derived.Test.YtgbbkgmimcomkabArithA
/-! ArithParts: the walk -/
namespace Go.Proofs.Ytgbbkgmimcomkab
set_option linter.unusedVariables false
open Go.RowKit
set_option maxRecDepth 100000 in
set_option maxHeartbeats 400000 in
theorem parts_zero (a : Int) (w : World) (ha : (Lit.int .i64 a).wf = true) :
    Calls Try.prog 4 #[.int .i64 a, .int .i64 0] w fun e w' => e = .returned (.bool true) ∧ Below w.heap.size w w' := by
  have HA := Lib.hid ha
  have HV := Lib.hid (show doI 5 a 0 = (0, 20) from by unfold doI; rw [if_neg (by decide), if_pos ⟨by decide, rfl⟩])
  clear ha
  go_enter Try.func4, Try.ntmps4
  go_wp2_with fail
  refine (do_any 5 a 0 (by decide) (by decide) HA.out (by decide) _).mono ?_
  rintro e w1 ⟨rfl, hb1⟩
  rw [HV.out]
  go_wp2_with fail
  refine (awake_any _).mono ?_
  rintro e w99 ⟨rfl, hb99⟩
  go_wp2_with fail
  go_ret
  exact ⟨rfl, bstep hb1 hb99⟩

set_option maxRecDepth 100000 in
set_option maxHeartbeats 400000 in
theorem parts_zl (a b r : Int) (w : World) (ha : (Lit.int .i64 a).wf = true) (hb : (Lit.int .i64 b).wf = true) (hz : b ≠ 0) (hr : dA 5 a b = r) (q1 : (r != 0) = false) (hbl : (b == -9223372036854775808) = true) :
    Calls Try.prog 4 #[.int .i64 a, .int .i64 b] w fun e w' => e = .returned (.bool true) ∧ Below w.heap.size w w' := by
  have HA := Lib.hid ha
  have HB := Lib.hid hb
  have HR := Lib.hid hr
  have HS := Lib.hid (parts_sum a b ha hb hz)
  have W4 := Lib.hid (dA_wf 4 a b ha)
  have W5 := Lib.hid (show (Lit.int .i64 r).wf = true by rw [← hr]; exact dA_wf 5 a b ha)
  have W3 := Lib.hid (dA_wf 3 (dA 4 a b) b (dA_wf 4 a b ha))
  have hbz : (b == 0) = false := by rw [beq_eq_false_iff_ne]; exact hz
  clear ha hb hr hz
  go_enter Try.func4, Try.ntmps4
  go_wp2_with fail
  refine (ldo_any 4 a b (by decide) (by decide) HA.out HB.out _).mono ?_
  rintro e w1 ⟨rfl, hb1⟩
  go_wp2_with fail
  refine (ldo_any 5 a b (by decide) (by decide) HA.out HB.out _).mono ?_
  rintro e w2 ⟨rfl, hb2⟩
  have hB2 := bstep hb1 hb2
  clear hb1 hb2
  rw [HR.out]
  go_wp2_with fail
  refine (ldo_any 3 (dA 4 a b) b (by decide) (by decide) W4.out HB.out _).mono ?_
  rintro e w3 ⟨rfl, hb3⟩
  have hB3 := bstep hB2 hb3
  clear hB2 hb3
  go_wp2_with fail
  refine (ldo_any 1 (dA 3 (dA 4 a b) b) r (by decide) (by decide) W3.out W5.out _).mono ?_
  rintro e w4 ⟨rfl, hb4⟩
  have hB4 := bstep hB3 hb4
  clear hB3 hb4
  rw [show dA 1 (dA 3 (dA 4 a b) b) r = a by have h := HS.out; rw [HR.out] at h; exact h]
  go_wp2_with fail
  refine (awake_any _).mono ?_
  rintro e w99 ⟨rfl, hb99⟩
  go_wp2_with fail
  go_ret
  exact ⟨rfl, bstep hB4 hb99⟩

set_option maxRecDepth 100000 in
set_option maxHeartbeats 400000 in
theorem parts_zn (a b r : Int) (w : World) (ha : (Lit.int .i64 a).wf = true) (hb : (Lit.int .i64 b).wf = true) (hz : b ≠ 0) (hr : dA 5 a b = r) (q1 : (r != 0) = false) (hbl : (b == -9223372036854775808) = false) (q4 : decide (r < b) = false) (q5 : decide (r < wrap64 (-b)) = true) (q6 : decide (b < r) = true) :
    Calls Try.prog 4 #[.int .i64 a, .int .i64 b] w fun e w' => e = .returned (.bool true) ∧ Below w.heap.size w w' := by
  have HA := Lib.hid ha
  have HB := Lib.hid hb
  have HR := Lib.hid hr
  have HS := Lib.hid (parts_sum a b ha hb hz)
  have W4 := Lib.hid (dA_wf 4 a b ha)
  have W5 := Lib.hid (show (Lit.int .i64 r).wf = true by rw [← hr]; exact dA_wf 5 a b ha)
  have W3 := Lib.hid (dA_wf 3 (dA 4 a b) b (dA_wf 4 a b ha))
  have hbz : (b == 0) = false := by rw [beq_eq_false_iff_ne]; exact hz
  clear ha hb hr hz
  go_enter Try.func4, Try.ntmps4
  go_wp2_with fail
  refine (ldo_any 4 a b (by decide) (by decide) HA.out HB.out _).mono ?_
  rintro e w1 ⟨rfl, hb1⟩
  go_wp2_with fail
  refine (ldo_any 5 a b (by decide) (by decide) HA.out HB.out _).mono ?_
  rintro e w2 ⟨rfl, hb2⟩
  have hB2 := bstep hb1 hb2
  clear hb1 hb2
  rw [HR.out]
  go_wp2_with fail
  refine (ldo_any 3 (dA 4 a b) b (by decide) (by decide) W4.out HB.out _).mono ?_
  rintro e w3 ⟨rfl, hb3⟩
  have hB3 := bstep hB2 hb3
  clear hB2 hb3
  go_wp2_with fail
  refine (ldo_any 1 (dA 3 (dA 4 a b) b) r (by decide) (by decide) W3.out W5.out _).mono ?_
  rintro e w4 ⟨rfl, hb4⟩
  have hB4 := bstep hB3 hb4
  clear hB3 hb4
  rw [show dA 1 (dA 3 (dA 4 a b) b) r = a by have h := HS.out; rw [HR.out] at h; exact h]
  go_wp2_with fail
  refine (awake_any _).mono ?_
  rintro e w99 ⟨rfl, hb99⟩
  go_wp2_with fail
  go_ret
  exact ⟨rfl, bstep hB4 hb99⟩

set_option maxRecDepth 100000 in
set_option maxHeartbeats 400000 in
theorem parts_zp (a b r : Int) (w : World) (ha : (Lit.int .i64 a).wf = true) (hb : (Lit.int .i64 b).wf = true) (hz : b ≠ 0) (hr : dA 5 a b = r) (q1 : (r != 0) = false) (hbl : (b == -9223372036854775808) = false) (q4 : decide (r < b) = true) (q6 : decide (b < r) = false) (q7 : decide (wrap64 (-b) < r) = true) :
    Calls Try.prog 4 #[.int .i64 a, .int .i64 b] w fun e w' => e = .returned (.bool true) ∧ Below w.heap.size w w' := by
  have HA := Lib.hid ha
  have HB := Lib.hid hb
  have HR := Lib.hid hr
  have HS := Lib.hid (parts_sum a b ha hb hz)
  have W4 := Lib.hid (dA_wf 4 a b ha)
  have W5 := Lib.hid (show (Lit.int .i64 r).wf = true by rw [← hr]; exact dA_wf 5 a b ha)
  have W3 := Lib.hid (dA_wf 3 (dA 4 a b) b (dA_wf 4 a b ha))
  have hbz : (b == 0) = false := by rw [beq_eq_false_iff_ne]; exact hz
  clear ha hb hr hz
  go_enter Try.func4, Try.ntmps4
  go_wp2_with fail
  refine (ldo_any 4 a b (by decide) (by decide) HA.out HB.out _).mono ?_
  rintro e w1 ⟨rfl, hb1⟩
  go_wp2_with fail
  refine (ldo_any 5 a b (by decide) (by decide) HA.out HB.out _).mono ?_
  rintro e w2 ⟨rfl, hb2⟩
  have hB2 := bstep hb1 hb2
  clear hb1 hb2
  rw [HR.out]
  go_wp2_with fail
  refine (ldo_any 3 (dA 4 a b) b (by decide) (by decide) W4.out HB.out _).mono ?_
  rintro e w3 ⟨rfl, hb3⟩
  have hB3 := bstep hB2 hb3
  clear hB2 hb3
  go_wp2_with fail
  refine (ldo_any 1 (dA 3 (dA 4 a b) b) r (by decide) (by decide) W3.out W5.out _).mono ?_
  rintro e w4 ⟨rfl, hb4⟩
  have hB4 := bstep hB3 hb4
  clear hB3 hb4
  rw [show dA 1 (dA 3 (dA 4 a b) b) r = a by have h := HS.out; rw [HR.out] at h; exact h]
  go_wp2_with fail
  refine (awake_any _).mono ?_
  rintro e w99 ⟨rfl, hb99⟩
  go_wp2_with fail
  go_ret
  exact ⟨rfl, bstep hB4 hb99⟩

set_option maxRecDepth 100000 in
set_option maxHeartbeats 400000 in
theorem parts_ml (a b r : Int) (w : World) (ha : (Lit.int .i64 a).wf = true) (hb : (Lit.int .i64 b).wf = true) (hz : b ≠ 0) (hr : dA 5 a b = r) (q1 : (r != 0) = true) (q2 : decide (r < 0) = true) (q3 : decide (a < 0) = true) (hbl : (b == -9223372036854775808) = true) :
    Calls Try.prog 4 #[.int .i64 a, .int .i64 b] w fun e w' => e = .returned (.bool true) ∧ Below w.heap.size w w' := by
  have HA := Lib.hid ha
  have HB := Lib.hid hb
  have HR := Lib.hid hr
  have HS := Lib.hid (parts_sum a b ha hb hz)
  have W4 := Lib.hid (dA_wf 4 a b ha)
  have W5 := Lib.hid (show (Lit.int .i64 r).wf = true by rw [← hr]; exact dA_wf 5 a b ha)
  have W3 := Lib.hid (dA_wf 3 (dA 4 a b) b (dA_wf 4 a b ha))
  have hbz : (b == 0) = false := by rw [beq_eq_false_iff_ne]; exact hz
  clear ha hb hr hz
  go_enter Try.func4, Try.ntmps4
  go_wp2_with fail
  refine (ldo_any 4 a b (by decide) (by decide) HA.out HB.out _).mono ?_
  rintro e w1 ⟨rfl, hb1⟩
  go_wp2_with fail
  refine (ldo_any 5 a b (by decide) (by decide) HA.out HB.out _).mono ?_
  rintro e w2 ⟨rfl, hb2⟩
  have hB2 := bstep hb1 hb2
  clear hb1 hb2
  rw [HR.out]
  go_wp2_with fail
  refine (ldo_any 3 (dA 4 a b) b (by decide) (by decide) W4.out HB.out _).mono ?_
  rintro e w3 ⟨rfl, hb3⟩
  have hB3 := bstep hB2 hb3
  clear hB2 hb3
  go_wp2_with fail
  refine (ldo_any 1 (dA 3 (dA 4 a b) b) r (by decide) (by decide) W3.out W5.out _).mono ?_
  rintro e w4 ⟨rfl, hb4⟩
  have hB4 := bstep hB3 hb4
  clear hB3 hb4
  rw [show dA 1 (dA 3 (dA 4 a b) b) r = a by have h := HS.out; rw [HR.out] at h; exact h]
  go_wp2_with fail
  refine (awake_any _).mono ?_
  rintro e w99 ⟨rfl, hb99⟩
  go_wp2_with fail
  go_ret
  exact ⟨rfl, bstep hB4 hb99⟩

set_option maxRecDepth 100000 in
set_option maxHeartbeats 400000 in
theorem parts_mn (a b r : Int) (w : World) (ha : (Lit.int .i64 a).wf = true) (hb : (Lit.int .i64 b).wf = true) (hz : b ≠ 0) (hr : dA 5 a b = r) (q1 : (r != 0) = true) (q2 : decide (r < 0) = true) (q3 : decide (a < 0) = true) (hbl : (b == -9223372036854775808) = false) (q4 : decide (r < b) = false) (q5 : decide (r < wrap64 (-b)) = true) (q6 : decide (b < r) = true) :
    Calls Try.prog 4 #[.int .i64 a, .int .i64 b] w fun e w' => e = .returned (.bool true) ∧ Below w.heap.size w w' := by
  have HA := Lib.hid ha
  have HB := Lib.hid hb
  have HR := Lib.hid hr
  have HS := Lib.hid (parts_sum a b ha hb hz)
  have W4 := Lib.hid (dA_wf 4 a b ha)
  have W5 := Lib.hid (show (Lit.int .i64 r).wf = true by rw [← hr]; exact dA_wf 5 a b ha)
  have W3 := Lib.hid (dA_wf 3 (dA 4 a b) b (dA_wf 4 a b ha))
  have hbz : (b == 0) = false := by rw [beq_eq_false_iff_ne]; exact hz
  clear ha hb hr hz
  go_enter Try.func4, Try.ntmps4
  go_wp2_with fail
  refine (ldo_any 4 a b (by decide) (by decide) HA.out HB.out _).mono ?_
  rintro e w1 ⟨rfl, hb1⟩
  go_wp2_with fail
  refine (ldo_any 5 a b (by decide) (by decide) HA.out HB.out _).mono ?_
  rintro e w2 ⟨rfl, hb2⟩
  have hB2 := bstep hb1 hb2
  clear hb1 hb2
  rw [HR.out]
  go_wp2_with fail
  refine (ldo_any 3 (dA 4 a b) b (by decide) (by decide) W4.out HB.out _).mono ?_
  rintro e w3 ⟨rfl, hb3⟩
  have hB3 := bstep hB2 hb3
  clear hB2 hb3
  go_wp2_with fail
  refine (ldo_any 1 (dA 3 (dA 4 a b) b) r (by decide) (by decide) W3.out W5.out _).mono ?_
  rintro e w4 ⟨rfl, hb4⟩
  have hB4 := bstep hB3 hb4
  clear hB3 hb4
  rw [show dA 1 (dA 3 (dA 4 a b) b) r = a by have h := HS.out; rw [HR.out] at h; exact h]
  go_wp2_with fail
  refine (awake_any _).mono ?_
  rintro e w99 ⟨rfl, hb99⟩
  go_wp2_with fail
  go_ret
  exact ⟨rfl, bstep hB4 hb99⟩

set_option maxRecDepth 100000 in
set_option maxHeartbeats 400000 in
theorem parts_mp (a b r : Int) (w : World) (ha : (Lit.int .i64 a).wf = true) (hb : (Lit.int .i64 b).wf = true) (hz : b ≠ 0) (hr : dA 5 a b = r) (q1 : (r != 0) = true) (q2 : decide (r < 0) = true) (q3 : decide (a < 0) = true) (hbl : (b == -9223372036854775808) = false) (q4 : decide (r < b) = true) (q6 : decide (b < r) = false) (q7 : decide (wrap64 (-b) < r) = true) :
    Calls Try.prog 4 #[.int .i64 a, .int .i64 b] w fun e w' => e = .returned (.bool true) ∧ Below w.heap.size w w' := by
  have HA := Lib.hid ha
  have HB := Lib.hid hb
  have HR := Lib.hid hr
  have HS := Lib.hid (parts_sum a b ha hb hz)
  have W4 := Lib.hid (dA_wf 4 a b ha)
  have W5 := Lib.hid (show (Lit.int .i64 r).wf = true by rw [← hr]; exact dA_wf 5 a b ha)
  have W3 := Lib.hid (dA_wf 3 (dA 4 a b) b (dA_wf 4 a b ha))
  have hbz : (b == 0) = false := by rw [beq_eq_false_iff_ne]; exact hz
  clear ha hb hr hz
  go_enter Try.func4, Try.ntmps4
  go_wp2_with fail
  refine (ldo_any 4 a b (by decide) (by decide) HA.out HB.out _).mono ?_
  rintro e w1 ⟨rfl, hb1⟩
  go_wp2_with fail
  refine (ldo_any 5 a b (by decide) (by decide) HA.out HB.out _).mono ?_
  rintro e w2 ⟨rfl, hb2⟩
  have hB2 := bstep hb1 hb2
  clear hb1 hb2
  rw [HR.out]
  go_wp2_with fail
  refine (ldo_any 3 (dA 4 a b) b (by decide) (by decide) W4.out HB.out _).mono ?_
  rintro e w3 ⟨rfl, hb3⟩
  have hB3 := bstep hB2 hb3
  clear hB2 hb3
  go_wp2_with fail
  refine (ldo_any 1 (dA 3 (dA 4 a b) b) r (by decide) (by decide) W3.out W5.out _).mono ?_
  rintro e w4 ⟨rfl, hb4⟩
  have hB4 := bstep hB3 hb4
  clear hB3 hb4
  rw [show dA 1 (dA 3 (dA 4 a b) b) r = a by have h := HS.out; rw [HR.out] at h; exact h]
  go_wp2_with fail
  refine (awake_any _).mono ?_
  rintro e w99 ⟨rfl, hb99⟩
  go_wp2_with fail
  go_ret
  exact ⟨rfl, bstep hB4 hb99⟩

set_option maxRecDepth 100000 in
set_option maxHeartbeats 400000 in
theorem parts_pl (a b r : Int) (w : World) (ha : (Lit.int .i64 a).wf = true) (hb : (Lit.int .i64 b).wf = true) (hz : b ≠ 0) (hr : dA 5 a b = r) (q1 : (r != 0) = true) (q2 : decide (r < 0) = false) (q3 : decide (a < 0) = false) (hbl : (b == -9223372036854775808) = true) :
    Calls Try.prog 4 #[.int .i64 a, .int .i64 b] w fun e w' => e = .returned (.bool true) ∧ Below w.heap.size w w' := by
  have HA := Lib.hid ha
  have HB := Lib.hid hb
  have HR := Lib.hid hr
  have HS := Lib.hid (parts_sum a b ha hb hz)
  have W4 := Lib.hid (dA_wf 4 a b ha)
  have W5 := Lib.hid (show (Lit.int .i64 r).wf = true by rw [← hr]; exact dA_wf 5 a b ha)
  have W3 := Lib.hid (dA_wf 3 (dA 4 a b) b (dA_wf 4 a b ha))
  have hbz : (b == 0) = false := by rw [beq_eq_false_iff_ne]; exact hz
  clear ha hb hr hz
  go_enter Try.func4, Try.ntmps4
  go_wp2_with fail
  refine (ldo_any 4 a b (by decide) (by decide) HA.out HB.out _).mono ?_
  rintro e w1 ⟨rfl, hb1⟩
  go_wp2_with fail
  refine (ldo_any 5 a b (by decide) (by decide) HA.out HB.out _).mono ?_
  rintro e w2 ⟨rfl, hb2⟩
  have hB2 := bstep hb1 hb2
  clear hb1 hb2
  rw [HR.out]
  go_wp2_with fail
  refine (ldo_any 3 (dA 4 a b) b (by decide) (by decide) W4.out HB.out _).mono ?_
  rintro e w3 ⟨rfl, hb3⟩
  have hB3 := bstep hB2 hb3
  clear hB2 hb3
  go_wp2_with fail
  refine (ldo_any 1 (dA 3 (dA 4 a b) b) r (by decide) (by decide) W3.out W5.out _).mono ?_
  rintro e w4 ⟨rfl, hb4⟩
  have hB4 := bstep hB3 hb4
  clear hB3 hb4
  rw [show dA 1 (dA 3 (dA 4 a b) b) r = a by have h := HS.out; rw [HR.out] at h; exact h]
  go_wp2_with fail
  refine (awake_any _).mono ?_
  rintro e w99 ⟨rfl, hb99⟩
  go_wp2_with fail
  go_ret
  exact ⟨rfl, bstep hB4 hb99⟩

set_option maxRecDepth 100000 in
set_option maxHeartbeats 400000 in
theorem parts_pn (a b r : Int) (w : World) (ha : (Lit.int .i64 a).wf = true) (hb : (Lit.int .i64 b).wf = true) (hz : b ≠ 0) (hr : dA 5 a b = r) (q1 : (r != 0) = true) (q2 : decide (r < 0) = false) (q3 : decide (a < 0) = false) (hbl : (b == -9223372036854775808) = false) (q4 : decide (r < b) = false) (q5 : decide (r < wrap64 (-b)) = true) (q6 : decide (b < r) = true) :
    Calls Try.prog 4 #[.int .i64 a, .int .i64 b] w fun e w' => e = .returned (.bool true) ∧ Below w.heap.size w w' := by
  have HA := Lib.hid ha
  have HB := Lib.hid hb
  have HR := Lib.hid hr
  have HS := Lib.hid (parts_sum a b ha hb hz)
  have W4 := Lib.hid (dA_wf 4 a b ha)
  have W5 := Lib.hid (show (Lit.int .i64 r).wf = true by rw [← hr]; exact dA_wf 5 a b ha)
  have W3 := Lib.hid (dA_wf 3 (dA 4 a b) b (dA_wf 4 a b ha))
  have hbz : (b == 0) = false := by rw [beq_eq_false_iff_ne]; exact hz
  clear ha hb hr hz
  go_enter Try.func4, Try.ntmps4
  go_wp2_with fail
  refine (ldo_any 4 a b (by decide) (by decide) HA.out HB.out _).mono ?_
  rintro e w1 ⟨rfl, hb1⟩
  go_wp2_with fail
  refine (ldo_any 5 a b (by decide) (by decide) HA.out HB.out _).mono ?_
  rintro e w2 ⟨rfl, hb2⟩
  have hB2 := bstep hb1 hb2
  clear hb1 hb2
  rw [HR.out]
  go_wp2_with fail
  refine (ldo_any 3 (dA 4 a b) b (by decide) (by decide) W4.out HB.out _).mono ?_
  rintro e w3 ⟨rfl, hb3⟩
  have hB3 := bstep hB2 hb3
  clear hB2 hb3
  go_wp2_with fail
  refine (ldo_any 1 (dA 3 (dA 4 a b) b) r (by decide) (by decide) W3.out W5.out _).mono ?_
  rintro e w4 ⟨rfl, hb4⟩
  have hB4 := bstep hB3 hb4
  clear hB3 hb4
  rw [show dA 1 (dA 3 (dA 4 a b) b) r = a by have h := HS.out; rw [HR.out] at h; exact h]
  go_wp2_with fail
  refine (awake_any _).mono ?_
  rintro e w99 ⟨rfl, hb99⟩
  go_wp2_with fail
  go_ret
  exact ⟨rfl, bstep hB4 hb99⟩

set_option maxRecDepth 100000 in
set_option maxHeartbeats 400000 in
theorem parts_pp (a b r : Int) (w : World) (ha : (Lit.int .i64 a).wf = true) (hb : (Lit.int .i64 b).wf = true) (hz : b ≠ 0) (hr : dA 5 a b = r) (q1 : (r != 0) = true) (q2 : decide (r < 0) = false) (q3 : decide (a < 0) = false) (hbl : (b == -9223372036854775808) = false) (q4 : decide (r < b) = true) (q6 : decide (b < r) = false) (q7 : decide (wrap64 (-b) < r) = true) :
    Calls Try.prog 4 #[.int .i64 a, .int .i64 b] w fun e w' => e = .returned (.bool true) ∧ Below w.heap.size w w' := by
  have HA := Lib.hid ha
  have HB := Lib.hid hb
  have HR := Lib.hid hr
  have HS := Lib.hid (parts_sum a b ha hb hz)
  have W4 := Lib.hid (dA_wf 4 a b ha)
  have W5 := Lib.hid (show (Lit.int .i64 r).wf = true by rw [← hr]; exact dA_wf 5 a b ha)
  have W3 := Lib.hid (dA_wf 3 (dA 4 a b) b (dA_wf 4 a b ha))
  have hbz : (b == 0) = false := by rw [beq_eq_false_iff_ne]; exact hz
  clear ha hb hr hz
  go_enter Try.func4, Try.ntmps4
  go_wp2_with fail
  refine (ldo_any 4 a b (by decide) (by decide) HA.out HB.out _).mono ?_
  rintro e w1 ⟨rfl, hb1⟩
  go_wp2_with fail
  refine (ldo_any 5 a b (by decide) (by decide) HA.out HB.out _).mono ?_
  rintro e w2 ⟨rfl, hb2⟩
  have hB2 := bstep hb1 hb2
  clear hb1 hb2
  rw [HR.out]
  go_wp2_with fail
  refine (ldo_any 3 (dA 4 a b) b (by decide) (by decide) W4.out HB.out _).mono ?_
  rintro e w3 ⟨rfl, hb3⟩
  have hB3 := bstep hB2 hb3
  clear hB2 hb3
  go_wp2_with fail
  refine (ldo_any 1 (dA 3 (dA 4 a b) b) r (by decide) (by decide) W3.out W5.out _).mono ?_
  rintro e w4 ⟨rfl, hb4⟩
  have hB4 := bstep hB3 hb4
  clear hB3 hb4
  rw [show dA 1 (dA 3 (dA 4 a b) b) r = a by have h := HS.out; rw [HR.out] at h; exact h]
  go_wp2_with fail
  refine (awake_any _).mono ?_
  rintro e w99 ⟨rfl, hb99⟩
  go_wp2_with fail
  go_ret
  exact ⟨rfl, bstep hB4 hb99⟩

theorem arithParts_walk (a b : Int) (w : World) (ha : (Lit.int .i64 a).wf = true) (hb : (Lit.int .i64 b).wf = true) :
    Calls Try.prog 4 #[.int .i64 a, .int .i64 b] w fun e w' => e = .returned (.bool true) ∧ Below w.heap.size w w' := by
  by_cases hz : b = 0
  · subst hz
    exact parts_zero a w ha
  have hs := rest_small a b hz
  have hg := rest_sign a b
  have hr := d5 a b ha hb hz
  have hwb := wf_i64_bd hb
  generalize a.tmod b = r at hs hg hr
  have q1 : r ≠ 0 → (r != 0) = true := fun h => by rw [bne_iff_ne]; exact h
  have q1' : r = 0 → (r != 0) = false := fun h => by rw [h]; rfl
  have T : ∀ {x y : Int}, x < y → decide (x < y) = true := fun h => decide_eq_true h
  have N : ∀ {x y : Int}, ¬ x < y → decide (x < y) = false := fun h => decide_eq_false h
  have hl : b ≠ -9223372036854775808 → (b == -9223372036854775808) = false ∧ wrap64 (-b) = -b := fun h => ⟨by rw [beq_eq_false_iff_ne]; exact h, IntWalk.wrap64_in _ (by omega)⟩
  have hl' : b = -9223372036854775808 → (b == -9223372036854775808) = true := fun h => by rw [beq_iff_eq]; exact h
  rcases (show r = 0 ∨ r < 0 ∨ 0 < r by omega) with r0 | r0 | r0
  · rcases (show b = -9223372036854775808 ∨ (b < 0 ∧ b ≠ -9223372036854775808) ∨ (0 < b ∧ b ≠ -9223372036854775808) by omega) with b0 | ⟨b0, b1⟩ | ⟨b0, b1⟩
    · exact parts_zl a b r w ha hb hz hr (q1' r0) (hl' b0)
    · exact parts_zn a b r w ha hb hz hr (q1' r0) (hl b1).1 (N (by omega)) (T (by rw [(hl b1).2]; omega)) (T (by omega))
    · exact parts_zp a b r w ha hb hz hr (q1' r0) (hl b1).1 (T (by omega)) (N (by omega)) (T (by rw [(hl b1).2]; omega))
  · have r1 : a < 0 := by
      have h := hg (by omega)
      rw [bne_eq_false_iff_eq, decide_eq_decide] at h
      omega
    rcases (show b = -9223372036854775808 ∨ (b < 0 ∧ b ≠ -9223372036854775808) ∨ (0 < b ∧ b ≠ -9223372036854775808) by omega) with b0 | ⟨b0, b1⟩ | ⟨b0, b1⟩
    · exact parts_ml a b r w ha hb hz hr (q1 (by omega)) (T r0) (T r1) (hl' b0)
    · exact parts_mn a b r w ha hb hz hr (q1 (by omega)) (T r0) (T r1) (hl b1).1 (N (by omega)) (T (by rw [(hl b1).2]; omega)) (T (by omega))
    · exact parts_mp a b r w ha hb hz hr (q1 (by omega)) (T r0) (T r1) (hl b1).1 (T (by omega)) (N (by omega)) (T (by rw [(hl b1).2]; omega))
  · have r1 : ¬ a < 0 := by
      have h := hg (by omega)
      rw [bne_eq_false_iff_eq, decide_eq_decide] at h
      omega
    rcases (show b = -9223372036854775808 ∨ (b < 0 ∧ b ≠ -9223372036854775808) ∨ (0 < b ∧ b ≠ -9223372036854775808) by omega) with b0 | ⟨b0, b1⟩ | ⟨b0, b1⟩
    · exact parts_pl a b r w ha hb hz hr (q1 (by omega)) (N (by omega)) (N r1) (hl' b0)
    · exact parts_pn a b r w ha hb hz hr (q1 (by omega)) (N (by omega)) (N r1) (hl b1).1 (N (by omega)) (T (by rw [(hl b1).2]; omega)) (T (by omega))
    · exact parts_pp a b r w ha hb hz hr (q1 (by omega)) (N (by omega)) (N r1) (hl b1).1 (T (by omega)) (N (by omega)) (T (by rw [(hl b1).2]; omega))
end Go.Proofs.Ytgbbkgmimcomkab
