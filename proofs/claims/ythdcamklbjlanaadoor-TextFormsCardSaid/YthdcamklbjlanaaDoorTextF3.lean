import Derived.Test.YthdcamklbjlanaaDoorTextW
import Derived.Deep.QuietTactic
import Derived.BigQuiet
/-! the walk of the reference's Form: forms of four bytes -/
namespace Go.Proofs.YthdcamklbjlanaaDoor
set_option linter.unusedVariables false
open Go.RowKit

set_option maxRecDepth 100000 in
set_option maxHeartbeats 1000000 in
theorem form_h (s : ByteArray) (k : Nat) (w : World) (hs : s.size ≤ 140737488351232) (h1 : k < s.size) (c0 : 240 ≤ byteAt s k) (c1 : byteAt s k ≤ 240) (m0 : moreB s ((k : Int) + 1) 144 191 = true) (m1 : moreB s ((k : Int) + 2) 128 191 = true) (m2 : moreB s ((k : Int) + 3) 128 191 = true) :
    Calls Tryd.prog 21 #[.string s, .int .i64 k] w fun e w' => e = .returned (.tuple #[.int .i64 (formI s k).1, .int .i64 (formI s k).2]) ∧ ∃ n, w' = w.drewN n := by
  have b0 := byteAt_bd s k
  have b1 := byteAt_bd s (k + 1)
  have b2 := byteAt_bd s (k + 2)
  have b3 := byteAt_bd s (k + 3)
  have n0 := more_yes s k 1 144 191 m0
  have n1 := more_yes s k 2 128 191 m1
  have n2 := more_yes s k 3 128 191 m2
  have g0 := byteAt_get s k h1
  have l1 : k + 1 < s.size := by omega
  have g1 := byteAt_get s (k + 1) l1
  have x1 := and63 (byteAt s (k + 1)) b1.1 b1.2
  have l2 : k + 2 < s.size := by omega
  have g2 := byteAt_get s (k + 2) l2
  have x2 := and63 (byteAt s (k + 2)) b2.1 b2.2
  have l3 : k + 3 < s.size := by omega
  have g3 := byteAt_get s (k + 3) l3
  have x3 := and63 (byteAt s (k + 3)) b3.1 b3.2
  have x0 := and7 (byteAt s k) b0.1 b0.2
  have hv : Hid (formI s k = (byteAt s k % 8 * 262144 + byteAt s (k + 1) % 64 * 4096 + byteAt s (k + 2) % 64 * 64 + byteAt s (k + 3) % 64, 4)) := by
    unfold byteAt at b0 b1 b2 b3 c0 c1 n0 n1 n2
    rw [formI_in s k h1 _ _ (TM.fN_4 _ _ _ _ _ (by omega) (by omega) (by omega) (by omega) (by omega) (by omega))]
    exact Lib.hid (by first | rfl | (unfold byteAt; first | rfl | (apply Prod.ext <;> simp)))
  have q0 : (byteAt s k == 240) = true := by rw [beq_iff_eq]; omega
  have q1 : (byteAt s k == 244) = false := by rw [beq_eq_false_iff_ne]; omega
  clear n0 n1 n2
  go_enter Tryd.func21, Tryd.ntmps21
  go_wp2_with (go_at_call 28; refine (more_any _ _ _ _ _ (by omega)).mono ?_; rintro e w' ⟨rfl, rfl⟩)
  have y1 : IntKind.i64.wrap ((k : Int) + 1) = (k : Int) + 1 := IntWalk.i64_in _ (by omega)
  have y2 : IntKind.i64.wrap ((k : Int) + 2) = (k : Int) + 2 := IntWalk.i64_in _ (by omega)
  have y3 : IntKind.i64.wrap ((k : Int) + 3) = (k : Int) + 3 := IntWalk.i64_in _ (by omega)
  have z1 : (0 : Int) ≤ (k : Int) + 1 ∧ (k : Int) + 1 < s.size := by omega
  have z2 : (0 : Int) ≤ (k : Int) + 2 ∧ (k : Int) + 2 < s.size := by omega
  have z3 : (0 : Int) ≤ (k : Int) + 3 ∧ (k : Int) + 3 < s.size := by omega
  have t1 : ((k : Int) + 1).toNat = k + 1 := by omega
  have t2 : ((k : Int) + 2).toNat = k + 2 := by omega
  have t3 : ((k : Int) + 3).toNat = k + 3 := by omega
  go_quiet (fail)
  clear y1 z1 t1 y2 z2 t2 y3 z3 t3
  go_wp2
  go_ret2
  exact ⟨ret_form hv.out, _, rfl⟩

set_option maxRecDepth 100000 in
set_option maxHeartbeats 1000000 in
theorem form_hn1 (s : ByteArray) (k : Nat) (w : World) (hs : s.size ≤ 140737488351232) (h1 : k < s.size) (c0 : 240 ≤ byteAt s k) (c1 : byteAt s k ≤ 240) (m0 : moreB s ((k : Int) + 1) 144 191 = false) :
    Calls Tryd.prog 21 #[.string s, .int .i64 k] w fun e w' => e = .returned (.tuple #[.int .i64 (formI s k).1, .int .i64 (formI s k).2]) ∧ ∃ n, w' = w.drewN n := by
  have b0 := byteAt_bd s k
  have b1 := byteAt_bd s (k + 1)
  have b2 := byteAt_bd s (k + 2)
  have b3 := byteAt_bd s (k + 3)
  have n0 := more_no s k 1 144 191 m0
  have g0 := byteAt_get s k h1
  have hv : Hid (formI s k = (0, 0)) := by
    unfold byteAt at b0 b1 b2 b3 c0 c1 n0
    rw [formI_in s k h1 _ _ (TM.fN_4n _ _ _ _ _ (by omega) (by omega) (by omega) (by omega) (by omega))]
    exact Lib.hid (by first | rfl | (unfold byteAt; first | rfl | (apply Prod.ext <;> simp)))
  have q0 : (byteAt s k == 240) = true := by rw [beq_iff_eq]; omega
  have q1 : (byteAt s k == 244) = false := by rw [beq_eq_false_iff_ne]; omega
  clear n0
  go_enter Tryd.func21, Tryd.ntmps21
  go_wp2_with (go_at_call 28; refine (more_any _ _ _ _ _ (by omega)).mono ?_; rintro e w' ⟨rfl, rfl⟩)
  go_ret2
  exact ⟨ret_form hv.out, 0, rfl⟩

set_option maxRecDepth 100000 in
set_option maxHeartbeats 1000000 in
theorem form_hn2 (s : ByteArray) (k : Nat) (w : World) (hs : s.size ≤ 140737488351232) (h1 : k < s.size) (c0 : 240 ≤ byteAt s k) (c1 : byteAt s k ≤ 240) (m0 : moreB s ((k : Int) + 1) 144 191 = true) (m1 : moreB s ((k : Int) + 2) 128 191 = false) :
    Calls Tryd.prog 21 #[.string s, .int .i64 k] w fun e w' => e = .returned (.tuple #[.int .i64 (formI s k).1, .int .i64 (formI s k).2]) ∧ ∃ n, w' = w.drewN n := by
  have b0 := byteAt_bd s k
  have b1 := byteAt_bd s (k + 1)
  have b2 := byteAt_bd s (k + 2)
  have b3 := byteAt_bd s (k + 3)
  have n0 := more_yes s k 1 144 191 m0
  have n1 := more_no s k 2 128 191 m1
  have g0 := byteAt_get s k h1
  have hv : Hid (formI s k = (0, 0)) := by
    unfold byteAt at b0 b1 b2 b3 c0 c1 n0 n1
    rw [formI_in s k h1 _ _ (TM.fN_4n _ _ _ _ _ (by omega) (by omega) (by omega) (by omega) (by omega))]
    exact Lib.hid (by first | rfl | (unfold byteAt; first | rfl | (apply Prod.ext <;> simp)))
  have q0 : (byteAt s k == 240) = true := by rw [beq_iff_eq]; omega
  have q1 : (byteAt s k == 244) = false := by rw [beq_eq_false_iff_ne]; omega
  clear n0 n1
  go_enter Tryd.func21, Tryd.ntmps21
  go_wp2_with (go_at_call 28; refine (more_any _ _ _ _ _ (by omega)).mono ?_; rintro e w' ⟨rfl, rfl⟩)
  go_ret2
  exact ⟨ret_form hv.out, 0, rfl⟩

set_option maxRecDepth 100000 in
set_option maxHeartbeats 1000000 in
theorem form_hn3 (s : ByteArray) (k : Nat) (w : World) (hs : s.size ≤ 140737488351232) (h1 : k < s.size) (c0 : 240 ≤ byteAt s k) (c1 : byteAt s k ≤ 240) (m0 : moreB s ((k : Int) + 1) 144 191 = true) (m1 : moreB s ((k : Int) + 2) 128 191 = true) (m2 : moreB s ((k : Int) + 3) 128 191 = false) :
    Calls Tryd.prog 21 #[.string s, .int .i64 k] w fun e w' => e = .returned (.tuple #[.int .i64 (formI s k).1, .int .i64 (formI s k).2]) ∧ ∃ n, w' = w.drewN n := by
  have b0 := byteAt_bd s k
  have b1 := byteAt_bd s (k + 1)
  have b2 := byteAt_bd s (k + 2)
  have b3 := byteAt_bd s (k + 3)
  have n0 := more_yes s k 1 144 191 m0
  have n1 := more_yes s k 2 128 191 m1
  have n2 := more_no s k 3 128 191 m2
  have g0 := byteAt_get s k h1
  have hv : Hid (formI s k = (0, 0)) := by
    unfold byteAt at b0 b1 b2 b3 c0 c1 n0 n1 n2
    rw [formI_in s k h1 _ _ (TM.fN_4n _ _ _ _ _ (by omega) (by omega) (by omega) (by omega) (by omega))]
    exact Lib.hid (by first | rfl | (unfold byteAt; first | rfl | (apply Prod.ext <;> simp)))
  have q0 : (byteAt s k == 240) = true := by rw [beq_iff_eq]; omega
  have q1 : (byteAt s k == 244) = false := by rw [beq_eq_false_iff_ne]; omega
  clear n0 n1 n2
  go_enter Tryd.func21, Tryd.ntmps21
  go_wp2_with (go_at_call 28; refine (more_any _ _ _ _ _ (by omega)).mono ?_; rintro e w' ⟨rfl, rfl⟩)
  go_ret2
  exact ⟨ret_form hv.out, 0, rfl⟩

set_option maxRecDepth 100000 in
set_option maxHeartbeats 1000000 in
theorem form_i (s : ByteArray) (k : Nat) (w : World) (hs : s.size ≤ 140737488351232) (h1 : k < s.size) (c0 : 241 ≤ byteAt s k) (c1 : byteAt s k ≤ 243) (m0 : moreB s ((k : Int) + 1) 128 191 = true) (m1 : moreB s ((k : Int) + 2) 128 191 = true) (m2 : moreB s ((k : Int) + 3) 128 191 = true) :
    Calls Tryd.prog 21 #[.string s, .int .i64 k] w fun e w' => e = .returned (.tuple #[.int .i64 (formI s k).1, .int .i64 (formI s k).2]) ∧ ∃ n, w' = w.drewN n := by
  have b0 := byteAt_bd s k
  have b1 := byteAt_bd s (k + 1)
  have b2 := byteAt_bd s (k + 2)
  have b3 := byteAt_bd s (k + 3)
  have n0 := more_yes s k 1 128 191 m0
  have n1 := more_yes s k 2 128 191 m1
  have n2 := more_yes s k 3 128 191 m2
  have g0 := byteAt_get s k h1
  have l1 : k + 1 < s.size := by omega
  have g1 := byteAt_get s (k + 1) l1
  have x1 := and63 (byteAt s (k + 1)) b1.1 b1.2
  have l2 : k + 2 < s.size := by omega
  have g2 := byteAt_get s (k + 2) l2
  have x2 := and63 (byteAt s (k + 2)) b2.1 b2.2
  have l3 : k + 3 < s.size := by omega
  have g3 := byteAt_get s (k + 3) l3
  have x3 := and63 (byteAt s (k + 3)) b3.1 b3.2
  have x0 := and7 (byteAt s k) b0.1 b0.2
  have hv : Hid (formI s k = (byteAt s k % 8 * 262144 + byteAt s (k + 1) % 64 * 4096 + byteAt s (k + 2) % 64 * 64 + byteAt s (k + 3) % 64, 4)) := by
    unfold byteAt at b0 b1 b2 b3 c0 c1 n0 n1 n2
    rw [formI_in s k h1 _ _ (TM.fN_4 _ _ _ _ _ (by omega) (by omega) (by omega) (by omega) (by omega) (by omega))]
    exact Lib.hid (by first | rfl | (unfold byteAt; first | rfl | (apply Prod.ext <;> simp)))
  have q0 : (byteAt s k == 240) = false := by rw [beq_eq_false_iff_ne]; omega
  have q1 : (byteAt s k == 244) = false := by rw [beq_eq_false_iff_ne]; omega
  clear n0 n1 n2
  go_enter Tryd.func21, Tryd.ntmps21
  go_wp2_with (go_at_call 28; refine (more_any _ _ _ _ _ (by omega)).mono ?_; rintro e w' ⟨rfl, rfl⟩)
  have y1 : IntKind.i64.wrap ((k : Int) + 1) = (k : Int) + 1 := IntWalk.i64_in _ (by omega)
  have y2 : IntKind.i64.wrap ((k : Int) + 2) = (k : Int) + 2 := IntWalk.i64_in _ (by omega)
  have y3 : IntKind.i64.wrap ((k : Int) + 3) = (k : Int) + 3 := IntWalk.i64_in _ (by omega)
  have z1 : (0 : Int) ≤ (k : Int) + 1 ∧ (k : Int) + 1 < s.size := by omega
  have z2 : (0 : Int) ≤ (k : Int) + 2 ∧ (k : Int) + 2 < s.size := by omega
  have z3 : (0 : Int) ≤ (k : Int) + 3 ∧ (k : Int) + 3 < s.size := by omega
  have t1 : ((k : Int) + 1).toNat = k + 1 := by omega
  have t2 : ((k : Int) + 2).toNat = k + 2 := by omega
  have t3 : ((k : Int) + 3).toNat = k + 3 := by omega
  go_quiet (fail)
  clear y1 z1 t1 y2 z2 t2 y3 z3 t3
  go_wp2
  go_ret2
  exact ⟨ret_form hv.out, _, rfl⟩

set_option maxRecDepth 100000 in
set_option maxHeartbeats 1000000 in
theorem form_in1 (s : ByteArray) (k : Nat) (w : World) (hs : s.size ≤ 140737488351232) (h1 : k < s.size) (c0 : 241 ≤ byteAt s k) (c1 : byteAt s k ≤ 243) (m0 : moreB s ((k : Int) + 1) 128 191 = false) :
    Calls Tryd.prog 21 #[.string s, .int .i64 k] w fun e w' => e = .returned (.tuple #[.int .i64 (formI s k).1, .int .i64 (formI s k).2]) ∧ ∃ n, w' = w.drewN n := by
  have b0 := byteAt_bd s k
  have b1 := byteAt_bd s (k + 1)
  have b2 := byteAt_bd s (k + 2)
  have b3 := byteAt_bd s (k + 3)
  have n0 := more_no s k 1 128 191 m0
  have g0 := byteAt_get s k h1
  have hv : Hid (formI s k = (0, 0)) := by
    unfold byteAt at b0 b1 b2 b3 c0 c1 n0
    rw [formI_in s k h1 _ _ (TM.fN_4n _ _ _ _ _ (by omega) (by omega) (by omega) (by omega) (by omega))]
    exact Lib.hid (by first | rfl | (unfold byteAt; first | rfl | (apply Prod.ext <;> simp)))
  have q0 : (byteAt s k == 240) = false := by rw [beq_eq_false_iff_ne]; omega
  have q1 : (byteAt s k == 244) = false := by rw [beq_eq_false_iff_ne]; omega
  clear n0
  go_enter Tryd.func21, Tryd.ntmps21
  go_wp2_with (go_at_call 28; refine (more_any _ _ _ _ _ (by omega)).mono ?_; rintro e w' ⟨rfl, rfl⟩)
  go_ret2
  exact ⟨ret_form hv.out, 0, rfl⟩

set_option maxRecDepth 100000 in
set_option maxHeartbeats 1000000 in
theorem form_in2 (s : ByteArray) (k : Nat) (w : World) (hs : s.size ≤ 140737488351232) (h1 : k < s.size) (c0 : 241 ≤ byteAt s k) (c1 : byteAt s k ≤ 243) (m0 : moreB s ((k : Int) + 1) 128 191 = true) (m1 : moreB s ((k : Int) + 2) 128 191 = false) :
    Calls Tryd.prog 21 #[.string s, .int .i64 k] w fun e w' => e = .returned (.tuple #[.int .i64 (formI s k).1, .int .i64 (formI s k).2]) ∧ ∃ n, w' = w.drewN n := by
  have b0 := byteAt_bd s k
  have b1 := byteAt_bd s (k + 1)
  have b2 := byteAt_bd s (k + 2)
  have b3 := byteAt_bd s (k + 3)
  have n0 := more_yes s k 1 128 191 m0
  have n1 := more_no s k 2 128 191 m1
  have g0 := byteAt_get s k h1
  have hv : Hid (formI s k = (0, 0)) := by
    unfold byteAt at b0 b1 b2 b3 c0 c1 n0 n1
    rw [formI_in s k h1 _ _ (TM.fN_4n _ _ _ _ _ (by omega) (by omega) (by omega) (by omega) (by omega))]
    exact Lib.hid (by first | rfl | (unfold byteAt; first | rfl | (apply Prod.ext <;> simp)))
  have q0 : (byteAt s k == 240) = false := by rw [beq_eq_false_iff_ne]; omega
  have q1 : (byteAt s k == 244) = false := by rw [beq_eq_false_iff_ne]; omega
  clear n0 n1
  go_enter Tryd.func21, Tryd.ntmps21
  go_wp2_with (go_at_call 28; refine (more_any _ _ _ _ _ (by omega)).mono ?_; rintro e w' ⟨rfl, rfl⟩)
  go_ret2
  exact ⟨ret_form hv.out, 0, rfl⟩

set_option maxRecDepth 100000 in
set_option maxHeartbeats 1000000 in
theorem form_in3 (s : ByteArray) (k : Nat) (w : World) (hs : s.size ≤ 140737488351232) (h1 : k < s.size) (c0 : 241 ≤ byteAt s k) (c1 : byteAt s k ≤ 243) (m0 : moreB s ((k : Int) + 1) 128 191 = true) (m1 : moreB s ((k : Int) + 2) 128 191 = true) (m2 : moreB s ((k : Int) + 3) 128 191 = false) :
    Calls Tryd.prog 21 #[.string s, .int .i64 k] w fun e w' => e = .returned (.tuple #[.int .i64 (formI s k).1, .int .i64 (formI s k).2]) ∧ ∃ n, w' = w.drewN n := by
  have b0 := byteAt_bd s k
  have b1 := byteAt_bd s (k + 1)
  have b2 := byteAt_bd s (k + 2)
  have b3 := byteAt_bd s (k + 3)
  have n0 := more_yes s k 1 128 191 m0
  have n1 := more_yes s k 2 128 191 m1
  have n2 := more_no s k 3 128 191 m2
  have g0 := byteAt_get s k h1
  have hv : Hid (formI s k = (0, 0)) := by
    unfold byteAt at b0 b1 b2 b3 c0 c1 n0 n1 n2
    rw [formI_in s k h1 _ _ (TM.fN_4n _ _ _ _ _ (by omega) (by omega) (by omega) (by omega) (by omega))]
    exact Lib.hid (by first | rfl | (unfold byteAt; first | rfl | (apply Prod.ext <;> simp)))
  have q0 : (byteAt s k == 240) = false := by rw [beq_eq_false_iff_ne]; omega
  have q1 : (byteAt s k == 244) = false := by rw [beq_eq_false_iff_ne]; omega
  clear n0 n1 n2
  go_enter Tryd.func21, Tryd.ntmps21
  go_wp2_with (go_at_call 28; refine (more_any _ _ _ _ _ (by omega)).mono ?_; rintro e w' ⟨rfl, rfl⟩)
  go_ret2
  exact ⟨ret_form hv.out, 0, rfl⟩

set_option maxRecDepth 100000 in
set_option maxHeartbeats 1000000 in
theorem form_j (s : ByteArray) (k : Nat) (w : World) (hs : s.size ≤ 140737488351232) (h1 : k < s.size) (c0 : 244 ≤ byteAt s k) (c1 : byteAt s k ≤ 244) (m0 : moreB s ((k : Int) + 1) 128 143 = true) (m1 : moreB s ((k : Int) + 2) 128 191 = true) (m2 : moreB s ((k : Int) + 3) 128 191 = true) :
    Calls Tryd.prog 21 #[.string s, .int .i64 k] w fun e w' => e = .returned (.tuple #[.int .i64 (formI s k).1, .int .i64 (formI s k).2]) ∧ ∃ n, w' = w.drewN n := by
  have b0 := byteAt_bd s k
  have b1 := byteAt_bd s (k + 1)
  have b2 := byteAt_bd s (k + 2)
  have b3 := byteAt_bd s (k + 3)
  have n0 := more_yes s k 1 128 143 m0
  have n1 := more_yes s k 2 128 191 m1
  have n2 := more_yes s k 3 128 191 m2
  have g0 := byteAt_get s k h1
  have l1 : k + 1 < s.size := by omega
  have g1 := byteAt_get s (k + 1) l1
  have x1 := and63 (byteAt s (k + 1)) b1.1 b1.2
  have l2 : k + 2 < s.size := by omega
  have g2 := byteAt_get s (k + 2) l2
  have x2 := and63 (byteAt s (k + 2)) b2.1 b2.2
  have l3 : k + 3 < s.size := by omega
  have g3 := byteAt_get s (k + 3) l3
  have x3 := and63 (byteAt s (k + 3)) b3.1 b3.2
  have x0 := and7 (byteAt s k) b0.1 b0.2
  have hv : Hid (formI s k = (byteAt s k % 8 * 262144 + byteAt s (k + 1) % 64 * 4096 + byteAt s (k + 2) % 64 * 64 + byteAt s (k + 3) % 64, 4)) := by
    unfold byteAt at b0 b1 b2 b3 c0 c1 n0 n1 n2
    rw [formI_in s k h1 _ _ (TM.fN_4 _ _ _ _ _ (by omega) (by omega) (by omega) (by omega) (by omega) (by omega))]
    exact Lib.hid (by first | rfl | (unfold byteAt; first | rfl | (apply Prod.ext <;> simp)))
  have q0 : (byteAt s k == 240) = false := by rw [beq_eq_false_iff_ne]; omega
  have q1 : (byteAt s k == 244) = true := by rw [beq_iff_eq]; omega
  clear n0 n1 n2
  go_enter Tryd.func21, Tryd.ntmps21
  go_wp2_with (go_at_call 28; refine (more_any _ _ _ _ _ (by omega)).mono ?_; rintro e w' ⟨rfl, rfl⟩)
  have y1 : IntKind.i64.wrap ((k : Int) + 1) = (k : Int) + 1 := IntWalk.i64_in _ (by omega)
  have y2 : IntKind.i64.wrap ((k : Int) + 2) = (k : Int) + 2 := IntWalk.i64_in _ (by omega)
  have y3 : IntKind.i64.wrap ((k : Int) + 3) = (k : Int) + 3 := IntWalk.i64_in _ (by omega)
  have z1 : (0 : Int) ≤ (k : Int) + 1 ∧ (k : Int) + 1 < s.size := by omega
  have z2 : (0 : Int) ≤ (k : Int) + 2 ∧ (k : Int) + 2 < s.size := by omega
  have z3 : (0 : Int) ≤ (k : Int) + 3 ∧ (k : Int) + 3 < s.size := by omega
  have t1 : ((k : Int) + 1).toNat = k + 1 := by omega
  have t2 : ((k : Int) + 2).toNat = k + 2 := by omega
  have t3 : ((k : Int) + 3).toNat = k + 3 := by omega
  go_quiet (fail)
  clear y1 z1 t1 y2 z2 t2 y3 z3 t3
  go_wp2
  go_ret2
  exact ⟨ret_form hv.out, _, rfl⟩

set_option maxRecDepth 100000 in
set_option maxHeartbeats 1000000 in
theorem form_jn1 (s : ByteArray) (k : Nat) (w : World) (hs : s.size ≤ 140737488351232) (h1 : k < s.size) (c0 : 244 ≤ byteAt s k) (c1 : byteAt s k ≤ 244) (m0 : moreB s ((k : Int) + 1) 128 143 = false) :
    Calls Tryd.prog 21 #[.string s, .int .i64 k] w fun e w' => e = .returned (.tuple #[.int .i64 (formI s k).1, .int .i64 (formI s k).2]) ∧ ∃ n, w' = w.drewN n := by
  have b0 := byteAt_bd s k
  have b1 := byteAt_bd s (k + 1)
  have b2 := byteAt_bd s (k + 2)
  have b3 := byteAt_bd s (k + 3)
  have n0 := more_no s k 1 128 143 m0
  have g0 := byteAt_get s k h1
  have hv : Hid (formI s k = (0, 0)) := by
    unfold byteAt at b0 b1 b2 b3 c0 c1 n0
    rw [formI_in s k h1 _ _ (TM.fN_4n _ _ _ _ _ (by omega) (by omega) (by omega) (by omega) (by omega))]
    exact Lib.hid (by first | rfl | (unfold byteAt; first | rfl | (apply Prod.ext <;> simp)))
  have q0 : (byteAt s k == 240) = false := by rw [beq_eq_false_iff_ne]; omega
  have q1 : (byteAt s k == 244) = true := by rw [beq_iff_eq]; omega
  clear n0
  go_enter Tryd.func21, Tryd.ntmps21
  go_wp2_with (go_at_call 28; refine (more_any _ _ _ _ _ (by omega)).mono ?_; rintro e w' ⟨rfl, rfl⟩)
  go_ret2
  exact ⟨ret_form hv.out, 0, rfl⟩

set_option maxRecDepth 100000 in
set_option maxHeartbeats 1000000 in
theorem form_jn2 (s : ByteArray) (k : Nat) (w : World) (hs : s.size ≤ 140737488351232) (h1 : k < s.size) (c0 : 244 ≤ byteAt s k) (c1 : byteAt s k ≤ 244) (m0 : moreB s ((k : Int) + 1) 128 143 = true) (m1 : moreB s ((k : Int) + 2) 128 191 = false) :
    Calls Tryd.prog 21 #[.string s, .int .i64 k] w fun e w' => e = .returned (.tuple #[.int .i64 (formI s k).1, .int .i64 (formI s k).2]) ∧ ∃ n, w' = w.drewN n := by
  have b0 := byteAt_bd s k
  have b1 := byteAt_bd s (k + 1)
  have b2 := byteAt_bd s (k + 2)
  have b3 := byteAt_bd s (k + 3)
  have n0 := more_yes s k 1 128 143 m0
  have n1 := more_no s k 2 128 191 m1
  have g0 := byteAt_get s k h1
  have hv : Hid (formI s k = (0, 0)) := by
    unfold byteAt at b0 b1 b2 b3 c0 c1 n0 n1
    rw [formI_in s k h1 _ _ (TM.fN_4n _ _ _ _ _ (by omega) (by omega) (by omega) (by omega) (by omega))]
    exact Lib.hid (by first | rfl | (unfold byteAt; first | rfl | (apply Prod.ext <;> simp)))
  have q0 : (byteAt s k == 240) = false := by rw [beq_eq_false_iff_ne]; omega
  have q1 : (byteAt s k == 244) = true := by rw [beq_iff_eq]; omega
  clear n0 n1
  go_enter Tryd.func21, Tryd.ntmps21
  go_wp2_with (go_at_call 28; refine (more_any _ _ _ _ _ (by omega)).mono ?_; rintro e w' ⟨rfl, rfl⟩)
  go_ret2
  exact ⟨ret_form hv.out, 0, rfl⟩

set_option maxRecDepth 100000 in
set_option maxHeartbeats 1000000 in
theorem form_jn3 (s : ByteArray) (k : Nat) (w : World) (hs : s.size ≤ 140737488351232) (h1 : k < s.size) (c0 : 244 ≤ byteAt s k) (c1 : byteAt s k ≤ 244) (m0 : moreB s ((k : Int) + 1) 128 143 = true) (m1 : moreB s ((k : Int) + 2) 128 191 = true) (m2 : moreB s ((k : Int) + 3) 128 191 = false) :
    Calls Tryd.prog 21 #[.string s, .int .i64 k] w fun e w' => e = .returned (.tuple #[.int .i64 (formI s k).1, .int .i64 (formI s k).2]) ∧ ∃ n, w' = w.drewN n := by
  have b0 := byteAt_bd s k
  have b1 := byteAt_bd s (k + 1)
  have b2 := byteAt_bd s (k + 2)
  have b3 := byteAt_bd s (k + 3)
  have n0 := more_yes s k 1 128 143 m0
  have n1 := more_yes s k 2 128 191 m1
  have n2 := more_no s k 3 128 191 m2
  have g0 := byteAt_get s k h1
  have hv : Hid (formI s k = (0, 0)) := by
    unfold byteAt at b0 b1 b2 b3 c0 c1 n0 n1 n2
    rw [formI_in s k h1 _ _ (TM.fN_4n _ _ _ _ _ (by omega) (by omega) (by omega) (by omega) (by omega))]
    exact Lib.hid (by first | rfl | (unfold byteAt; first | rfl | (apply Prod.ext <;> simp)))
  have q0 : (byteAt s k == 240) = false := by rw [beq_eq_false_iff_ne]; omega
  have q1 : (byteAt s k == 244) = true := by rw [beq_iff_eq]; omega
  clear n0 n1 n2
  go_enter Tryd.func21, Tryd.ntmps21
  go_wp2_with (go_at_call 28; refine (more_any _ _ _ _ _ (by omega)).mono ?_; rintro e w' ⟨rfl, rfl⟩)
  go_ret2
  exact ⟨ret_form hv.out, 0, rfl⟩
end Go.Proofs.YthdcamklbjlanaaDoor
