import Derived.Test.YthdcamklbjlanaaDoorTextW
import Derived.Deep.QuietTactic
import Derived.BigQuiet
/-! the walk of the reference's Form: forms of three bytes -/
namespace Go.Proofs.YthdcamklbjlanaaDoor
set_option linter.unusedVariables false
open Go.RowKit

set_option maxRecDepth 100000 in
set_option maxHeartbeats 1000000 in
theorem form_d (s : ByteArray) (k : Nat) (w : World) (hs : s.size ≤ 140737488351232) (h1 : k < s.size) (c0 : 224 ≤ byteAt s k) (c1 : byteAt s k ≤ 224) (m0 : moreB s ((k : Int) + 1) 160 191 = true) (m1 : moreB s ((k : Int) + 2) 128 191 = true) :
    Calls Tryd.prog 21 #[.string s, .int .i64 k] w fun e w' => e = .returned (.tuple #[.int .i64 (formI s k).1, .int .i64 (formI s k).2]) ∧ ∃ n, w' = w.drewN n := by
  have b0 := byteAt_bd s k
  have b1 := byteAt_bd s (k + 1)
  have b2 := byteAt_bd s (k + 2)
  have b3 := byteAt_bd s (k + 3)
  have n0 := more_yes s k 1 160 191 m0
  have n1 := more_yes s k 2 128 191 m1
  have g0 := byteAt_get s k h1
  have l1 : k + 1 < s.size := by omega
  have g1 := byteAt_get s (k + 1) l1
  have x1 := and63 (byteAt s (k + 1)) b1.1 b1.2
  have l2 : k + 2 < s.size := by omega
  have g2 := byteAt_get s (k + 2) l2
  have x2 := and63 (byteAt s (k + 2)) b2.1 b2.2
  have x0 := and15 (byteAt s k) b0.1 b0.2
  have hv : Hid (formI s k = (byteAt s k % 16 * 4096 + byteAt s (k + 1) % 64 * 64 + byteAt s (k + 2) % 64, 3)) := by
    unfold byteAt at b0 b1 b2 b3 c0 c1 n0 n1
    rw [formI_in s k h1 _ _ (TM.fN_3 _ _ _ _ _ (by omega) (by omega) (by omega) (by omega) (by omega))]
    exact Lib.hid (by first | rfl | (unfold byteAt; first | rfl | (apply Prod.ext <;> simp)))
  have q0 : (byteAt s k == 224) = true := by rw [beq_iff_eq]; omega
  have q1 : (byteAt s k == 237) = false := by rw [beq_eq_false_iff_ne]; omega
  clear n0 n1
  go_enter Tryd.func21, Tryd.ntmps21
  go_wp2_with (go_at_call 28; refine (more_any _ _ _ _ _ (by omega)).mono ?_; rintro e w' ⟨rfl, rfl⟩)
  have y1 : IntKind.i64.wrap ((k : Int) + 1) = (k : Int) + 1 := IntWalk.i64_in _ (by omega)
  have y2 : IntKind.i64.wrap ((k : Int) + 2) = (k : Int) + 2 := IntWalk.i64_in _ (by omega)
  have z1 : (0 : Int) ≤ (k : Int) + 1 ∧ (k : Int) + 1 < s.size := by omega
  have z2 : (0 : Int) ≤ (k : Int) + 2 ∧ (k : Int) + 2 < s.size := by omega
  have t1 : ((k : Int) + 1).toNat = k + 1 := by omega
  have t2 : ((k : Int) + 2).toNat = k + 2 := by omega
  go_quiet (fail)
  clear y1 z1 t1 y2 z2 t2
  go_wp2
  go_ret2
  exact ⟨ret_form hv.out, _, rfl⟩

set_option maxRecDepth 100000 in
set_option maxHeartbeats 1000000 in
theorem form_dn1 (s : ByteArray) (k : Nat) (w : World) (hs : s.size ≤ 140737488351232) (h1 : k < s.size) (c0 : 224 ≤ byteAt s k) (c1 : byteAt s k ≤ 224) (m0 : moreB s ((k : Int) + 1) 160 191 = false) :
    Calls Tryd.prog 21 #[.string s, .int .i64 k] w fun e w' => e = .returned (.tuple #[.int .i64 (formI s k).1, .int .i64 (formI s k).2]) ∧ ∃ n, w' = w.drewN n := by
  have b0 := byteAt_bd s k
  have b1 := byteAt_bd s (k + 1)
  have b2 := byteAt_bd s (k + 2)
  have b3 := byteAt_bd s (k + 3)
  have n0 := more_no s k 1 160 191 m0
  have g0 := byteAt_get s k h1
  have hv : Hid (formI s k = (0, 0)) := by
    unfold byteAt at b0 b1 b2 b3 c0 c1 n0
    rw [formI_in s k h1 _ _ (TM.fN_3n _ _ _ _ _ (by omega) (by omega) (by omega) (by omega))]
    exact Lib.hid (by first | rfl | (unfold byteAt; first | rfl | (apply Prod.ext <;> simp)))
  have q0 : (byteAt s k == 224) = true := by rw [beq_iff_eq]; omega
  have q1 : (byteAt s k == 237) = false := by rw [beq_eq_false_iff_ne]; omega
  clear n0
  go_enter Tryd.func21, Tryd.ntmps21
  go_wp2_with (go_at_call 28; refine (more_any _ _ _ _ _ (by omega)).mono ?_; rintro e w' ⟨rfl, rfl⟩)
  go_ret2
  exact ⟨ret_form hv.out, 0, rfl⟩

set_option maxRecDepth 100000 in
set_option maxHeartbeats 1000000 in
theorem form_dn2 (s : ByteArray) (k : Nat) (w : World) (hs : s.size ≤ 140737488351232) (h1 : k < s.size) (c0 : 224 ≤ byteAt s k) (c1 : byteAt s k ≤ 224) (m0 : moreB s ((k : Int) + 1) 160 191 = true) (m1 : moreB s ((k : Int) + 2) 128 191 = false) :
    Calls Tryd.prog 21 #[.string s, .int .i64 k] w fun e w' => e = .returned (.tuple #[.int .i64 (formI s k).1, .int .i64 (formI s k).2]) ∧ ∃ n, w' = w.drewN n := by
  have b0 := byteAt_bd s k
  have b1 := byteAt_bd s (k + 1)
  have b2 := byteAt_bd s (k + 2)
  have b3 := byteAt_bd s (k + 3)
  have n0 := more_yes s k 1 160 191 m0
  have n1 := more_no s k 2 128 191 m1
  have g0 := byteAt_get s k h1
  have hv : Hid (formI s k = (0, 0)) := by
    unfold byteAt at b0 b1 b2 b3 c0 c1 n0 n1
    rw [formI_in s k h1 _ _ (TM.fN_3n _ _ _ _ _ (by omega) (by omega) (by omega) (by omega))]
    exact Lib.hid (by first | rfl | (unfold byteAt; first | rfl | (apply Prod.ext <;> simp)))
  have q0 : (byteAt s k == 224) = true := by rw [beq_iff_eq]; omega
  have q1 : (byteAt s k == 237) = false := by rw [beq_eq_false_iff_ne]; omega
  clear n0 n1
  go_enter Tryd.func21, Tryd.ntmps21
  go_wp2_with (go_at_call 28; refine (more_any _ _ _ _ _ (by omega)).mono ?_; rintro e w' ⟨rfl, rfl⟩)
  go_ret2
  exact ⟨ret_form hv.out, 0, rfl⟩

set_option maxRecDepth 100000 in
set_option maxHeartbeats 1000000 in
theorem form_e (s : ByteArray) (k : Nat) (w : World) (hs : s.size ≤ 140737488351232) (h1 : k < s.size) (c0 : 225 ≤ byteAt s k) (c1 : byteAt s k ≤ 236) (m0 : moreB s ((k : Int) + 1) 128 191 = true) (m1 : moreB s ((k : Int) + 2) 128 191 = true) :
    Calls Tryd.prog 21 #[.string s, .int .i64 k] w fun e w' => e = .returned (.tuple #[.int .i64 (formI s k).1, .int .i64 (formI s k).2]) ∧ ∃ n, w' = w.drewN n := by
  have b0 := byteAt_bd s k
  have b1 := byteAt_bd s (k + 1)
  have b2 := byteAt_bd s (k + 2)
  have b3 := byteAt_bd s (k + 3)
  have n0 := more_yes s k 1 128 191 m0
  have n1 := more_yes s k 2 128 191 m1
  have g0 := byteAt_get s k h1
  have l1 : k + 1 < s.size := by omega
  have g1 := byteAt_get s (k + 1) l1
  have x1 := and63 (byteAt s (k + 1)) b1.1 b1.2
  have l2 : k + 2 < s.size := by omega
  have g2 := byteAt_get s (k + 2) l2
  have x2 := and63 (byteAt s (k + 2)) b2.1 b2.2
  have x0 := and15 (byteAt s k) b0.1 b0.2
  have hv : Hid (formI s k = (byteAt s k % 16 * 4096 + byteAt s (k + 1) % 64 * 64 + byteAt s (k + 2) % 64, 3)) := by
    unfold byteAt at b0 b1 b2 b3 c0 c1 n0 n1
    rw [formI_in s k h1 _ _ (TM.fN_3 _ _ _ _ _ (by omega) (by omega) (by omega) (by omega) (by omega))]
    exact Lib.hid (by first | rfl | (unfold byteAt; first | rfl | (apply Prod.ext <;> simp)))
  have q0 : (byteAt s k == 224) = false := by rw [beq_eq_false_iff_ne]; omega
  have q1 : (byteAt s k == 237) = false := by rw [beq_eq_false_iff_ne]; omega
  clear n0 n1
  go_enter Tryd.func21, Tryd.ntmps21
  go_wp2_with (go_at_call 28; refine (more_any _ _ _ _ _ (by omega)).mono ?_; rintro e w' ⟨rfl, rfl⟩)
  have y1 : IntKind.i64.wrap ((k : Int) + 1) = (k : Int) + 1 := IntWalk.i64_in _ (by omega)
  have y2 : IntKind.i64.wrap ((k : Int) + 2) = (k : Int) + 2 := IntWalk.i64_in _ (by omega)
  have z1 : (0 : Int) ≤ (k : Int) + 1 ∧ (k : Int) + 1 < s.size := by omega
  have z2 : (0 : Int) ≤ (k : Int) + 2 ∧ (k : Int) + 2 < s.size := by omega
  have t1 : ((k : Int) + 1).toNat = k + 1 := by omega
  have t2 : ((k : Int) + 2).toNat = k + 2 := by omega
  go_quiet (fail)
  clear y1 z1 t1 y2 z2 t2
  go_wp2
  go_ret2
  exact ⟨ret_form hv.out, _, rfl⟩

set_option maxRecDepth 100000 in
set_option maxHeartbeats 1000000 in
theorem form_en1 (s : ByteArray) (k : Nat) (w : World) (hs : s.size ≤ 140737488351232) (h1 : k < s.size) (c0 : 225 ≤ byteAt s k) (c1 : byteAt s k ≤ 236) (m0 : moreB s ((k : Int) + 1) 128 191 = false) :
    Calls Tryd.prog 21 #[.string s, .int .i64 k] w fun e w' => e = .returned (.tuple #[.int .i64 (formI s k).1, .int .i64 (formI s k).2]) ∧ ∃ n, w' = w.drewN n := by
  have b0 := byteAt_bd s k
  have b1 := byteAt_bd s (k + 1)
  have b2 := byteAt_bd s (k + 2)
  have b3 := byteAt_bd s (k + 3)
  have n0 := more_no s k 1 128 191 m0
  have g0 := byteAt_get s k h1
  have hv : Hid (formI s k = (0, 0)) := by
    unfold byteAt at b0 b1 b2 b3 c0 c1 n0
    rw [formI_in s k h1 _ _ (TM.fN_3n _ _ _ _ _ (by omega) (by omega) (by omega) (by omega))]
    exact Lib.hid (by first | rfl | (unfold byteAt; first | rfl | (apply Prod.ext <;> simp)))
  have q0 : (byteAt s k == 224) = false := by rw [beq_eq_false_iff_ne]; omega
  have q1 : (byteAt s k == 237) = false := by rw [beq_eq_false_iff_ne]; omega
  clear n0
  go_enter Tryd.func21, Tryd.ntmps21
  go_wp2_with (go_at_call 28; refine (more_any _ _ _ _ _ (by omega)).mono ?_; rintro e w' ⟨rfl, rfl⟩)
  go_ret2
  exact ⟨ret_form hv.out, 0, rfl⟩

set_option maxRecDepth 100000 in
set_option maxHeartbeats 1000000 in
theorem form_en2 (s : ByteArray) (k : Nat) (w : World) (hs : s.size ≤ 140737488351232) (h1 : k < s.size) (c0 : 225 ≤ byteAt s k) (c1 : byteAt s k ≤ 236) (m0 : moreB s ((k : Int) + 1) 128 191 = true) (m1 : moreB s ((k : Int) + 2) 128 191 = false) :
    Calls Tryd.prog 21 #[.string s, .int .i64 k] w fun e w' => e = .returned (.tuple #[.int .i64 (formI s k).1, .int .i64 (formI s k).2]) ∧ ∃ n, w' = w.drewN n := by
  have b0 := byteAt_bd s k
  have b1 := byteAt_bd s (k + 1)
  have b2 := byteAt_bd s (k + 2)
  have b3 := byteAt_bd s (k + 3)
  have n0 := more_yes s k 1 128 191 m0
  have n1 := more_no s k 2 128 191 m1
  have g0 := byteAt_get s k h1
  have hv : Hid (formI s k = (0, 0)) := by
    unfold byteAt at b0 b1 b2 b3 c0 c1 n0 n1
    rw [formI_in s k h1 _ _ (TM.fN_3n _ _ _ _ _ (by omega) (by omega) (by omega) (by omega))]
    exact Lib.hid (by first | rfl | (unfold byteAt; first | rfl | (apply Prod.ext <;> simp)))
  have q0 : (byteAt s k == 224) = false := by rw [beq_eq_false_iff_ne]; omega
  have q1 : (byteAt s k == 237) = false := by rw [beq_eq_false_iff_ne]; omega
  clear n0 n1
  go_enter Tryd.func21, Tryd.ntmps21
  go_wp2_with (go_at_call 28; refine (more_any _ _ _ _ _ (by omega)).mono ?_; rintro e w' ⟨rfl, rfl⟩)
  go_ret2
  exact ⟨ret_form hv.out, 0, rfl⟩

set_option maxRecDepth 100000 in
set_option maxHeartbeats 1000000 in
theorem form_f (s : ByteArray) (k : Nat) (w : World) (hs : s.size ≤ 140737488351232) (h1 : k < s.size) (c0 : 237 ≤ byteAt s k) (c1 : byteAt s k ≤ 237) (m0 : moreB s ((k : Int) + 1) 128 159 = true) (m1 : moreB s ((k : Int) + 2) 128 191 = true) :
    Calls Tryd.prog 21 #[.string s, .int .i64 k] w fun e w' => e = .returned (.tuple #[.int .i64 (formI s k).1, .int .i64 (formI s k).2]) ∧ ∃ n, w' = w.drewN n := by
  have b0 := byteAt_bd s k
  have b1 := byteAt_bd s (k + 1)
  have b2 := byteAt_bd s (k + 2)
  have b3 := byteAt_bd s (k + 3)
  have n0 := more_yes s k 1 128 159 m0
  have n1 := more_yes s k 2 128 191 m1
  have g0 := byteAt_get s k h1
  have l1 : k + 1 < s.size := by omega
  have g1 := byteAt_get s (k + 1) l1
  have x1 := and63 (byteAt s (k + 1)) b1.1 b1.2
  have l2 : k + 2 < s.size := by omega
  have g2 := byteAt_get s (k + 2) l2
  have x2 := and63 (byteAt s (k + 2)) b2.1 b2.2
  have x0 := and15 (byteAt s k) b0.1 b0.2
  have hv : Hid (formI s k = (byteAt s k % 16 * 4096 + byteAt s (k + 1) % 64 * 64 + byteAt s (k + 2) % 64, 3)) := by
    unfold byteAt at b0 b1 b2 b3 c0 c1 n0 n1
    rw [formI_in s k h1 _ _ (TM.fN_3 _ _ _ _ _ (by omega) (by omega) (by omega) (by omega) (by omega))]
    exact Lib.hid (by first | rfl | (unfold byteAt; first | rfl | (apply Prod.ext <;> simp)))
  have q0 : (byteAt s k == 224) = false := by rw [beq_eq_false_iff_ne]; omega
  have q1 : (byteAt s k == 237) = true := by rw [beq_iff_eq]; omega
  clear n0 n1
  go_enter Tryd.func21, Tryd.ntmps21
  go_wp2_with (go_at_call 28; refine (more_any _ _ _ _ _ (by omega)).mono ?_; rintro e w' ⟨rfl, rfl⟩)
  have y1 : IntKind.i64.wrap ((k : Int) + 1) = (k : Int) + 1 := IntWalk.i64_in _ (by omega)
  have y2 : IntKind.i64.wrap ((k : Int) + 2) = (k : Int) + 2 := IntWalk.i64_in _ (by omega)
  have z1 : (0 : Int) ≤ (k : Int) + 1 ∧ (k : Int) + 1 < s.size := by omega
  have z2 : (0 : Int) ≤ (k : Int) + 2 ∧ (k : Int) + 2 < s.size := by omega
  have t1 : ((k : Int) + 1).toNat = k + 1 := by omega
  have t2 : ((k : Int) + 2).toNat = k + 2 := by omega
  go_quiet (fail)
  clear y1 z1 t1 y2 z2 t2
  go_wp2
  go_ret2
  exact ⟨ret_form hv.out, _, rfl⟩

set_option maxRecDepth 100000 in
set_option maxHeartbeats 1000000 in
theorem form_fn1 (s : ByteArray) (k : Nat) (w : World) (hs : s.size ≤ 140737488351232) (h1 : k < s.size) (c0 : 237 ≤ byteAt s k) (c1 : byteAt s k ≤ 237) (m0 : moreB s ((k : Int) + 1) 128 159 = false) :
    Calls Tryd.prog 21 #[.string s, .int .i64 k] w fun e w' => e = .returned (.tuple #[.int .i64 (formI s k).1, .int .i64 (formI s k).2]) ∧ ∃ n, w' = w.drewN n := by
  have b0 := byteAt_bd s k
  have b1 := byteAt_bd s (k + 1)
  have b2 := byteAt_bd s (k + 2)
  have b3 := byteAt_bd s (k + 3)
  have n0 := more_no s k 1 128 159 m0
  have g0 := byteAt_get s k h1
  have hv : Hid (formI s k = (0, 0)) := by
    unfold byteAt at b0 b1 b2 b3 c0 c1 n0
    rw [formI_in s k h1 _ _ (TM.fN_3n _ _ _ _ _ (by omega) (by omega) (by omega) (by omega))]
    exact Lib.hid (by first | rfl | (unfold byteAt; first | rfl | (apply Prod.ext <;> simp)))
  have q0 : (byteAt s k == 224) = false := by rw [beq_eq_false_iff_ne]; omega
  have q1 : (byteAt s k == 237) = true := by rw [beq_iff_eq]; omega
  clear n0
  go_enter Tryd.func21, Tryd.ntmps21
  go_wp2_with (go_at_call 28; refine (more_any _ _ _ _ _ (by omega)).mono ?_; rintro e w' ⟨rfl, rfl⟩)
  go_ret2
  exact ⟨ret_form hv.out, 0, rfl⟩

set_option maxRecDepth 100000 in
set_option maxHeartbeats 1000000 in
theorem form_fn2 (s : ByteArray) (k : Nat) (w : World) (hs : s.size ≤ 140737488351232) (h1 : k < s.size) (c0 : 237 ≤ byteAt s k) (c1 : byteAt s k ≤ 237) (m0 : moreB s ((k : Int) + 1) 128 159 = true) (m1 : moreB s ((k : Int) + 2) 128 191 = false) :
    Calls Tryd.prog 21 #[.string s, .int .i64 k] w fun e w' => e = .returned (.tuple #[.int .i64 (formI s k).1, .int .i64 (formI s k).2]) ∧ ∃ n, w' = w.drewN n := by
  have b0 := byteAt_bd s k
  have b1 := byteAt_bd s (k + 1)
  have b2 := byteAt_bd s (k + 2)
  have b3 := byteAt_bd s (k + 3)
  have n0 := more_yes s k 1 128 159 m0
  have n1 := more_no s k 2 128 191 m1
  have g0 := byteAt_get s k h1
  have hv : Hid (formI s k = (0, 0)) := by
    unfold byteAt at b0 b1 b2 b3 c0 c1 n0 n1
    rw [formI_in s k h1 _ _ (TM.fN_3n _ _ _ _ _ (by omega) (by omega) (by omega) (by omega))]
    exact Lib.hid (by first | rfl | (unfold byteAt; first | rfl | (apply Prod.ext <;> simp)))
  have q0 : (byteAt s k == 224) = false := by rw [beq_eq_false_iff_ne]; omega
  have q1 : (byteAt s k == 237) = true := by rw [beq_iff_eq]; omega
  clear n0 n1
  go_enter Tryd.func21, Tryd.ntmps21
  go_wp2_with (go_at_call 28; refine (more_any _ _ _ _ _ (by omega)).mono ?_; rintro e w' ⟨rfl, rfl⟩)
  go_ret2
  exact ⟨ret_form hv.out, 0, rfl⟩

set_option maxRecDepth 100000 in
set_option maxHeartbeats 1000000 in
theorem form_g (s : ByteArray) (k : Nat) (w : World) (hs : s.size ≤ 140737488351232) (h1 : k < s.size) (c0 : 238 ≤ byteAt s k) (c1 : byteAt s k ≤ 239) (m0 : moreB s ((k : Int) + 1) 128 191 = true) (m1 : moreB s ((k : Int) + 2) 128 191 = true) :
    Calls Tryd.prog 21 #[.string s, .int .i64 k] w fun e w' => e = .returned (.tuple #[.int .i64 (formI s k).1, .int .i64 (formI s k).2]) ∧ ∃ n, w' = w.drewN n := by
  have b0 := byteAt_bd s k
  have b1 := byteAt_bd s (k + 1)
  have b2 := byteAt_bd s (k + 2)
  have b3 := byteAt_bd s (k + 3)
  have n0 := more_yes s k 1 128 191 m0
  have n1 := more_yes s k 2 128 191 m1
  have g0 := byteAt_get s k h1
  have l1 : k + 1 < s.size := by omega
  have g1 := byteAt_get s (k + 1) l1
  have x1 := and63 (byteAt s (k + 1)) b1.1 b1.2
  have l2 : k + 2 < s.size := by omega
  have g2 := byteAt_get s (k + 2) l2
  have x2 := and63 (byteAt s (k + 2)) b2.1 b2.2
  have x0 := and15 (byteAt s k) b0.1 b0.2
  have hv : Hid (formI s k = (byteAt s k % 16 * 4096 + byteAt s (k + 1) % 64 * 64 + byteAt s (k + 2) % 64, 3)) := by
    unfold byteAt at b0 b1 b2 b3 c0 c1 n0 n1
    rw [formI_in s k h1 _ _ (TM.fN_3 _ _ _ _ _ (by omega) (by omega) (by omega) (by omega) (by omega))]
    exact Lib.hid (by first | rfl | (unfold byteAt; first | rfl | (apply Prod.ext <;> simp)))
  have q0 : (byteAt s k == 224) = false := by rw [beq_eq_false_iff_ne]; omega
  have q1 : (byteAt s k == 237) = false := by rw [beq_eq_false_iff_ne]; omega
  clear n0 n1
  go_enter Tryd.func21, Tryd.ntmps21
  go_wp2_with (go_at_call 28; refine (more_any _ _ _ _ _ (by omega)).mono ?_; rintro e w' ⟨rfl, rfl⟩)
  have y1 : IntKind.i64.wrap ((k : Int) + 1) = (k : Int) + 1 := IntWalk.i64_in _ (by omega)
  have y2 : IntKind.i64.wrap ((k : Int) + 2) = (k : Int) + 2 := IntWalk.i64_in _ (by omega)
  have z1 : (0 : Int) ≤ (k : Int) + 1 ∧ (k : Int) + 1 < s.size := by omega
  have z2 : (0 : Int) ≤ (k : Int) + 2 ∧ (k : Int) + 2 < s.size := by omega
  have t1 : ((k : Int) + 1).toNat = k + 1 := by omega
  have t2 : ((k : Int) + 2).toNat = k + 2 := by omega
  go_quiet (fail)
  clear y1 z1 t1 y2 z2 t2
  go_wp2
  go_ret2
  exact ⟨ret_form hv.out, _, rfl⟩

set_option maxRecDepth 100000 in
set_option maxHeartbeats 1000000 in
theorem form_gn1 (s : ByteArray) (k : Nat) (w : World) (hs : s.size ≤ 140737488351232) (h1 : k < s.size) (c0 : 238 ≤ byteAt s k) (c1 : byteAt s k ≤ 239) (m0 : moreB s ((k : Int) + 1) 128 191 = false) :
    Calls Tryd.prog 21 #[.string s, .int .i64 k] w fun e w' => e = .returned (.tuple #[.int .i64 (formI s k).1, .int .i64 (formI s k).2]) ∧ ∃ n, w' = w.drewN n := by
  have b0 := byteAt_bd s k
  have b1 := byteAt_bd s (k + 1)
  have b2 := byteAt_bd s (k + 2)
  have b3 := byteAt_bd s (k + 3)
  have n0 := more_no s k 1 128 191 m0
  have g0 := byteAt_get s k h1
  have hv : Hid (formI s k = (0, 0)) := by
    unfold byteAt at b0 b1 b2 b3 c0 c1 n0
    rw [formI_in s k h1 _ _ (TM.fN_3n _ _ _ _ _ (by omega) (by omega) (by omega) (by omega))]
    exact Lib.hid (by first | rfl | (unfold byteAt; first | rfl | (apply Prod.ext <;> simp)))
  have q0 : (byteAt s k == 224) = false := by rw [beq_eq_false_iff_ne]; omega
  have q1 : (byteAt s k == 237) = false := by rw [beq_eq_false_iff_ne]; omega
  clear n0
  go_enter Tryd.func21, Tryd.ntmps21
  go_wp2_with (go_at_call 28; refine (more_any _ _ _ _ _ (by omega)).mono ?_; rintro e w' ⟨rfl, rfl⟩)
  go_ret2
  exact ⟨ret_form hv.out, 0, rfl⟩

set_option maxRecDepth 100000 in
set_option maxHeartbeats 1000000 in
theorem form_gn2 (s : ByteArray) (k : Nat) (w : World) (hs : s.size ≤ 140737488351232) (h1 : k < s.size) (c0 : 238 ≤ byteAt s k) (c1 : byteAt s k ≤ 239) (m0 : moreB s ((k : Int) + 1) 128 191 = true) (m1 : moreB s ((k : Int) + 2) 128 191 = false) :
    Calls Tryd.prog 21 #[.string s, .int .i64 k] w fun e w' => e = .returned (.tuple #[.int .i64 (formI s k).1, .int .i64 (formI s k).2]) ∧ ∃ n, w' = w.drewN n := by
  have b0 := byteAt_bd s k
  have b1 := byteAt_bd s (k + 1)
  have b2 := byteAt_bd s (k + 2)
  have b3 := byteAt_bd s (k + 3)
  have n0 := more_yes s k 1 128 191 m0
  have n1 := more_no s k 2 128 191 m1
  have g0 := byteAt_get s k h1
  have hv : Hid (formI s k = (0, 0)) := by
    unfold byteAt at b0 b1 b2 b3 c0 c1 n0 n1
    rw [formI_in s k h1 _ _ (TM.fN_3n _ _ _ _ _ (by omega) (by omega) (by omega) (by omega))]
    exact Lib.hid (by first | rfl | (unfold byteAt; first | rfl | (apply Prod.ext <;> simp)))
  have q0 : (byteAt s k == 224) = false := by rw [beq_eq_false_iff_ne]; omega
  have q1 : (byteAt s k == 237) = false := by rw [beq_eq_false_iff_ne]; omega
  clear n0 n1
  go_enter Tryd.func21, Tryd.ntmps21
  go_wp2_with (go_at_call 28; refine (more_any _ _ _ _ _ (by omega)).mono ?_; rintro e w' ⟨rfl, rfl⟩)
  go_ret2
  exact ⟨ret_form hv.out, 0, rfl⟩
end Go.Proofs.YthdcamklbjlanaaDoor
