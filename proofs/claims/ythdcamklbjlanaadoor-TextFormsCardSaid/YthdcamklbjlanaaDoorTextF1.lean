import Derived.Test.YthdcamklbjlanaaDoorTextW
import Derived.Deep.QuietTactic
import Derived.BigQuiet
/-! the walk of the reference's Form: forms of one and two bytes, and none -/
namespace Go.Proofs.YthdcamklbjlanaaDoor
set_option linter.unusedVariables false
open Go.RowKit

set_option maxRecDepth 100000 in
set_option maxHeartbeats 1000000 in
theorem form_a (s : ByteArray) (k : Nat) (w : World) (hs : s.size ≤ 140737488351232) (h1 : k < s.size) (c0 : 0 ≤ byteAt s k) (c1 : byteAt s k ≤ 127) :
    Calls Tryd.prog 21 #[.string s, .int .i64 k] w fun e w' => e = .returned (.tuple #[.int .i64 (formI s k).1, .int .i64 (formI s k).2]) ∧ ∃ n, w' = w.drewN n := by
  have b0 := byteAt_bd s k
  have b1 := byteAt_bd s (k + 1)
  have b2 := byteAt_bd s (k + 2)
  have b3 := byteAt_bd s (k + 3)
  have g0 := byteAt_get s k h1
  have hv : Hid (formI s k = (byteAt s k, 1)) := by
    unfold byteAt at b0 b1 b2 b3 c0 c1 
    rw [formI_in s k h1 _ _ (TM.fN_1 _ _ _ _ _ (by omega))]
    exact Lib.hid (by first | rfl | (unfold byteAt; first | rfl | (apply Prod.ext <;> simp)))
  go_enter Tryd.func21, Tryd.ntmps21
  go_wp2_with (go_at_call 28; refine (more_any _ _ _ _ _ (by omega)).mono ?_; rintro e w' ⟨rfl, rfl⟩)
  go_ret2
  exact ⟨ret_form hv.out, 0, rfl⟩

set_option maxRecDepth 100000 in
set_option maxHeartbeats 1000000 in
theorem form_b (s : ByteArray) (k : Nat) (w : World) (hs : s.size ≤ 140737488351232) (h1 : k < s.size) (c0 : 128 ≤ byteAt s k) (c1 : byteAt s k ≤ 193) :
    Calls Tryd.prog 21 #[.string s, .int .i64 k] w fun e w' => e = .returned (.tuple #[.int .i64 (formI s k).1, .int .i64 (formI s k).2]) ∧ ∃ n, w' = w.drewN n := by
  have b0 := byteAt_bd s k
  have b1 := byteAt_bd s (k + 1)
  have b2 := byteAt_bd s (k + 2)
  have b3 := byteAt_bd s (k + 3)
  have g0 := byteAt_get s k h1
  have hv : Hid (formI s k = (0, 0)) := by
    unfold byteAt at b0 b1 b2 b3 c0 c1 
    rw [formI_in s k h1 _ _ (TM.fN_0 _ _ _ _ _ (by omega))]
    exact Lib.hid (by first | rfl | (unfold byteAt; first | rfl | (apply Prod.ext <;> simp)))
  go_enter Tryd.func21, Tryd.ntmps21
  go_wp2_with (go_at_call 28; refine (more_any _ _ _ _ _ (by omega)).mono ?_; rintro e w' ⟨rfl, rfl⟩)
  go_ret2
  exact ⟨ret_form hv.out, 0, rfl⟩

set_option maxRecDepth 100000 in
set_option maxHeartbeats 1000000 in
theorem form_c (s : ByteArray) (k : Nat) (w : World) (hs : s.size ≤ 140737488351232) (h1 : k < s.size) (c0 : 194 ≤ byteAt s k) (c1 : byteAt s k ≤ 223) (m0 : moreB s ((k : Int) + 1) 128 191 = true) :
    Calls Tryd.prog 21 #[.string s, .int .i64 k] w fun e w' => e = .returned (.tuple #[.int .i64 (formI s k).1, .int .i64 (formI s k).2]) ∧ ∃ n, w' = w.drewN n := by
  have b0 := byteAt_bd s k
  have b1 := byteAt_bd s (k + 1)
  have b2 := byteAt_bd s (k + 2)
  have b3 := byteAt_bd s (k + 3)
  have n0 := more_yes s k 1 128 191 m0
  have g0 := byteAt_get s k h1
  have l1 : k + 1 < s.size := by omega
  have g1 := byteAt_get s (k + 1) l1
  have x1 := and63 (byteAt s (k + 1)) b1.1 b1.2
  have x0 := and31 (byteAt s k) b0.1 b0.2
  have hv : Hid (formI s k = (byteAt s k % 32 * 64 + byteAt s (k + 1) % 64, 2)) := by
    unfold byteAt at b0 b1 b2 b3 c0 c1 n0
    rw [formI_in s k h1 _ _ (TM.fN_2 _ _ _ _ _ (by omega) (by omega))]
    exact Lib.hid (by first | rfl | (unfold byteAt; first | rfl | (apply Prod.ext <;> simp)))
  clear n0
  go_enter Tryd.func21, Tryd.ntmps21
  go_wp2_with (go_at_call 28; refine (more_any _ _ _ _ _ (by omega)).mono ?_; rintro e w' ⟨rfl, rfl⟩)
  go_ret2
  exact ⟨ret_form hv.out, 0, rfl⟩

set_option maxRecDepth 100000 in
set_option maxHeartbeats 1000000 in
theorem form_cn (s : ByteArray) (k : Nat) (w : World) (hs : s.size ≤ 140737488351232) (h1 : k < s.size) (c0 : 194 ≤ byteAt s k) (c1 : byteAt s k ≤ 223) (m0 : moreB s ((k : Int) + 1) 128 191 = false) :
    Calls Tryd.prog 21 #[.string s, .int .i64 k] w fun e w' => e = .returned (.tuple #[.int .i64 (formI s k).1, .int .i64 (formI s k).2]) ∧ ∃ n, w' = w.drewN n := by
  have b0 := byteAt_bd s k
  have b1 := byteAt_bd s (k + 1)
  have b2 := byteAt_bd s (k + 2)
  have b3 := byteAt_bd s (k + 3)
  have n0 := more_no s k 1 128 191 m0
  have g0 := byteAt_get s k h1
  have hv : Hid (formI s k = (0, 0)) := by
    unfold byteAt at b0 b1 b2 b3 c0 c1 n0
    rw [formI_in s k h1 _ _ (TM.fN_2n _ _ _ _ _ (by omega) (by omega) (by omega))]
    exact Lib.hid (by first | rfl | (unfold byteAt; first | rfl | (apply Prod.ext <;> simp)))
  clear n0
  go_enter Tryd.func21, Tryd.ntmps21
  go_wp2_with (go_at_call 28; refine (more_any _ _ _ _ _ (by omega)).mono ?_; rintro e w' ⟨rfl, rfl⟩)
  go_ret2
  exact ⟨ret_form hv.out, 0, rfl⟩

set_option maxRecDepth 100000 in
set_option maxHeartbeats 1000000 in
theorem form_z (s : ByteArray) (k : Nat) (w : World) (hs : s.size ≤ 140737488351232) (h1 : k < s.size) (c0 : 245 ≤ byteAt s k) (c1 : byteAt s k ≤ 255) :
    Calls Tryd.prog 21 #[.string s, .int .i64 k] w fun e w' => e = .returned (.tuple #[.int .i64 (formI s k).1, .int .i64 (formI s k).2]) ∧ ∃ n, w' = w.drewN n := by
  have b0 := byteAt_bd s k
  have b1 := byteAt_bd s (k + 1)
  have b2 := byteAt_bd s (k + 2)
  have b3 := byteAt_bd s (k + 3)
  have g0 := byteAt_get s k h1
  have hv : Hid (formI s k = (0, 0)) := by
    unfold byteAt at b0 b1 b2 b3 c0 c1 
    rw [formI_in s k h1 _ _ (TM.fN_0 _ _ _ _ _ (by omega))]
    exact Lib.hid (by first | rfl | (unfold byteAt; first | rfl | (apply Prod.ext <;> simp)))
  go_enter Tryd.func21, Tryd.ntmps21
  go_wp2_with (go_at_call 28; refine (more_any _ _ _ _ _ (by omega)).mono ?_; rintro e w' ⟨rfl, rfl⟩)
  go_ret2
  exact ⟨ret_form hv.out, 0, rfl⟩
end Go.Proofs.YthdcamklbjlanaaDoor
