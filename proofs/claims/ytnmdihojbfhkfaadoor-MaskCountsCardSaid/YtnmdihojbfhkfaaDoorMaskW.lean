import Derived.Test.YtnmdihojbfhkfaaDoorBase
import Derived.Test.YtnmdihojbfhkfaaDoorMaskR
/-! the walks of layer 2's functions, and of the reference's: no list, no iterator -/
namespace Go.Proofs.YtnmdihojbfhkfaaDoor
set_option linter.unusedVariables false
open Go.RowKit

set_option maxHeartbeats 400000 in
theorem bit_any (i : Int) (w : World) :
    Calls Tryd.prog 20 #[.int .i64 i] w fun e w' => e = .returned (.int .u64 (MM.bitI i)) ∧ w = w' := by
  by_cases h0 : i < 0
  · have hb := Lib.hid (MM.bitI_out (i := i) (by omega))
    go_enter Tryd.func20, Tryd.ntmps20
    go_wp2
    go_ret
    exact ⟨ret_int hb.out.symm, rfl⟩
  · by_cases h1 : i < 64
    · have hb := Lib.hid (MM.wrap_pow (i := i) (by omega) h1)
      have h0 : 0 ≤ i := by omega
      go_enter Tryd.func20, Tryd.ntmps20
      go_wp2
      go_ret
      exact ⟨ret_int hb.out, rfl⟩
    · have hb := Lib.hid (MM.bitI_out (i := i) (by omega))
      have h0 : 0 ≤ i := by omega
      have h1 : 64 ≤ i := by omega
      go_enter Tryd.func20, Tryd.ntmps20
      go_wp2
      go_ret
      exact ⟨ret_int hb.out.symm, rfl⟩
set_option maxHeartbeats 400000 in
theorem has_any (m i : Int) (w : World) (m0 : 0 ≤ m) (m1 : m ≤ 18446744073709551615) :
    Calls Tryd.prog 14 #[.int .u64 m, .int .i64 i] w fun e w' => e = .returned (.bool (MM.hasB m i)) ∧ w = w' := by
  have hb := Lib.hid (MM.and_has m i m0 m1)
  go_enter Tryd.func14, Tryd.ntmps14
  go_wp2_with (go_at_call 20; refine (bit_any _ _).mono ?_; rintro e w' ⟨rfl, rfl⟩)
  go_ret
  exact ⟨ret_bool hb.out, rfl⟩
set_option maxHeartbeats 400000 in
theorem with_any (m i : Int) (w : World) (m0 : 0 ≤ m) (m1 : m ≤ 18446744073709551615) :
    Calls Tryd.prog 15 #[.int .u64 m, .int .i64 i] w fun e w' => e = .returned (.int .u64 (MM.withI m i)) ∧ w = w' := by
  have hb := Lib.hid (MM.or_with m i m0 m1)
  go_enter Tryd.func15, Tryd.ntmps15
  go_wp2_with (go_at_call 20; refine (bit_any _ _).mono ?_; rintro e w' ⟨rfl, rfl⟩)
  go_ret
  exact ⟨ret_int hb.out, rfl⟩
set_option maxHeartbeats 400000 in
theorem without_any (m i : Int) (w : World) (m0 : 0 ≤ m) (m1 : m ≤ 18446744073709551615) :
    Calls Tryd.prog 16 #[.int .u64 m, .int .i64 i] w fun e w' => e = .returned (.int .u64 (MM.withoutI m i)) ∧ w = w' := by
  have hb := Lib.hid (MM.andNot_without m i m0 m1)
  go_enter Tryd.func16, Tryd.ntmps16
  go_wp2_with (go_at_call 20; refine (bit_any _ _).mono ?_; rintro e w' ⟨rfl, rfl⟩)
  go_ret
  exact ⟨ret_int hb.out, rfl⟩
set_option maxHeartbeats 400000 in
theorem below_any (n : Int) (w : World) (n0 : -9223372036854775808 ≤ n) (n1 : n ≤ 9223372036854775807) :
    Calls Tryd.prog 17 #[.int .i64 n] w fun e w' => e = .returned (.int .u64 (MM.belowI n)) ∧ w = w' := by
  by_cases hn : n < 64
  · by_cases hz : n ≤ 0
    · have hb := Lib.hid (MM.ones_lo n hz)
      go_enter Tryd.func17, Tryd.ntmps17
      go_wp2
      go_loop [3, 4, 7] (fun x _ k => x = .int .u64 0 ∧ k = .int .i64 0) (fun _ _ _ => 0)
      case atStart => exact ⟨rfl, rfl⟩
      case round =>
        obtain ⟨rfl, rfl⟩ := hrel
        go_wp2
        go_ret
        exact ⟨ret_int hb.out.symm, rfl⟩
    · have hz : 0 < n := by omega
      go_enter Tryd.func17, Tryd.ntmps17
      go_wp2
      go_loop [3, 4, 7] (fun x _ k => ∃ j : Nat, (j : Int) ≤ n ∧ k = .int .i64 j ∧ x = .int .u64 (MM.ones j)) (fun _ _ k => (n - intOf k).toNat)
      case atStart => exact ⟨0, by omega, rfl, rfl⟩
      case round =>
        obtain ⟨j, hj, rfl, rfl⟩ := hrel
        have hbd := MM.ones_bd j (by omega)
        by_cases hlt : (j : Int) < n
        · have hs := Lib.hid (MM.ones_succ j (by omega))
          go_wp2_with (go_at_call 15; refine (with_any _ _ _ hbd.1 hbd.2).mono ?_; rintro e w' ⟨rfl, rfl⟩)
          go_round
          case rel => exact ⟨j + 1, by omega, by go_num, by rw [hs.out]⟩
          case measure => simp [intOf]; omega
        · have hb := Lib.hid (MM.ones_mid n j (by omega) hn)
          go_wp2
          go_ret
          exact ⟨ret_int hb.out.symm, rfl⟩
  · have hb := Lib.hid (MM.ones_hi n (by omega))
    rcases (show n = 64 ∨ 64 < n by omega) with rfl | hn
    all_goals
      go_enter Tryd.func17, Tryd.ntmps17
      go_wp2
      go_loop [3, 4, 7] (fun x _ k => ∃ j : Nat, j ≤ 64 ∧ k = .int .i64 j ∧ x = .int .u64 (MM.ones j)) (fun _ _ k => (64 - intOf k).toNat)
      case atStart => exact ⟨0, by omega, rfl, rfl⟩
      case round =>
        obtain ⟨j, hj, rfl, rfl⟩ := hrel
        have hbd := MM.ones_bd j (by omega)
        by_cases hlt : j < 64
        · have hs := Lib.hid (MM.ones_succ j (by omega))
          go_wp2_with (go_at_call 15; refine (with_any _ _ _ hbd.1 hbd.2).mono ?_; rintro e w' ⟨rfl, rfl⟩)
          go_round
          case rel => exact ⟨j + 1, by omega, by go_num, by rw [hs.out]⟩
          case measure => simp [intOf]; omega
        · obtain rfl : j = 64 := by omega
          go_wp2
          go_ret
          exact ⟨ret_int hb.out.symm, rfl⟩
set_option maxHeartbeats 400000 in
theorem rhas_any (m i : Int) (w : World) (m0 : 0 ≤ m) (m1 : m ≤ 18446744073709551615) :
    Calls Tryd.prog 18 #[.int .u64 m, .int .i64 i] w fun e w' => e = .returned (.bool (MM.hasB m i)) ∧ w = w' := by
  by_cases h0 : i < 0
  · have hb := Lib.hid (MM.has_out m i (by omega))
    go_enter Tryd.func18, Tryd.ntmps18
    go_wp2
    go_ret
    exact ⟨ret_bool hb.out.symm, rfl⟩
  · by_cases h1 : i < 64
    · have h0 : 0 ≤ i := by omega
      go_enter Tryd.func18, Tryd.ntmps18
      go_wp2
      go_loop [0, 5] (fun x k => ∃ j : Nat, (j : Int) ≤ i ∧ k = .int .i64 j ∧ x = .int .u64 (MM.halve m j)) (fun _ k => (i - intOf k).toNat)
      case atStart => exact ⟨0, by omega, rfl, by rw [MM.halve_zero m m0]⟩
      case round =>
        obtain ⟨j, hj, rfl, rfl⟩ := hrel
        have hbd := MM.halve_bd m j m0 m1
        by_cases hlt : (j : Int) < i
        · go_wp2
          go_round
          case rel => exact ⟨j + 1, by omega, by go_num, by rw [MM.halve_succ]⟩
          case measure => simp [intOf]; omega
        · have hb := Lib.hid (MM.halve_has m i j (by omega) h1)
          go_wp2
          go_ret
          exact ⟨ret_bool hb.out, rfl⟩
    · have hb := Lib.hid (MM.has_out m i (by omega))
      have h0 : 0 ≤ i := by omega
      have h1 : 63 < i := by omega
      go_enter Tryd.func18, Tryd.ntmps18
      go_wp2
      go_ret
      exact ⟨ret_bool hb.out.symm, rfl⟩

end Go.Proofs.YtnmdihojbfhkfaaDoor
