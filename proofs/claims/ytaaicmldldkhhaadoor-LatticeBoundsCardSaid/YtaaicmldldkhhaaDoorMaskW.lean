import Derived.Test.YtaaicmldldkhhaaDoorBase
import Derived.Test.YtaaicmldldkhhaaDoorMaskR
/-! the walks of layer 2's functions, and of the reference's: no list, no iterator -/
namespace Go.Proofs.YtaaicmldldkhhaaDoor
set_option linter.unusedVariables false
open Go.RowKit

set_option maxHeartbeats 400000 in
theorem bit_any (i : Int) (w : World) :
    Calls Tryd.prog 50 #[.int .i64 i] w fun e w' => e = .returned (.int .u64 (MM.bitI i)) ∧ w = w' := by
  by_cases h0 : i < 0
  · have hb := Lib.hid (MM.bitI_out (i := i) (by omega))
    go_enter Tryd.func50, Tryd.ntmps50
    go_wp2
    go_ret
    exact ⟨ret_int hb.out.symm, rfl⟩
  · by_cases h1 : i < 64
    · have hb := Lib.hid (MM.wrap_pow (i := i) (by omega) h1)
      have h0 : 0 ≤ i := by omega
      go_enter Tryd.func50, Tryd.ntmps50
      go_wp2
      go_ret
      exact ⟨ret_int hb.out, rfl⟩
    · have hb := Lib.hid (MM.bitI_out (i := i) (by omega))
      have h0 : 0 ≤ i := by omega
      have h1 : 64 ≤ i := by omega
      go_enter Tryd.func50, Tryd.ntmps50
      go_wp2
      go_ret
      exact ⟨ret_int hb.out.symm, rfl⟩
set_option maxHeartbeats 400000 in
theorem has_any (m i : Int) (w : World) (m0 : 0 ≤ m) (m1 : m ≤ 18446744073709551615) :
    Calls Tryd.prog 43 #[.int .u64 m, .int .i64 i] w fun e w' => e = .returned (.bool (MM.hasB m i)) ∧ w = w' := by
  have hb := Lib.hid (MM.and_has m i m0 m1)
  go_enter Tryd.func43, Tryd.ntmps43
  go_wp2_with (go_at_call 50; refine (bit_any _ _).mono ?_; rintro e w' ⟨rfl, rfl⟩)
  go_ret
  exact ⟨ret_bool hb.out, rfl⟩
set_option maxHeartbeats 400000 in
theorem with_any (m i : Int) (w : World) (m0 : 0 ≤ m) (m1 : m ≤ 18446744073709551615) :
    Calls Tryd.prog 33 #[.int .u64 m, .int .i64 i] w fun e w' => e = .returned (.int .u64 (MM.withI m i)) ∧ w = w' := by
  have hb := Lib.hid (MM.or_with m i m0 m1)
  go_enter Tryd.func33, Tryd.ntmps33
  go_wp2_with (go_at_call 50; refine (bit_any _ _).mono ?_; rintro e w' ⟨rfl, rfl⟩)
  go_ret
  exact ⟨ret_int hb.out, rfl⟩
set_option maxHeartbeats 400000 in
theorem without_any (m i : Int) (w : World) (m0 : 0 ≤ m) (m1 : m ≤ 18446744073709551615) :
    Calls Tryd.prog 48 #[.int .u64 m, .int .i64 i] w fun e w' => e = .returned (.int .u64 (MM.withoutI m i)) ∧ w = w' := by
  have hb := Lib.hid (MM.andNot_without m i m0 m1)
  go_enter Tryd.func48, Tryd.ntmps48
  go_wp2_with (go_at_call 50; refine (bit_any _ _).mono ?_; rintro e w' ⟨rfl, rfl⟩)
  go_ret
  exact ⟨ret_int hb.out, rfl⟩
set_option maxHeartbeats 400000 in
theorem below_any (n : Int) (w : World) (n0 : -9223372036854775808 ≤ n) (n1 : n ≤ 9223372036854775807) :
    Calls Tryd.prog 46 #[.int .i64 n] w fun e w' => e = .returned (.int .u64 (MM.belowI n)) ∧ w = w' := by
  by_cases hn : n < 64
  · by_cases hz : n ≤ 0
    · have hb := Lib.hid (MM.ones_lo n hz)
      go_enter Tryd.func46, Tryd.ntmps46
      go_wp2
      go_loop [3, 4, 7] (fun x _ k => x = .int .u64 0 ∧ k = .int .i64 0) (fun _ _ _ => 0)
      case atStart => exact ⟨rfl, rfl⟩
      case round =>
        obtain ⟨rfl, rfl⟩ := hrel
        go_wp2
        go_ret
        exact ⟨ret_int hb.out.symm, rfl⟩
    · have hz : 0 < n := by omega
      go_enter Tryd.func46, Tryd.ntmps46
      go_wp2
      go_loop [3, 4, 7] (fun x _ k => ∃ j : Nat, (j : Int) ≤ n ∧ k = .int .i64 j ∧ x = .int .u64 (MM.ones j)) (fun _ _ k => (n - intOf k).toNat)
      case atStart => exact ⟨0, by omega, rfl, rfl⟩
      case round =>
        obtain ⟨j, hj, rfl, rfl⟩ := hrel
        have hbd := MM.ones_bd j (by omega)
        by_cases hlt : (j : Int) < n
        · have hs := Lib.hid (MM.ones_succ j (by omega))
          go_wp2_with (go_at_call 33; refine (with_any _ _ _ hbd.1 hbd.2).mono ?_; rintro e w' ⟨rfl, rfl⟩)
          go_round
          case rel => exact ⟨j + 1, by omega, by go_num, by rw [hs.out]⟩
          case measure => simp [intOf]; omega
        · have hb := Lib.hid (MM.ones_mid n j (by omega) hn)
          go_wp2
          go_ret
          exact ⟨ret_int hb.out.symm, rfl⟩
  · have hb := Lib.hid (MM.ones_hi n (by omega))
    rcases (show n = 64 ∨ 64 < n by omega) with rfl | hn
    all_goals
      go_enter Tryd.func46, Tryd.ntmps46
      go_wp2
      go_loop [3, 4, 7] (fun x _ k => ∃ j : Nat, j ≤ 64 ∧ k = .int .i64 j ∧ x = .int .u64 (MM.ones j)) (fun _ _ k => (64 - intOf k).toNat)
      case atStart => exact ⟨0, by omega, rfl, rfl⟩
      case round =>
        obtain ⟨j, hj, rfl, rfl⟩ := hrel
        have hbd := MM.ones_bd j (by omega)
        by_cases hlt : j < 64
        · have hs := Lib.hid (MM.ones_succ j (by omega))
          go_wp2_with (go_at_call 33; refine (with_any _ _ _ hbd.1 hbd.2).mono ?_; rintro e w' ⟨rfl, rfl⟩)
          go_round
          case rel => exact ⟨j + 1, by omega, by go_num, by rw [hs.out]⟩
          case measure => simp [intOf]; omega
        · obtain rfl : j = 64 := by omega
          go_wp2
          go_ret
          exact ⟨ret_int hb.out.symm, rfl⟩
set_option maxHeartbeats 400000 in
theorem rhas_any (m i : Int) (w : World) (m0 : 0 ≤ m) (m1 : m ≤ 18446744073709551615) :
    Calls Tryd.prog 44 #[.int .u64 m, .int .i64 i] w fun e w' => e = .returned (.bool (MM.hasB m i)) ∧ w = w' := by
  by_cases h0 : i < 0
  · have hb := Lib.hid (MM.has_out m i (by omega))
    go_enter Tryd.func44, Tryd.ntmps44
    go_wp2
    go_ret
    exact ⟨ret_bool hb.out.symm, rfl⟩
  · by_cases h1 : i < 64
    · have h0 : 0 ≤ i := by omega
      go_enter Tryd.func44, Tryd.ntmps44
      go_wp2
      go_loop [0, 5] (fun x k => ∃ j : Nat, (j : Int) ≤ i ∧ k = .int .i64 j ∧ x = .int .u64 (MM.halve m j)) (fun _ k => (i - intOf k).toNat)
      case atStart => exact ⟨0, by omega, rfl, by rw [MM.halve_zero m m0]⟩
      case round =>
        obtain ⟨j, hj, rfl, rfl⟩ := hrel
        have hbd := MM.halve_bd m j m0 m1
        by_cases hlt : (j : Int) < i
        · go_wp2
          go_round
          case rel => exact ⟨j + 1, by omega, by go_num, by rw [MM.halve_succ]⟩
          case measure => simp [intOf]; omega
        · have hb := Lib.hid (MM.halve_has m i j (by omega) h1)
          go_wp2
          go_ret
          exact ⟨ret_bool hb.out, rfl⟩
    · have hb := Lib.hid (MM.has_out m i (by omega))
      have h0 : 0 ≤ i := by omega
      have h1 : 63 < i := by omega
      go_enter Tryd.func44, Tryd.ntmps44
      go_wp2
      go_ret
      exact ⟨ret_bool hb.out.symm, rfl⟩
set_option maxHeartbeats 400000 in
theorem rone_any (i : Int) (w : World) :
    Calls Tryd.prog 51 #[.int .i64 i] w fun e w' => e = .returned (.int .u64 (MM.bitI i)) ∧ w = w' := by
  by_cases h0 : i < 0
  · have hb := Lib.hid (MM.bitI_out (i := i) (by omega))
    go_enter Tryd.func51, Tryd.ntmps51
    go_wp2
    go_ret
    exact ⟨ret_int hb.out.symm, rfl⟩
  · by_cases h1 : i < 64
    · have h0 : 0 ≤ i := by omega
      go_enter Tryd.func51, Tryd.ntmps51
      go_wp2
      go_loop [3, 4] (fun x k => ∃ j : Nat, (j : Int) ≤ i ∧ k = .int .i64 j ∧ x = .int .u64 (MM.dbl j)) (fun _ k => (i - intOf k).toNat)
      case atStart => exact ⟨0, by omega, rfl, rfl⟩
      case round =>
        obtain ⟨j, hj, rfl, rfl⟩ := hrel
        have hbd := MM.dbl_bd j (by omega)
        by_cases hlt : (j : Int) < i
        · have hbd' := MM.dbl_bd (j + 1) (by omega)
          have hs := Lib.hid (MM.dbl_succ j)
          have hle : MM.dbl j * 2 ≤ 9223372036854775808 := by rw [hs.out]; exact hbd'.2
          clear hbd'
          go_wp2
          go_round
          case rel => exact ⟨j + 1, by omega, by go_num, by rw [hs.out]⟩
          case measure => simp [intOf]; omega
        · have hb := Lib.hid (MM.dbl_bit i j (by omega) h1)
          go_wp2
          go_ret
          exact ⟨ret_int hb.out, rfl⟩
    · have hb := Lib.hid (MM.bitI_out (i := i) (by omega))
      have h0 : 0 ≤ i := by omega
      have h1 : 63 < i := by omega
      go_enter Tryd.func51, Tryd.ntmps51
      go_wp2
      go_ret
      exact ⟨ret_int hb.out.symm, rfl⟩
set_option maxHeartbeats 400000 in
theorem rwith_any (m i : Int) (w : World) (m0 : 0 ≤ m) (m1 : m ≤ 18446744073709551615) :
    Calls Tryd.prog 52 #[.int .u64 m, .int .i64 i] w fun e w' => e = .returned (.int .u64 (MM.withI m i)) ∧ w = w' := by
  cases hh : MM.hasB m i
  · have hb := Lib.hid (MM.with_not m i hh m0)
    have hle := MM.with_sum_bd m i hh m0 m1
    have hbd := MM.bitI_bd i
    go_enter Tryd.func52, Tryd.ntmps52
    go_wp2_with (first | (go_at_call 44; refine (rhas_any _ _ _ m0 m1).mono ?_; rintro e w' ⟨rfl, rfl⟩) | (go_at_call 51; refine (rone_any _ _).mono ?_; rintro e w' ⟨rfl, rfl⟩))
    go_ret
    exact ⟨ret_int hb.out.symm, rfl⟩
  · have hb := Lib.hid (MM.with_has m i hh m0)
    go_enter Tryd.func52, Tryd.ntmps52
    go_wp2_with (go_at_call 44; refine (rhas_any _ _ _ m0 m1).mono ?_; rintro e w' ⟨rfl, rfl⟩)
    go_ret
    exact ⟨ret_int hb.out.symm, rfl⟩

end Go.Proofs.YtaaicmldldkhhaaDoor
