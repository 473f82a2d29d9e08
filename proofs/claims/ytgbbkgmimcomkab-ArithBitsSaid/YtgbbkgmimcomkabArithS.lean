import Derived.Test.YtgbbkgmimcomkabArithR
/-! the walks of layer 4's reference: shifted -/
namespace Go.Proofs.Ytgbbkgmimcomkab
set_option linter.unusedVariables false
open Go.RowKit

theorem wf_i64_mk {a : Int} (h0 : -9223372036854775808 ≤ a) (h1 : a ≤ 9223372036854775807) : (Lit.int .i64 a).wf = true := by
  simp only [Lit.wf, Bool.and_eq_true, decide_eq_true_eq]; exact ⟨h0, h1⟩
theorem shl_step (x : Int) : wrap64 (IntKind.u64.wrap (IntKind.u64.wrap (wrap64 x) * 2)) = wrap64 (x * 2) := by
  rw [IntKind.wrap_u64, IntKind.wrap_u64]; unfold wrap64; omega
theorem shl_pow (a : Int) (k : Nat) : a * 2 ^ k * 2 = a * 2 ^ (k + 1) := by rw [Int.pow_succ, Int.mul_assoc]
theorem shr_pow (a : Int) (k : Nat) : a / 2 ^ (k + 1) = a / 2 ^ k / 2 := by
  have hp : (0 : Int) ≤ 2 ^ k := Int.le_of_lt (Int.pow_pos (by decide))
  rw [Int.pow_succ]
  first | exact (Int.ediv_ediv_of_nonneg hp).symm | exact (Int.ediv_ediv hp).symm | exact (Int.ediv_ediv hp 2).symm
theorem floor_two (x : Int) : x / 2 = if x < 0 ∧ x.tmod 2 ≠ 0 then x.tdiv 2 - 1 else x.tdiv 2 := by
  by_cases h : x < 0
  · obtain ⟨n, rfl⟩ : ∃ n : Nat, x = -(n : Int) := ⟨x.natAbs, by omega⟩
    have e1 : (-(n : Int)).tdiv 2 = -((n / 2 : Nat) : Int) := by rw [Int.neg_tdiv]; rfl
    have e2 : (-(n : Int)).tmod 2 = -((n % 2 : Nat) : Int) := by rw [Int.neg_tmod]; rfl
    rw [e1, e2]
    split <;> omega
  · obtain ⟨n, rfl⟩ : ∃ n : Nat, x = (n : Int) := ⟨x.toNat, by omega⟩
    rw [if_neg (fun e => h e.1)]; rfl
theorem shr_bd (a : Int) (k : Nat) (h0 : -9223372036854775808 ≤ a) (h1 : a ≤ 9223372036854775807) : -9223372036854775808 ≤ a / 2 ^ k ∧ a / 2 ^ k ≤ 9223372036854775807 := by
  induction k with
  | zero => simp; exact ⟨h0, h1⟩
  | succ k ih => rw [shr_pow]; omega

set_option maxHeartbeats 800000 in
theorem rshl_any (a : Int) (n : Nat) (ha : (Lit.int .i64 a).wf = true) (hn : n < 64) (w : World) :
    Calls Try.prog 16 #[.int .i64 a, .int .i64 n, .bool true] w fun e w' => e = .returned (.int .i64 (wrap64 (a * 2 ^ n))) ∧ w' = w := by
  have HA := Lib.hid (wf_i64_bd ha)
  clear ha
  go_enter Try.func16, Try.ntmps16
  go_wp2_with fail
  go_loop [0, 7] (fun x i => ∃ k : Nat, k ≤ n ∧ i = .int .i64 (k : Int) ∧ x = .int .i64 (wrap64 (a * 2 ^ k))) (fun _ i => n - (intOf i).toNat)
  case atStart => exact ⟨0, Nat.zero_le _, rfl, by rw [Int.pow_zero, Int.mul_one, IntWalk.wrap64_in a HA.out]⟩
  case round =>
    obtain ⟨k, hk, rfl, rfl⟩ := hrel
    by_cases hlt : k < n
    · have HS := Lib.hid (shl_step (a * 2 ^ k))
      have HP := Lib.hid (shl_pow a k)
      go_wp2_with fail
      go_round
      case rel => exact ⟨k + 1, by omega, by go_num, by rw [HS.out, HP.out]⟩
      case measure => simp [intOf]; omega
    · obtain rfl : k = n := by omega
      go_wp2_with fail
      go_ret
      exact ⟨rfl, rfl⟩

set_option maxHeartbeats 800000 in
theorem rshr_any (a : Int) (n : Nat) (ha : (Lit.int .i64 a).wf = true) (hn : n < 64) (w : World) :
    Calls Try.prog 16 #[.int .i64 a, .int .i64 n, .bool false] w fun e w' => e = .returned (.int .i64 (a / 2 ^ n)) ∧ w' = w := by
  have HA := Lib.hid (wf_i64_bd ha)
  clear ha
  go_enter Try.func16, Try.ntmps16
  go_wp2_with fail
  go_loop [0, 7] (fun x i => ∃ (k : Nat) (z : Int), k ≤ n ∧ i = .int .i64 (k : Int) ∧ x = .int .i64 z ∧ RowKit.Hid (z = a / 2 ^ k)) (fun _ i => n - (intOf i).toNat)
  case atStart => exact ⟨0, a, Nat.zero_le _, rfl, rfl, by rw [Int.pow_zero, Int.ediv_one]; rfl⟩
  case round =>
    obtain ⟨k, z, hk, rfl, rfl, HZ⟩ := hrel
    by_cases hlt : k < n
    · have hb := shr_bd a k HA.out.1 HA.out.2
      rw [← HZ.out] at hb
      obtain ⟨b0, b1⟩ := hb
      have HS := Lib.hid (show (if z < 0 ∧ z.tmod 2 ≠ 0 then z.tdiv 2 - 1 else z.tdiv 2) = a / 2 ^ (k + 1) by rw [← floor_two, shr_pow, HZ.out])
      by_cases hz : z < 0
      · cases hm : (z.tmod 2 == 0)
        · have HV := Lib.hid (show z.tdiv 2 - 1 = a / 2 ^ (k + 1) by
            rw [← HS.out, if_pos ⟨hz, by rw [beq_eq_false_iff_ne] at hm; exact hm⟩])
          go_wp2_with fail
          go_round
          case rel => exact ⟨k + 1, _, by omega, by go_num, rfl, by rw [HV.out, IntWalk.wrap64_in _ (shr_bd a (k + 1) HA.out.1 HA.out.2)]; rfl⟩
          case measure => simp [intOf]; omega
        · have HV := Lib.hid (show z.tdiv 2 = a / 2 ^ (k + 1) by
            rw [← HS.out, if_neg (fun e => e.2 (beq_iff_eq.1 hm))])
          go_wp2_with fail
          go_round
          case rel => exact ⟨k + 1, _, by omega, by go_num, rfl, HV⟩
          case measure => simp [intOf]; omega
      · have HV := Lib.hid (show z.tdiv 2 = a / 2 ^ (k + 1) by rw [← HS.out, if_neg (fun e => hz e.1)])
        go_wp2_with fail
        go_round
        case rel => exact ⟨k + 1, _, by omega, by go_num, rfl, by rw [shr_pow, HZ.out]; rfl⟩
        case measure => simp [intOf]; omega
    · obtain rfl : k = n := by omega
      go_wp2_with fail
      go_ret
      exact ⟨ret_int HZ.out, rfl⟩
end Go.Proofs.Ytgbbkgmimcomkab
