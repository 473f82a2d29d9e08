import Derived.Test.YtgbbkgmimcomkabDoorArithR
/-! the walks of layer 4's reference: shifted -/
namespace Go.Proofs.YtgbbkgmimcomkabDoor
set_option linter.unusedVariables false
open Go.RowKit

theorem wf_i64_mk {a : Int} (h0 : -9223372036854775808 ≤ a) (h1 : a ≤ 9223372036854775807) : (Lit.int .i64 a).wf = true := by
  simp only [Lit.wf, Bool.and_eq_true, decide_eq_true_eq]; exact ⟨h0, h1⟩
theorem shl_step (x : Int) : wrap64 (IntKind.u64.wrap (IntKind.u64.wrap (wrap64 x) * 2)) = wrap64 (x * 2) := by
  rw [IntKind.wrap_u64, IntKind.wrap_u64]; unfold wrap64; omega
theorem shl_pow (a : Int) (k : Nat) : a * 2 ^ k * 2 = a * 2 ^ (k + 1) := by rw [Int.pow_succ, Int.mul_assoc]
theorem shr_pow (a : Int) (k : Nat) : a / 2 ^ (k + 1) = a / 2 ^ k / 2 := by
  have hp : (0 : Int) ≤ 2 ^ k := Int.le_of_lt (Int.pow_pos (by decide))
  rw [Int.pow_succ]
  first | exact (Int.ediv_ediv_of_nonneg hp).symm | exact (Int.ediv_ediv hp).symm | exact (Int.ediv_ediv hp 2).symm
theorem floor_two (x : Int) : x / 2 = if x < 0 ∧ x.tmod 2 ≠ 0 then x.tdiv 2 - 1 else x.tdiv 2 := by
  by_cases h : x < 0
  · obtain ⟨n, rfl⟩ : ∃ n : Nat, x = -(n : Int) := ⟨x.natAbs, by omega⟩
    have e1 : (-(n : Int)).tdiv 2 = -((n / 2 : Nat) : Int) := by rw [Int.neg_tdiv]; rfl
    have e2 : (-(n : Int)).tmod 2 = -((n % 2 : Nat) : Int) := by rw [Int.neg_tmod]; rfl
    rw [e1, e2]
    split <;> omega
  · obtain ⟨n, rfl⟩ : ∃ n : Nat, x = (n : Int) := ⟨x.toNat, by omega⟩
    rw [if_neg (fun e => h e.1)]; rfl
theorem shr_bd (a : Int) (k : Nat) (h0 : -9223372036854775808 ≤ a) (h1 : a ≤ 9223372036854775807) : -9223372036854775808 ≤ a / 2 ^ k ∧ a / 2 ^ k ≤ 9223372036854775807 := by
  induction k with
  | zero => simp; exact ⟨h0, h1⟩
  | succ k ih => rw [shr_pow]; omega

end Go.Proofs.YtgbbkgmimcomkabDoor
