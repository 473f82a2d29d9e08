import Derived.Test.YtgbbkgmimcomkabDoorArithB
/-! the walk of layer 4's reference: Do -/
namespace Go.Proofs.YtgbbkgmimcomkabDoor
set_option linter.unusedVariables false
open Go.RowKit

/-- what an operator makes of two numbers, and the number of an error -/
def doI (op a b : Int) : Int × Int :=
  if op < 1 ∨ 12 < op then (0, 1) else
  if (op = 4 ∨ op = 5) ∧ b = 0 then (0, 20) else
  if op = 1 then (wrap64 (a + b), 0) else if op = 2 then (wrap64 (a - b), 0) else if op = 3 then (wrap64 (a * b), 0) else
  if op = 4 then (wrap64 (a.tdiv b), 0) else if op = 5 then (wrap64 (a.tmod b), 0) else
  if op = 6 then (wrap64 (opN 6 (U a) (U b) : Int), 0) else if op = 7 then (wrap64 (opN 7 (U a) (U b) : Int), 0) else if op = 8 then (wrap64 (opN 8 (U a) (U b) : Int), 0) else
  if op = 9 then (wrap64 (a * 2 ^ (U b % 64)), 0) else if op = 10 then (a / 2 ^ (U b % 64), 0) else
  if op = 11 then (if a = b then 1 else 0, 0) else (if a < b then 1 else 0, 0)

theorem add_u (a b : Int) : wrap64 (IntKind.u64.wrap (IntKind.u64.wrap a + IntKind.u64.wrap b)) = wrap64 (a + b) := by
  rw [IntKind.wrap_u64, IntKind.wrap_u64, IntKind.wrap_u64]; unfold wrap64; omega
theorem sub_u (a b : Int) : wrap64 (IntKind.u64.wrap (IntKind.u64.wrap a - IntKind.u64.wrap b)) = wrap64 (a - b) := by
  rw [IntKind.wrap_u64, IntKind.wrap_u64, IntKind.wrap_u64]; unfold wrap64; omega
theorem mul_u (a b : Int) : wrap64 (IntKind.u64.wrap (IntKind.u64.wrap a * IntKind.u64.wrap b)) = wrap64 (a * b) := by
  rw [wrap_u, IntKind.wrap_u64, IntKind.wrap_u64]
  have h : (a % 18446744073709551616 * (b % 18446744073709551616)) % 18446744073709551616 = (a * b) % 18446744073709551616 := (Int.mul_emod a b _).symm
  unfold wrap64
  rw [← Int.emod_add_emod, h, Int.emod_add_emod]
theorem six_bits (b : Int) : wrap64 ((IntKind.u64.wrap b).tmod 64) = ((U b % 64 : Nat) : Int) := by
  rw [(U_eq b).1, Int.tmod_eq_emod_of_nonneg (by omega), IntWalk.wrap64_in _ (by omega)]; rfl
theorem ret_do {op a b x y : Int} (h : doI op a b = (x, y)) : Ending.returned (.tuple #[.int .i64 x, .int .i64 y]) = .returned (.tuple #[.int .i64 (doI op a b).1, .int .i64 (doI op a b).2]) := by rw [h]

end Go.Proofs.YtgbbkgmimcomkabDoor
