import Derived.Test.YtgbbkgmimcomkabDoorBase
/-! the walks of layer 4's reference: size, quotient, rest -/
namespace Go.Proofs.YtgbbkgmimcomkabDoor
set_option linter.unusedVariables false
open Go.RowKit

theorem wrap_u (x : Int) : wrap64 (IntKind.u64.wrap x) = wrap64 x := by rw [IntKind.wrap_u64]; unfold wrap64; omega
theorem wrap_nu (x : Int) : wrap64 (IntKind.u64.wrap (-IntKind.u64.wrap x)) = wrap64 (-x) := by rw [IntKind.wrap_u64, IntKind.wrap_u64]; unfold wrap64; omega
theorem size_neg (a : Int) (h0 : -9223372036854775808 ≤ a) (hn : a < 0) : IntKind.u64.wrap (-IntKind.u64.wrap a) = (a.natAbs : Int) := by
  rw [IntKind.wrap_u64, IntKind.wrap_u64]; omega
/-- the quotient cut towards 0, by sizes -/
theorem tdiv_same (a b : Int) (h : a < 0 ↔ b < 0) : a.tdiv b = (a.natAbs : Int) / (b.natAbs : Int) := by
  by_cases ha : a < 0
  · have hb := h.1 ha
    obtain ⟨A, rfl⟩ : ∃ A : Nat, a = -(A : Int) := ⟨a.natAbs, by omega⟩
    obtain ⟨B, rfl⟩ : ∃ B : Nat, b = -(B : Int) := ⟨b.natAbs, by omega⟩
    rw [Int.neg_tdiv, Int.tdiv_neg, Int.neg_neg]; simp
  · have hb : ¬ b < 0 := fun e => ha (h.2 e)
    obtain ⟨A, rfl⟩ : ∃ A : Nat, a = (A : Int) := ⟨a.natAbs, by omega⟩
    obtain ⟨B, rfl⟩ : ∃ B : Nat, b = (B : Int) := ⟨b.natAbs, by omega⟩
    simp
theorem tdiv_other (a b : Int) (h : ¬ (a < 0 ↔ b < 0)) : a.tdiv b = -((a.natAbs : Int) / (b.natAbs : Int)) := by
  by_cases ha : a < 0
  · have hb : ¬ b < 0 := fun e => h ⟨fun _ => e, fun _ => ha⟩
    obtain ⟨A, rfl⟩ : ∃ A : Nat, a = -(A : Int) := ⟨a.natAbs, by omega⟩
    obtain ⟨B, rfl⟩ : ∃ B : Nat, b = (B : Int) := ⟨b.natAbs, by omega⟩
    rw [Int.neg_tdiv]; simp
  · have hb : b < 0 := by
      rcases Int.lt_or_le b 0 with e | e
      · exact e
      · exact absurd ⟨fun x => absurd x ha, fun x => absurd x (by omega)⟩ h
    obtain ⟨A, rfl⟩ : ∃ A : Nat, a = (A : Int) := ⟨a.natAbs, by omega⟩
    obtain ⟨B, rfl⟩ : ∃ B : Nat, b = -(B : Int) := ⟨b.natAbs, by omega⟩
    rw [Int.tdiv_neg]; simp
theorem tmod_pos (a b : Int) (h : ¬ a < 0) : a.tmod b = (a.natAbs : Int) % (b.natAbs : Int) := by
  obtain ⟨A, rfl⟩ : ∃ A : Nat, a = (A : Int) := ⟨a.natAbs, by omega⟩
  by_cases hb : b < 0
  · obtain ⟨B, rfl⟩ : ∃ B : Nat, b = -(B : Int) := ⟨b.natAbs, by omega⟩
    rw [Int.tmod_neg, Int.tmod_eq_emod_of_nonneg (by omega)]; simp
  · obtain ⟨B, rfl⟩ : ∃ B : Nat, b = (B : Int) := ⟨b.natAbs, by omega⟩
    rw [Int.tmod_eq_emod_of_nonneg (by omega)]; simp
theorem tmod_neg' (a b : Int) (h : a < 0) : a.tmod b = -((a.natAbs : Int) % (b.natAbs : Int)) := by
  obtain ⟨A, rfl⟩ : ∃ A : Nat, a = -(A : Int) := ⟨a.natAbs, by omega⟩
  rw [Int.neg_tmod, tmod_pos (A : Int) b (by omega)]; simp

end Go.Proofs.YtgbbkgmimcomkabDoor
