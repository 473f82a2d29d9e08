import Derived.Test.YtgbbkgmimcomkabDoorArithS
import Derived.Test.YtgbbkgmimcomkabDoorMaskM
/-! the walks of layer 4's reference: bit, bits -/
namespace Go.Proofs.YtgbbkgmimcomkabDoor
set_option linter.unusedVariables false
open Go.RowKit

/-- the bits of a number that goes round -/
def U (a : Int) : Nat := (IntKind.u64.wrap a).toNat
theorem U_eq (a : Int) : IntKind.u64.wrap a = (U a : Int) ∧ U a < 18446744073709551616 := by
  unfold U; rw [IntKind.wrap_u64]; omega
theorem and_bit (a : Int) (i : Nat) (hi : i < 64) : bits .and .u64 (IntKind.u64.wrap a / 2 ^ i) 1 = (((U a).testBit i).toNat : Int) := by
  obtain ⟨h, hl⟩ := U_eq a
  rw [h, MM.cast_pow, ← Int.natCast_ediv, show (1 : Int) = ((1 : Nat) : Int) from rfl]
  have hd : U a / 2 ^ i ≤ U a := Nat.div_le_self _ _
  rw [u64_and_nat _ _ (by omega) (by decide), Nat.and_one_is_mod, Nat.testBit_eq_decide_div_mod_eq]
  by_cases hm : U a / 2 ^ i % 2 = 1
  · rw [hm]; rfl
  · rw [show U a / 2 ^ i % 2 = 0 by omega]; rfl

def fB (op : Nat) (x y : Bool) : Bool := if op = 7 then x || y else if op = 8 then x != y else x && y
def opN (op a b : Nat) : Nat := if op = 7 then a ||| b else if op = 8 then a ^^^ b else a &&& b
/-- the first k bits are put together in n -/
def Part (op a b k n : Nat) : Prop := n < 2 ^ k ∧ ∀ j, j < k → n.testBit j = fB op (a.testBit j) (b.testBit j)
theorem Part.start (op a b : Nat) : Part op a b 0 0 := ⟨by decide, fun j hj => absurd hj (by omega)⟩
theorem Part.no {op a b k n : Nat} (h : Part op a b k n) (hf : fB op (a.testBit k) (b.testBit k) = false) : Part op a b (k + 1) n := by
  refine ⟨Nat.lt_of_lt_of_le h.1 (Nat.pow_le_pow_right (by decide) (by omega)), fun j hj => ?_⟩
  by_cases e : j = k
  · subst e; rw [hf, Nat.testBit_lt_two_pow h.1]
  · exact h.2 j (by omega)
theorem Part.yes {op a b k n : Nat} (h : Part op a b k n) (hf : fB op (a.testBit k) (b.testBit k) = true) : Part op a b (k + 1) (n ||| 2 ^ k) := by
  refine ⟨Nat.or_lt_two_pow (Nat.lt_of_lt_of_le h.1 (Nat.pow_le_pow_right (by decide) (by omega))) (Nat.pow_lt_pow_right (by decide) (by omega)), fun j hj => ?_⟩
  rw [Nat.testBit_or, Nat.testBit_two_pow]
  by_cases e : j = k
  · subst e; rw [hf]; simp
  · rw [h.2 j (by omega), decide_eq_false (fun e' => e e'.symm), Bool.or_false]
theorem Part.stop {op a b n : Nat} (ha : a < 18446744073709551616) (hb : b < 18446744073709551616) (h : Part op a b 64 n) : n = opN op a b := by
  apply Nat.eq_of_testBit_eq
  intro j
  by_cases hj : j < 64
  · rw [h.2 j hj]
    unfold opN fB
    split
    · rw [Nat.testBit_or]
    · split
      · rw [Nat.testBit_xor]
      · rw [Nat.testBit_and]
  · have hp : (2 : Nat) ^ 64 ≤ 2 ^ j := Nat.pow_le_pow_right (by decide) (by omega)
    have h64 : (2 : Nat) ^ 64 = 18446744073709551616 := by decide
    have hz : ∀ x, x < 2 ^ 64 → x.testBit j = false := fun x hx => Nat.testBit_lt_two_pow (Nat.lt_of_lt_of_le hx hp)
    rw [hz n h.1, hz]
    unfold opN
    split
    · exact Nat.or_lt_two_pow (by omega) (by omega)
    · split
      · exact Nat.xor_lt_two_pow (by omega) (by omega)
      · exact Nat.lt_of_le_of_lt Nat.and_le_left (by omega)

theorem or_pow (n k : Nat) (hk : k < 64) (hn : n < 2 ^ k) : bits .or .u64 (n : Int) (IntKind.u64.wrap (2 ^ k)) = ((n ||| 2 ^ k : Nat) : Int) := by
  have hp := MM.pow_pos64 k hk
  rw [MM.cast_pow, IntKind.wrap_u64, show (((2 ^ k : Nat) : Int) % 18446744073709551616) = ((2 ^ k : Nat) : Int) by omega]
  exact u64_or_nat _ _ (by omega) (by omega)

end Go.Proofs.YtgbbkgmimcomkabDoor
