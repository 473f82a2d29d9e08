import Derived.Test.YtaaicmldldkhhaaDoorMaskL
import Derived.Lib.TrailingZeros
/-! plain: going through a set by its lowest number; the table that finds it -/
namespace Go.Proofs.YtaaicmldldkhhaaDoor.MM
set_option linter.unusedVariables false

theorem hi_bit (m k j : Nat) : (m / 2 ^ k * 2 ^ k).testBit j = (decide (k ≤ j) && m.testBit j) := by
  rw [Nat.testBit_mul_two_pow]
  by_cases h : k ≤ j
  · rw [Nat.testBit_div_two_pow, Nat.sub_add_cancel h]
  · simp [h]
theorem hi_next (m k : Nat) (hm : m < 2 ^ 64) (hne : m / 2 ^ k * 2 ^ k ≠ 0) :
    k ≤ Lib.ctz 64 (m / 2 ^ k * 2 ^ k) ∧ Lib.ctz 64 (m / 2 ^ k * 2 ^ k) < 64 ∧ m.testBit (Lib.ctz 64 (m / 2 ^ k * 2 ^ k)) = true ∧
    (∀ j, k ≤ j → j < Lib.ctz 64 (m / 2 ^ k * 2 ^ k) → m.testBit j = false) ∧
    (m / 2 ^ k * 2 ^ k) &&& (m / 2 ^ k * 2 ^ k - 1) = m / 2 ^ (Lib.ctz 64 (m / 2 ^ k * 2 ^ k) + 1) * 2 ^ (Lib.ctz 64 (m / 2 ^ k * 2 ^ k) + 1) := by
  have hL : ∀ j, (m / 2 ^ k * 2 ^ k).testBit j = (decide (k ≤ j) && m.testBit j) := hi_bit m k
  have hlt : m / 2 ^ k * 2 ^ k < 2 ^ 64 := Nat.lt_of_le_of_lt (Nat.div_mul_le_self _ _) hm
  generalize m / 2 ^ k * 2 ^ k = L at *
  unfold Lib.ctz
  rw [if_neg hne]
  obtain ⟨q, hq, ht⟩ := Lib.ctzFrom_spec 64 L (by omega) hlt
  generalize Lib.ctzFrom 64 L = t at *
  have hb : ∀ j, L.testBit j = (decide (t ≤ j) && (2 * q + 1).testBit (j - t)) := by
    intro j; rw [hq, Nat.mul_comm, Nat.testBit_mul_two_pow]
  have h1 : L.testBit t = true := by rw [hb]; simp
  have h1' := h1
  rw [hL, Bool.and_eq_true, decide_eq_true_eq] at h1'
  have hp : 0 < 2 ^ t := Nat.two_pow_pos t
  have hno : ∀ j, k ≤ j → j < t → m.testBit j = false := by
    intro j hk hj
    have h2 := hb j
    rw [hL, decide_eq_true hk, Bool.true_and, decide_eq_false (show ¬ t ≤ j by omega), Bool.false_and] at h2
    exact h2
  refine ⟨h1'.1, ht, h1'.2, hno, ?_⟩
  have e1 : L - 1 = 2 ^ t * (2 * q) + (2 ^ t - 1) := by rw [hq, Nat.mul_add, Nat.mul_one]; omega
  apply Nat.eq_of_testBit_eq
  intro j
  rw [Nat.testBit_and, hi_bit, e1, Nat.testBit_two_pow_mul_add _ (by omega)]
  by_cases hj : j < t
  · rw [hb j, decide_eq_false (show ¬ t ≤ j by omega), decide_eq_false (show ¬ t + 1 ≤ j by omega)]; simp
  · rw [if_neg hj]
    by_cases he : j = t
    · subst he
      rw [decide_eq_false (show ¬ j + 1 ≤ j by omega)]
      simp
    · obtain ⟨d, hd⟩ : ∃ d, j - t = d + 1 := ⟨j - t - 1, by omega⟩
      have h3 := hb j
      rw [hL j, decide_eq_true (show k ≤ j by omega), decide_eq_true (show t ≤ j by omega), Bool.true_and, Bool.true_and, hd, Nat.testBit_succ] at h3
      rw [hL j, decide_eq_true (show k ≤ j by omega), decide_eq_true (show t + 1 ≤ j by omega)]
      simp only [Bool.true_and]
      rw [hd, Nat.testBit_succ, h3]
      rw [show (2 * q + 1) / 2 = q by omega, show 2 * q / 2 = q by omega, Bool.and_self]

theorem upto_skip (m : Int) (k t : Nat) (h : k ≤ t) (hno : ∀ j : Nat, k ≤ j → j < t → hasB m (j : Int) = false) : upto m t = upto m k := by
  obtain ⟨d, rfl⟩ : ∃ d, t = k + d := ⟨t - k, by omega⟩
  clear h
  induction d with
  | zero => rfl
  | succ d ih =>
    rw [show k + (d + 1) = (k + d) + 1 from rfl, upto_no _ _ (hno (k + d) (by omega) (by omega))]
    exact ih fun j h1 h2 => hno j h1 (by omega)
theorem low_next (m : Int) (k X : Nat) (h0 : 0 ≤ m) (h1 : m ≤ 18446744073709551615) (hX : m.toNat / 2 ^ k * 2 ^ k = X) (hne : X ≠ 0) :
    X < 18446744073709551616 ∧ ∃ t Y : Nat, Lib.ctz 64 X = t ∧ k ≤ t ∧ t < 64 ∧ hasB m (t : Int) = true ∧ upto m (t + 1) = upto m k ++ [t] ∧ bits .and .u64 (X : Int) ((X : Int) - 1) = (Y : Int) ∧ Y < X ∧ m.toNat / 2 ^ (t + 1) * 2 ^ (t + 1) = Y := by
  have hle := Nat.div_mul_le_self m.toNat (2 ^ k)
  rw [hX] at hle
  obtain ⟨a1, a2, a3, a4, a5⟩ := hi_next m.toNat k (by omega) (by rw [hX]; exact hne)
  rw [hX] at a1 a2 a3 a4 a5
  have hle2 : X &&& (X - 1) ≤ X - 1 := Nat.and_le_right
  have a6 : hasB m ((Lib.ctz 64 X : Nat) : Int) = true := by unfold hasB; rw [decide_eq_true (show 0 ≤ ((Lib.ctz 64 X : Nat) : Int) ∧ ((Lib.ctz 64 X : Nat) : Int) < 64 by omega), Bool.true_and, Int.toNat_natCast]; exact a3
  refine ⟨by omega, _, _, rfl, a1, a2, a6, ?_, ?_, ?_, a5.symm⟩
  · rw [upto_yes m _ a6]
    rw [upto_skip m k _ a1 fun j h1 h2 => by unfold hasB; rw [Int.toNat_natCast, a4 j h1 h2, Bool.and_false]]
  · rw [u64_and _ _ (by omega) (by omega) (by omega) (by omega)]
    congr 2
    omega
  · omega
theorem low_end (m : Int) (k : Nat) (hk : k ≤ 64) (he : m.toNat / 2 ^ k * 2 ^ k = 0) : bitsOf m = upto m k := by
  refine upto_skip m k 64 hk fun j h1 h2 => ?_
  have := hi_bit m.toNat k j
  rw [he, decide_eq_true h1, Bool.true_and, Nat.zero_testBit] at this
  unfold hasB
  rw [Int.toNat_natCast, ← this, Bool.and_false]
theorem low_start (m : Int) (h : 0 ≤ m) : Value.int .u64 m = .int .u64 ((m.toNat / 2 ^ 0 * 2 ^ 0 : Nat) : Int) := by
  rw [Nat.pow_zero, Nat.div_one, Nat.mul_one, show ((m.toNat : Nat) : Int) = m by omega]
end Go.Proofs.YtaaicmldldkhhaaDoor.MM
