import Derived.Test.YtodhoplchficpaaDoorMaskG
/-! plain: what holds of a set's numbers -/
namespace Go.Proofs.YtodhoplchficpaaDoor.MM
set_option linter.unusedVariables false

theorem hasB_nat (m : Int) (k : Nat) (h : k < 64) : hasB m (k : Int) = m.toNat.testBit k := by
  unfold hasB; rw [decide_eq_true (show 0 ≤ (k : Int) ∧ (k : Int) < 64 by omega)]; simp

theorem not_bit (i j : Nat) (hj : j < 64) (hi : i < 64) : (18446744073709551615 - 2 ^ i).testBit j = !decide (i = j) := by
  have hp := pow_pos64 i hi
  rw [show 18446744073709551615 - 2 ^ i = 2 ^ 64 - (2 ^ i + 1) from by omega, Nat.testBit_two_pow_sub_succ (by omega), Nat.testBit_two_pow]
  simp [hj]

theorem has_with (m i : Int) (h0 : 0 ≤ m) (h1 : m ≤ 18446744073709551615) (hi : 0 ≤ i ∧ i < 64) : hasB (withI m i) i = true := by
  unfold hasB withI
  rw [decide_eq_true hi, if_pos hi, Int.toNat_natCast, Nat.testBit_or, Nat.testBit_two_pow]; simp
theorem has_without (m i : Int) (h0 : 0 ≤ m) (h1 : m ≤ 18446744073709551615) (hi : 0 ≤ i ∧ i < 64) : hasB (withoutI m i) i = false := by
  unfold hasB withoutI
  rw [decide_eq_true hi, if_pos hi, Int.toNat_natCast, Nat.testBit_and, not_bit _ _ (by omega) (by omega)]; simp
theorem without_with (m i : Int) (h0 : 0 ≤ m) (h1 : m ≤ 18446744073709551615) (hi : 0 ≤ i ∧ i < 64) : withoutI (withI m i) i = withoutI m i := by
  unfold withoutI withI
  rw [if_pos hi, if_pos hi, if_pos hi, Int.toNat_natCast]
  congr 1
  apply Nat.eq_of_testBit_eq; intro j
  rw [Nat.testBit_and, Nat.testBit_and, Nat.testBit_or, Nat.testBit_two_pow]
  by_cases hj : j < 64
  · rw [not_bit _ _ hj (by omega)]
    by_cases e : i.toNat = j <;> simp [e]
  · have hne : ¬ i.toNat = j := by omega
    simp [hne]

/-- the set that the first k numbers of m make -/
theorem fold_upto (m : Int) (k : Nat) (hk : k ≤ 64) : (foldW (uptoI m k)).toNat = m.toNat % 2 ^ k ∧ allIn (uptoI m k) = true := by
  induction k with
  | zero => exact ⟨by rw [Nat.pow_zero, Nat.mod_one]; rfl, rfl⟩
  | succ k ih =>
    obtain ⟨e, ha⟩ := ih (by omega)
    have hb := foldW_bd (uptoI m k)
    have hs : m.toNat % 2 ^ (k + 1) = m.toNat % 2 ^ k + 2 ^ k * (m.toNat / 2 ^ k % 2) := by rw [Nat.pow_succ, Nat.mod_mul]
    have hlt : m.toNat % 2 ^ k < 2 ^ k := Nat.mod_lt _ (Nat.two_pow_pos k)
    have ht := hasB_nat m k (by omega)
    rw [Nat.testBit_eq_decide_div_mod_eq] at ht
    cases hh : hasB m (k : Int)
    · rw [hh] at ht
      have := of_decide_eq_false ht.symm
      rw [uptoI_no m k hh]
      refine ⟨?_, ha⟩
      rw [e, hs, show m.toNat / 2 ^ k % 2 = 0 by omega]; simp
    · rw [hh] at ht
      have h1 := of_decide_eq_true ht.symm
      rw [uptoI_yes m k hh, foldW_snoc]
      refine ⟨?_, by rw [allIn_snoc, ha, decide_eq_true (show 0 ≤ (k : Int) ∧ (k : Int) < 64 by omega)]; rfl⟩
      unfold withI
      rw [if_pos (by omega), Int.toNat_natCast, Int.toNat_natCast, e, hs, h1, Nat.mul_one]
      have := Nat.two_pow_add_eq_or_of_lt hlt 1
      rw [Nat.mul_one] at this
      rw [Nat.or_comm, ← this, Nat.add_comm]
theorem ofM_bits (m : Int) (h0 : 0 ≤ m) (h1 : m ≤ 18446744073709551615) : ofM (bitsI m) = m ∧ allIn (bitsI m) = true := by
  obtain ⟨e, ha⟩ := fold_upto m 64 (Nat.le_refl _)
  refine ⟨?_, ha⟩
  have hb := foldW_bd (bitsI m)
  have hm : m.toNat % 2 ^ 64 = m.toNat := Nat.mod_eq_of_lt (by omega)
  rw [ofM_yes (bitsI m) ha]
  have : (foldW (bitsI m)).toNat = m.toNat := e.trans hm
  omega

/-- how many are below k -/
theorem count_succ (m : Int) (k : Nat) (hk : k < 64) : (upto m (k + 1)).length = (upto m k).length + (m.toNat.testBit k).toNat := by
  have ht := hasB_nat m k hk
  cases hh : hasB m (k : Int)
  · rw [upto_no m k hh, ← ht, hh]; simp
  · rw [upto_yes m k hh, ← ht, hh]; simp
theorem count_or_and (a b : Nat) (k : Nat) (hk : k ≤ 64) :
    (upto (a : Int) k).length + (upto (b : Int) k).length = (upto ((a ||| b : Nat) : Int) k).length + (upto ((a &&& b : Nat) : Int) k).length := by
  induction k with
  | zero => rfl
  | succ k ih =>
    have := ih (by omega)
    rw [count_succ _ k (by omega), count_succ _ k (by omega), count_succ _ k (by omega), count_succ _ k (by omega)]
    simp only [Int.toNat_natCast, Nat.testBit_or, Nat.testBit_and]
    cases a.testBit k <;> cases b.testBit k <;> simp <;> omega
theorem count_not (a c : Nat) (hc : ∀ k, k < 64 → c.testBit k = !a.testBit k) (k : Nat) (hk : k ≤ 64) : (upto (c : Int) k).length + (upto (a : Int) k).length = k := by
  induction k with
  | zero => rfl
  | succ k ih =>
    have := ih (by omega)
    rw [count_succ _ k (by omega), count_succ _ k (by omega)]
    simp only [Int.toNat_natCast]
    rw [hc k (by omega)]
    cases a.testBit k <;> simp <;> omega
theorem not_bits (a : Nat) (ha : a < 2 ^ 64) : ∀ k, k < 64 → (18446744073709551615 - a).testBit k = !a.testBit k := by
  intro k hk
  rw [show 18446744073709551615 - a = 2 ^ 64 - (a + 1) from by omega, Nat.testBit_two_pow_sub_succ ha]
  simp [hk]
theorem below_mono (n : Int) (h : 0 ≤ n ∧ n ≤ 64) : belowI n ≤ belowI 64 := by
  unfold belowI
  rw [if_neg (show ¬ (64 : Int) < 64 by omega)]
  by_cases hn : n < 64
  · rw [if_pos hn]; unfold ones
    have : 2 ^ n.toNat ≤ 2 ^ 64 := Nat.pow_le_pow_right (by decide) (by omega)
    omega
  · rw [if_neg hn]; exact Int.le_refl _
theorem or_and_sum (a b : Int) (a0 : 0 ≤ a) (a1 : a ≤ 18446744073709551615) (b0 : 0 ≤ b) (b1 : b ≤ 18446744073709551615) :
    (bitsOf a).length + (bitsOf b).length = (bitsOf (bits .or .u64 a b)).length + (bitsOf (bits .and .u64 a b)).length := by
  rw [u64_or a b a0 (by omega) b0 (by omega), u64_and a b a0 (by omega) b0 (by omega)]
  have := count_or_and a.toNat b.toNat 64 (Nat.le_refl _)
  rw [Int.toNat_of_nonneg a0, Int.toNat_of_nonneg b0] at this
  exact this
theorem or_bd (a b : Int) (a0 : 0 ≤ a) (a1 : a ≤ 18446744073709551615) (b0 : 0 ≤ b) (b1 : b ≤ 18446744073709551615) : 0 ≤ bits .or .u64 a b ∧ bits .or .u64 a b ≤ 18446744073709551615 := by
  rw [u64_or a b a0 (by omega) b0 (by omega)]
  have : a.toNat ||| b.toNat < 2 ^ 64 := Nat.or_lt_two_pow (by omega) (by omega)
  omega
theorem and_bd (a b : Int) (a0 : 0 ≤ a) (a1 : a ≤ 18446744073709551615) (b0 : 0 ≤ b) (b1 : b ≤ 18446744073709551615) : 0 ≤ bits .and .u64 a b ∧ bits .and .u64 a b ≤ 18446744073709551615 := by
  rw [u64_and a b a0 (by omega) b0 (by omega)]
  have : a.toNat &&& b.toNat ≤ a.toNat := Nat.and_le_left
  omega
theorem not_sum (a : Int) (a0 : 0 ≤ a) (a1 : a ≤ 18446744073709551615) : (bitsOf (18446744073709551615 - a)).length + (bitsOf a).length = 64 := by
  have := count_not a.toNat (18446744073709551615 - a.toNat) (not_bits a.toNat (by omega)) 64 (Nat.le_refl _)
  rw [Int.toNat_of_nonneg a0, show ((18446744073709551615 - a.toNat : Nat) : Int) = 18446744073709551615 - a by omega] at this
  exact this
theorem xor_not (a : Int) (a0 : 0 ≤ a) (a1 : a ≤ 18446744073709551615) : bits .xor .u64 IntKind.u64.max a = 18446744073709551615 - a := by
  have hm : IntKind.u64.max = 18446744073709551615 := by decide
  rw [hm, u64_xor _ a (by omega) (by omega) a0 (by omega)]
  have : (18446744073709551615 : Int).toNat ^^^ a.toNat = 18446744073709551615 - a.toNat := by
    apply Nat.eq_of_testBit_eq; intro j
    rw [Nat.testBit_xor]
    have e : (18446744073709551615 : Int).toNat = 2 ^ 64 - 1 := rfl
    rw [e, Nat.testBit_two_pow_sub_one]
    by_cases hj : j < 64
    · rw [not_bits a.toNat (by omega) j hj]; simp [hj]
    · have h1 : a.toNat.testBit j = false := Nat.testBit_lt_two_pow (Nat.lt_of_lt_of_le (show a.toNat < 2 ^ 64 by omega) (Nat.pow_le_pow_right (by decide) (by omega)))
      have h2 : (18446744073709551615 - a.toNat).testBit j = false := Nat.testBit_lt_two_pow (Nat.lt_of_lt_of_le (show 18446744073709551615 - a.toNat < 2 ^ 64 by omega) (Nat.pow_le_pow_right (by decide) (by omega)))
      rw [h1, h2]; simp [hj]
  rw [this]; omega
end Go.Proofs.YtodhoplchficpaaDoor.MM
