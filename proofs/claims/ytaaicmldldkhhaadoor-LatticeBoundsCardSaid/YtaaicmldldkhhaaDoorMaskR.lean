import Derived.Test.YtaaicmldldkhhaaDoorMaskM
/-! plain: the reference's loops over numbers -/
namespace Go.Proofs.YtaaicmldldkhhaaDoor.MM
set_option linter.unusedVariables false

/-- m halved k times -/
def halve (m : Int) (k : Nat) : Int := ((m.toNat / 2 ^ k : Nat) : Int)
theorem halve_zero (m : Int) (h : 0 ≤ m) : halve m 0 = m := by unfold halve; simp; omega
theorem halve_succ (m : Int) (k : Nat) : halve m k / 2 = halve m (k + 1) := by
  unfold halve
  rw [Nat.pow_succ, ← Nat.div_div_eq_div_mul]
  omega
theorem halve_bd (m : Int) (k : Nat) (h0 : 0 ≤ m) (h1 : m ≤ 18446744073709551615) : 0 ≤ halve m k ∧ halve m k ≤ 18446744073709551615 := by
  unfold halve
  have : m.toNat / 2 ^ k ≤ m.toNat := Nat.div_le_self _ _
  generalize m.toNat / 2 ^ k = q at this
  omega
theorem halve_has (m i : Int) (k : Nat) (hk : (k : Int) = i) (hi : i < 64) : (halve m k % 2 == 1) = hasB m i := by
  subst hk
  unfold hasB halve
  rw [decide_eq_true (show 0 ≤ (k : Int) ∧ (k : Int) < 64 from ⟨by omega, hi⟩), Bool.true_and, Int.toNat_natCast, Nat.testBit_eq_decide_div_mod_eq]
  rw [Bool.eq_iff_iff, beq_iff_eq, decide_eq_true_iff]
  omega
theorem has_out (m i : Int) (h : i < 0 ∨ 63 < i) : hasB m i = false := by
  unfold hasB; rw [decide_eq_false (by omega)]; simp

/-- 1 doubled k times -/
def dbl (k : Nat) : Int := ((2 ^ k : Nat) : Int)
theorem dbl_zero : dbl 0 = 1 := rfl
theorem dbl_succ (k : Nat) : dbl k * 2 = dbl (k + 1) := by unfold dbl; rw [Nat.pow_succ]; omega
theorem dbl_bd (k : Nat) (h : k < 64) : 1 ≤ dbl k ∧ dbl k ≤ 9223372036854775808 := by
  unfold dbl; have := pow_pos64 k h; omega
theorem dbl_bit (i : Int) (k : Nat) (hk : (k : Int) = i) (h : i < 64) : dbl k = bitI i := by
  subst hk; rw [bitI_in (by omega) h]; rfl

theorem testBit_add (m k : Nat) (h : m.testBit k = false) : m ||| 2 ^ k = m + 2 ^ k := by
  rw [Nat.testBit_eq_decide_div_mod_eq] at h
  have h' := of_decide_eq_false h
  have hp := Nat.two_pow_pos k
  have hr : m % 2 ^ k < 2 ^ k := Nat.mod_lt _ hp
  have e0 : 2 ^ k * (m / 2 ^ k) + m % 2 ^ k = m := Nat.div_add_mod m (2 ^ k)
  have e1 : m / 2 ^ k = 2 * (m / 2 ^ k / 2) := by omega
  generalize m % 2 ^ k = r at hr e0
  generalize m / 2 ^ k / 2 = a at e1
  rw [e1] at e0
  have e2 : 2 ^ (k + 1) * a + r = m := by rw [Nat.pow_succ, Nat.mul_assoc]; exact e0
  have hs : 2 ^ (k + 1) = 2 ^ k * 2 := Nat.pow_succ ..
  have o1 := Nat.two_pow_add_eq_or_of_lt (i := k + 1) (b := r) (by omega) a
  have o2 := Nat.two_pow_add_eq_or_of_lt (i := k + 1) (b := 2 ^ k + r) (by omega) a
  have o3 := Nat.two_pow_add_eq_or_of_lt (i := k) (b := r) hr 1
  rw [Nat.mul_one] at o3
  rw [← e2, o1, Nat.or_assoc, Nat.or_comm r, ← o3, ← o2]
  rw [← o1]; omega
theorem with_has (m i : Int) (h : hasB m i = true) (h0 : 0 ≤ m) : withI m i = m := by
  unfold hasB at h; unfold withI
  rw [Bool.and_eq_true, decide_eq_true_iff] at h
  rw [if_pos h.1]
  have : m.toNat ||| 2 ^ i.toNat = m.toNat := by
    apply Nat.eq_of_testBit_eq; intro j
    rw [Nat.testBit_or, Nat.testBit_two_pow]
    by_cases hj : i.toNat = j
    · subst hj; rw [h.2]; simp
    · simp [hj]
  rw [this]; omega
theorem with_not (m i : Int) (h : hasB m i = false) (h0 : 0 ≤ m) : withI m i = m + bitI i := by
  unfold hasB at h; unfold withI
  by_cases hi : 0 ≤ i ∧ i < 64
  · rw [decide_eq_true hi, Bool.true_and] at h
    rw [if_pos hi, bitI_in hi.1 hi.2, testBit_add _ _ h]; omega
  · rw [if_neg hi, bitI_out hi]; omega
theorem without_not (m i : Int) (h : hasB m i = false) (h0 : 0 ≤ m) (h1 : m ≤ 18446744073709551615) : withoutI m i = m := by
  unfold hasB at h; unfold withoutI
  by_cases hi : 0 ≤ i ∧ i < 64
  · rw [decide_eq_true hi, Bool.true_and] at h
    rw [if_pos hi]
    have hp := pow_pos64 i.toNat (by omega)
    have : m.toNat &&& (18446744073709551615 - 2 ^ i.toNat) = m.toNat := by
      apply Nat.eq_of_testBit_eq; intro j
      rw [Nat.testBit_and]
      by_cases hj : j < 64
      · have e := Nat.testBit_two_pow_sub_succ (x := 2 ^ i.toNat) (n := 64) (by omega) j
        rw [show 18446744073709551615 - 2 ^ i.toNat = 2 ^ 64 - (2 ^ i.toNat + 1) from by omega, e, Nat.testBit_two_pow]
        by_cases hij : i.toNat = j
        · subst hij; rw [h]; simp
        · simp [hij, hj]
      · have : m.toNat.testBit j = false := Nat.testBit_lt_two_pow (Nat.lt_of_lt_of_le (show m.toNat < 2 ^ 64 by omega) (Nat.pow_le_pow_right (by decide) (by omega)))
        rw [this]; simp
    rw [this]; omega
  · rw [if_neg hi]
theorem without_has (m i : Int) (h : hasB m i = true) (h0 : 0 ≤ m) (h1 : m ≤ 18446744073709551615) : withoutI m i = m - bitI i := by
  unfold hasB at h; unfold withoutI
  rw [Bool.and_eq_true, decide_eq_true_iff] at h
  obtain ⟨hi, h⟩ := h
  rw [if_pos hi, bitI_in hi.1 hi.2]
  have hp := pow_pos64 i.toNat (by omega)
  have ha : (m.toNat &&& (18446744073709551615 - 2 ^ i.toNat)) + 2 ^ i.toNat = m.toNat := by
    have hb : (m.toNat &&& (18446744073709551615 - 2 ^ i.toNat)).testBit i.toNat = false := by
      rw [Nat.testBit_and, show 18446744073709551615 - 2 ^ i.toNat = 2 ^ 64 - (2 ^ i.toNat + 1) from by omega, Nat.testBit_two_pow_sub_succ (by omega), Nat.testBit_two_pow]
      simp
    rw [← testBit_add _ _ hb]
    apply Nat.eq_of_testBit_eq; intro j
    rw [Nat.testBit_or, Nat.testBit_and, Nat.testBit_two_pow]
    by_cases hij : i.toNat = j
    · subst hij; rw [h]; simp
    · by_cases hj : j < 64
      · rw [show 18446744073709551615 - 2 ^ i.toNat = 2 ^ 64 - (2 ^ i.toNat + 1) from by omega, Nat.testBit_two_pow_sub_succ (by omega), Nat.testBit_two_pow]
        simp [hij, hj]
      · have : m.toNat.testBit j = false := Nat.testBit_lt_two_pow (Nat.lt_of_lt_of_le (show m.toNat < 2 ^ 64 by omega) (Nat.pow_le_pow_right (by decide) (by omega)))
        rw [this]; simp [hij]
  omega
theorem has_le (m i : Int) (h : hasB m i = true) (h0 : 0 ≤ m) : bitI i ≤ m := by
  unfold hasB at h
  rw [Bool.and_eq_true, decide_eq_true_iff] at h
  rw [bitI_in h.1.1 h.1.2]
  have := Nat.ge_two_pow_of_testBit h.2
  omega
theorem with_sum_bd (m i : Int) (h : hasB m i = false) (h0 : 0 ≤ m) (h1 : m ≤ 18446744073709551615) : m + bitI i ≤ 18446744073709551615 := by
  rw [← with_not m i h h0]; exact (withI_bd m i h0 h1).2

/-- all from 0 to k - 1 -/
def ones (k : Nat) : Int := ((2 ^ k - 1 : Nat) : Int)
def belowI (n : Int) : Int := if n < 64 then ones n.toNat else ones 64
theorem ones_bd (k : Nat) (h : k ≤ 64) : 0 ≤ ones k ∧ ones k ≤ 18446744073709551615 := by
  unfold ones
  have : 2 ^ k ≤ 2 ^ 64 := Nat.pow_le_pow_right (by decide) h
  omega
theorem ones_succ (k : Nat) (h : k < 64) : withI (ones k) k = ones (k + 1) := by
  have hf : hasB (ones k) k = false := by
    unfold hasB ones
    rw [Int.toNat_natCast, Int.toNat_natCast, Nat.testBit_two_pow_sub_one]; simp
  rw [with_not _ _ hf (ones_bd k (by omega)).1, bitI_in (by omega) (by omega), Int.toNat_natCast]
  unfold ones
  have := Nat.two_pow_pos k
  rw [Nat.pow_succ]; omega
theorem ones_lo (n : Int) (h : n ≤ 0) : belowI n = 0 := by
  unfold belowI; rw [if_pos (by omega)]
  have : n.toNat = 0 := by omega
  rw [this]; rfl
theorem ones_mid (n : Int) (k : Nat) (h : (k : Int) = n) (h1 : n < 64) : belowI n = ones k := by
  subst h; unfold belowI; rw [if_pos h1, Int.toNat_natCast]
theorem ones_hi (n : Int) (h : 64 ≤ n) : belowI n = ones 64 := by unfold belowI; rw [if_neg (by omega)]
theorem below_three : belowI 3 = 7 := by decide
theorem has_one : hasB 1 0 = true := by decide
end Go.Proofs.YtaaicmldldkhhaaDoor.MM
