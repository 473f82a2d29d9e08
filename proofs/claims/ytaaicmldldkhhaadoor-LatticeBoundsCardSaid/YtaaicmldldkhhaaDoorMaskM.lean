import Derived.Laws.BitsAllLaws
namespace Go.Proofs.YtaaicmldldkhhaaDoor.MM
set_option linter.unusedVariables false

/-- the bit of i; 0: none -/
def bitI (i : Int) : Int := if 0 ≤ i ∧ i < 64 then 2 ^ i.toNat else 0
/-- is i in m? -/
def hasB (m i : Int) : Bool := decide (0 ≤ i ∧ i < 64) && m.toNat.testBit i.toNat
def withI (m i : Int) : Int := if 0 ≤ i ∧ i < 64 then ((m.toNat ||| 2 ^ i.toNat : Nat) : Int) else m
def withoutI (m i : Int) : Int := if 0 ≤ i ∧ i < 64 then ((m.toNat &&& (18446744073709551615 - 2 ^ i.toNat) : Nat) : Int) else m

theorem pow_pos64 (k : Nat) (h : k < 64) : 0 < 2 ^ k ∧ 2 ^ k ≤ 9223372036854775808 := by
  refine ⟨Nat.two_pow_pos k, ?_⟩
  have : 2 ^ k ≤ 2 ^ 63 := Nat.pow_le_pow_right (by decide) (by omega)
  exact this

theorem cast_pow (k : Nat) : ((2 : Int) ^ k) = ((2 ^ k : Nat) : Int) := by simp

theorem bitI_in {i : Int} (h0 : 0 ≤ i) (h1 : i < 64) : bitI i = ((2 ^ i.toNat : Nat) : Int) := by
  unfold bitI; rw [if_pos ⟨h0, h1⟩, cast_pow]
theorem bitI_out {i : Int} (h : ¬ (0 ≤ i ∧ i < 64)) : bitI i = 0 := by unfold bitI; rw [if_neg h]

theorem bitI_bd (i : Int) : 0 ≤ bitI i ∧ bitI i ≤ 9223372036854775808 := by
  by_cases h : 0 ≤ i ∧ i < 64
  · rw [bitI_in h.1 h.2]
    have := pow_pos64 i.toNat (by omega)
    omega
  · rw [bitI_out h]; omega

theorem wrap_pow {i : Int} (h0 : 0 ≤ i) (h1 : i < 64) : IntKind.u64.wrap (2 ^ i.toNat) = bitI i := by
  rw [bitI_in h0 h1, cast_pow, IntKind.wrap_u64]
  have := pow_pos64 i.toNat (by omega)
  omega

theorem and_has (m i : Int) (h0 : 0 ≤ m) (h1 : m ≤ 18446744073709551615) : (bits .and .u64 m (bitI i) != 0) = hasB m i := by
  unfold hasB
  have hb := bitI_bd i
  rw [u64_and m (bitI i) h0 (by omega) hb.1 (by omega)]
  by_cases h : 0 ≤ i ∧ i < 64
  · rw [bitI_in h.1 h.2, decide_eq_true h, Bool.true_and, Int.toNat_natCast, nat_bit]
    have hp := (pow_pos64 i.toNat (by omega)).1
    rw [Nat.testBit_eq_decide_div_mod_eq]
    by_cases hm : m.toNat / 2 ^ i.toNat % 2 = 1
    · rw [hm, decide_eq_true rfl]
      have : ((1 * 2 ^ i.toNat : Nat) : Int) ≠ 0 := by omega
      rw [bne_iff_ne]; exact this
    · have hz : m.toNat / 2 ^ i.toNat % 2 = 0 := by omega
      rw [hz]; simp
  · rw [bitI_out h, decide_eq_false h]; simp

theorem or_with (m i : Int) (h0 : 0 ≤ m) (h1 : m ≤ 18446744073709551615) : bits .or .u64 m (bitI i) = withI m i := by
  unfold withI
  have hb := bitI_bd i
  rw [u64_or m (bitI i) h0 (by omega) hb.1 (by omega)]
  by_cases h : 0 ≤ i ∧ i < 64
  · rw [bitI_in h.1 h.2, if_pos h, Int.toNat_natCast]
  · rw [bitI_out h, if_neg h]; simp; omega

theorem andNot_without (m i : Int) (h0 : 0 ≤ m) (h1 : m ≤ 18446744073709551615) : bits .andNot .u64 m (bitI i) = withoutI m i := by
  unfold withoutI
  have hb := bitI_bd i
  rw [u64_andNot m (bitI i) h0 (by omega) hb.1 (by omega)]
  by_cases h : 0 ≤ i ∧ i < 64
  · rw [bitI_in h.1 h.2, if_pos h, Int.toNat_natCast]
  · rw [bitI_out h, if_neg h]
    have hm : m.toNat < 2 ^ 64 := by omega
    have := Nat.and_two_pow_sub_one_of_lt_two_pow hm
    simp at this ⊢
    rw [this]; omega

theorem withI_bd (m i : Int) (h0 : 0 ≤ m) (h1 : m ≤ 18446744073709551615) : 0 ≤ withI m i ∧ withI m i ≤ 18446744073709551615 := by
  unfold withI
  by_cases h : 0 ≤ i ∧ i < 64
  · rw [if_pos h]
    have hp := pow_pos64 i.toNat (by omega)
    have : m.toNat ||| 2 ^ i.toNat < 2 ^ 64 := Nat.or_lt_two_pow (by omega) (by omega)
    omega
  · rw [if_neg h]; omega

theorem withoutI_bd (m i : Int) (h0 : 0 ≤ m) (h1 : m ≤ 18446744073709551615) : 0 ≤ withoutI m i ∧ withoutI m i ≤ 18446744073709551615 := by
  unfold withoutI
  by_cases h : 0 ≤ i ∧ i < 64
  · rw [if_pos h]
    have : m.toNat &&& (18446744073709551615 - 2 ^ i.toNat) ≤ m.toNat := Nat.and_le_left
    omega
  · rw [if_neg h]; omega
end Go.Proofs.YtaaicmldldkhhaaDoor.MM
