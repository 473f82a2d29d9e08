import Derived.Laws.BitsAllLaws
import Derived.Test.YtkoofibhddkpiaaDoorBase
import Derived.Lib.TrailingZeros
import Derived.RangeFuncBox
import Derived.Shelf.Spec.TrailingZeros
import Derived.RangeFuncNested
import Derived.RangeFuncBound
import Derived.RangeFuncCalls
import Derived.RangeFuncLeaves
import Derived.Shelf.Abstract
import Derived.Shelf.RegionOpen
import Derived.WalkKit
import Derived.OwnWalkIn
import Derived.TacticsInMore
import Derived.LoopNIn
import Derived.LoopIn
import Derived.Deep.Light
namespace Go.Proofs.YtkoofibhddkpiaaDoor.MM
set_option linter.unusedVariables false

/-- the bit of i; 0: none -/
def bitI (i : Int) : Int := if 0 ≤ i ∧ i < 64 then 2 ^ i.toNat else 0
/-- is i in m? -/
def hasB (m i : Int) : Bool := decide (0 ≤ i ∧ i < 64) && m.toNat.testBit i.toNat
def withI (m i : Int) : Int := if 0 ≤ i ∧ i < 64 then ((m.toNat ||| 2 ^ i.toNat : Nat) : Int) else m
def withoutI (m i : Int) : Int := if 0 ≤ i ∧ i < 64 then ((m.toNat &&& (18446744073709551615 - 2 ^ i.toNat) : Nat) : Int) else m

theorem pow_pos64 (k : Nat) (h : k < 64) : 0 < 2 ^ k ∧ 2 ^ k ≤ 9223372036854775808 := by
  refine ⟨Nat.two_pow_pos k, ?_⟩
  have : 2 ^ k ≤ 2 ^ 63 := Nat.pow_le_pow_right (by decide) (by omega)
  exact this

theorem cast_pow (k : Nat) : ((2 : Int) ^ k) = ((2 ^ k : Nat) : Int) := by simp

theorem bitI_in {i : Int} (h0 : 0 ≤ i) (h1 : i < 64) : bitI i = ((2 ^ i.toNat : Nat) : Int) := by
  unfold bitI; rw [if_pos ⟨h0, h1⟩, cast_pow]
theorem bitI_out {i : Int} (h : ¬ (0 ≤ i ∧ i < 64)) : bitI i = 0 := by unfold bitI; rw [if_neg h]

theorem bitI_bd (i : Int) : 0 ≤ bitI i ∧ bitI i ≤ 9223372036854775808 := by
  by_cases h : 0 ≤ i ∧ i < 64
  · rw [bitI_in h.1 h.2]
    have := pow_pos64 i.toNat (by omega)
    omega
  · rw [bitI_out h]; omega

theorem wrap_pow {i : Int} (h0 : 0 ≤ i) (h1 : i < 64) : IntKind.u64.wrap (2 ^ i.toNat) = bitI i := by
  rw [bitI_in h0 h1, cast_pow, IntKind.wrap_u64]
  have := pow_pos64 i.toNat (by omega)
  omega

theorem and_has (m i : Int) (h0 : 0 ≤ m) (h1 : m ≤ 18446744073709551615) : (bits .and .u64 m (bitI i) != 0) = hasB m i := by
  unfold hasB
  have hb := bitI_bd i
  rw [u64_and m (bitI i) h0 (by omega) hb.1 (by omega)]
  by_cases h : 0 ≤ i ∧ i < 64
  · rw [bitI_in h.1 h.2, decide_eq_true h, Bool.true_and, Int.toNat_natCast, nat_bit]
    have hp := (pow_pos64 i.toNat (by omega)).1
    rw [Nat.testBit_eq_decide_div_mod_eq]
    by_cases hm : m.toNat / 2 ^ i.toNat % 2 = 1
    · rw [hm, decide_eq_true rfl]
      have : ((1 * 2 ^ i.toNat : Nat) : Int) ≠ 0 := by omega
      rw [bne_iff_ne]; exact this
    · have hz : m.toNat / 2 ^ i.toNat % 2 = 0 := by omega
      rw [hz]; simp
  · rw [bitI_out h, decide_eq_false h]; simp

theorem or_with (m i : Int) (h0 : 0 ≤ m) (h1 : m ≤ 18446744073709551615) : bits .or .u64 m (bitI i) = withI m i := by
  unfold withI
  have hb := bitI_bd i
  rw [u64_or m (bitI i) h0 (by omega) hb.1 (by omega)]
  by_cases h : 0 ≤ i ∧ i < 64
  · rw [bitI_in h.1 h.2, if_pos h, Int.toNat_natCast]
  · rw [bitI_out h, if_neg h]; simp; omega

theorem andNot_without (m i : Int) (h0 : 0 ≤ m) (h1 : m ≤ 18446744073709551615) : bits .andNot .u64 m (bitI i) = withoutI m i := by
  unfold withoutI
  have hb := bitI_bd i
  rw [u64_andNot m (bitI i) h0 (by omega) hb.1 (by omega)]
  by_cases h : 0 ≤ i ∧ i < 64
  · rw [bitI_in h.1 h.2, if_pos h, Int.toNat_natCast]
  · rw [bitI_out h, if_neg h]
    have hm : m.toNat < 2 ^ 64 := by omega
    have := Nat.and_two_pow_sub_one_of_lt_two_pow hm
    simp at this ⊢
    rw [this]; omega

theorem withI_bd (m i : Int) (h0 : 0 ≤ m) (h1 : m ≤ 18446744073709551615) : 0 ≤ withI m i ∧ withI m i ≤ 18446744073709551615 := by
  unfold withI
  by_cases h : 0 ≤ i ∧ i < 64
  · rw [if_pos h]
    have hp := pow_pos64 i.toNat (by omega)
    have : m.toNat ||| 2 ^ i.toNat < 2 ^ 64 := Nat.or_lt_two_pow (by omega) (by omega)
    omega
  · rw [if_neg h]; omega

theorem withoutI_bd (m i : Int) (h0 : 0 ≤ m) (h1 : m ≤ 18446744073709551615) : 0 ≤ withoutI m i ∧ withoutI m i ≤ 18446744073709551615 := by
  unfold withoutI
  by_cases h : 0 ≤ i ∧ i < 64
  · rw [if_pos h]
    have : m.toNat &&& (18446744073709551615 - 2 ^ i.toNat) ≤ m.toNat := Nat.and_le_left
    omega
  · rw [if_neg h]; omega
end Go.Proofs.YtkoofibhddkpiaaDoor.MM

/-! plain: the reference's loops over numbers -/
namespace Go.Proofs.YtkoofibhddkpiaaDoor.MM

/-- m halved k times -/
def halve (m : Int) (k : Nat) : Int := ((m.toNat / 2 ^ k : Nat) : Int)
theorem halve_zero (m : Int) (h : 0 ≤ m) : halve m 0 = m := by unfold halve; simp; omega
theorem halve_succ (m : Int) (k : Nat) : halve m k / 2 = halve m (k + 1) := by
  unfold halve
  rw [Nat.pow_succ, ← Nat.div_div_eq_div_mul]
  omega
theorem halve_bd (m : Int) (k : Nat) (h0 : 0 ≤ m) (h1 : m ≤ 18446744073709551615) : 0 ≤ halve m k ∧ halve m k ≤ 18446744073709551615 := by
  unfold halve
  have : m.toNat / 2 ^ k ≤ m.toNat := Nat.div_le_self _ _
  generalize m.toNat / 2 ^ k = q at this
  omega
theorem halve_has (m i : Int) (k : Nat) (hk : (k : Int) = i) (hi : i < 64) : (halve m k % 2 == 1) = hasB m i := by
  subst hk
  unfold hasB halve
  rw [decide_eq_true (show 0 ≤ (k : Int) ∧ (k : Int) < 64 from ⟨by omega, hi⟩), Bool.true_and, Int.toNat_natCast, Nat.testBit_eq_decide_div_mod_eq]
  rw [Bool.eq_iff_iff, beq_iff_eq, decide_eq_true_iff]
  omega
theorem has_out (m i : Int) (h : i < 0 ∨ 63 < i) : hasB m i = false := by
  unfold hasB; rw [decide_eq_false (by omega)]; simp

/-- 1 doubled k times -/
def dbl (k : Nat) : Int := ((2 ^ k : Nat) : Int)
theorem dbl_zero : dbl 0 = 1 := rfl
theorem dbl_succ (k : Nat) : dbl k * 2 = dbl (k + 1) := by unfold dbl; rw [Nat.pow_succ]; omega
theorem dbl_bd (k : Nat) (h : k < 64) : 1 ≤ dbl k ∧ dbl k ≤ 9223372036854775808 := by
  unfold dbl; have := pow_pos64 k h; omega
theorem dbl_bit (i : Int) (k : Nat) (hk : (k : Int) = i) (h : i < 64) : dbl k = bitI i := by
  subst hk; rw [bitI_in (by omega) h]; rfl

theorem testBit_add (m k : Nat) (h : m.testBit k = false) : m ||| 2 ^ k = m + 2 ^ k := by
  rw [Nat.testBit_eq_decide_div_mod_eq] at h
  have h' := of_decide_eq_false h
  have hp := Nat.two_pow_pos k
  have hr : m % 2 ^ k < 2 ^ k := Nat.mod_lt _ hp
  have e0 : 2 ^ k * (m / 2 ^ k) + m % 2 ^ k = m := Nat.div_add_mod m (2 ^ k)
  have e1 : m / 2 ^ k = 2 * (m / 2 ^ k / 2) := by omega
  generalize m % 2 ^ k = r at hr e0
  generalize m / 2 ^ k / 2 = a at e1
  rw [e1] at e0
  have e2 : 2 ^ (k + 1) * a + r = m := by rw [Nat.pow_succ, Nat.mul_assoc]; exact e0
  have hs : 2 ^ (k + 1) = 2 ^ k * 2 := Nat.pow_succ ..
  have o1 := Nat.two_pow_add_eq_or_of_lt (i := k + 1) (b := r) (by omega) a
  have o2 := Nat.two_pow_add_eq_or_of_lt (i := k + 1) (b := 2 ^ k + r) (by omega) a
  have o3 := Nat.two_pow_add_eq_or_of_lt (i := k) (b := r) hr 1
  rw [Nat.mul_one] at o3
  rw [← e2, o1, Nat.or_assoc, Nat.or_comm r, ← o3, ← o2]
  rw [← o1]; omega
theorem with_has (m i : Int) (h : hasB m i = true) (h0 : 0 ≤ m) : withI m i = m := by
  unfold hasB at h; unfold withI
  rw [Bool.and_eq_true, decide_eq_true_iff] at h
  rw [if_pos h.1]
  have : m.toNat ||| 2 ^ i.toNat = m.toNat := by
    apply Nat.eq_of_testBit_eq; intro j
    rw [Nat.testBit_or, Nat.testBit_two_pow]
    by_cases hj : i.toNat = j
    · subst hj; rw [h.2]; simp
    · simp [hj]
  rw [this]; omega
theorem with_not (m i : Int) (h : hasB m i = false) (h0 : 0 ≤ m) : withI m i = m + bitI i := by
  unfold hasB at h; unfold withI
  by_cases hi : 0 ≤ i ∧ i < 64
  · rw [decide_eq_true hi, Bool.true_and] at h
    rw [if_pos hi, bitI_in hi.1 hi.2, testBit_add _ _ h]; omega
  · rw [if_neg hi, bitI_out hi]; omega
theorem without_not (m i : Int) (h : hasB m i = false) (h0 : 0 ≤ m) (h1 : m ≤ 18446744073709551615) : withoutI m i = m := by
  unfold hasB at h; unfold withoutI
  by_cases hi : 0 ≤ i ∧ i < 64
  · rw [decide_eq_true hi, Bool.true_and] at h
    rw [if_pos hi]
    have hp := pow_pos64 i.toNat (by omega)
    have : m.toNat &&& (18446744073709551615 - 2 ^ i.toNat) = m.toNat := by
      apply Nat.eq_of_testBit_eq; intro j
      rw [Nat.testBit_and]
      by_cases hj : j < 64
      · have e := Nat.testBit_two_pow_sub_succ (x := 2 ^ i.toNat) (n := 64) (by omega) j
        rw [show 18446744073709551615 - 2 ^ i.toNat = 2 ^ 64 - (2 ^ i.toNat + 1) from by omega, e, Nat.testBit_two_pow]
        by_cases hij : i.toNat = j
        · subst hij; rw [h]; simp
        · simp [hij, hj]
      · have : m.toNat.testBit j = false := Nat.testBit_lt_two_pow (Nat.lt_of_lt_of_le (show m.toNat < 2 ^ 64 by omega) (Nat.pow_le_pow_right (by decide) (by omega)))
        rw [this]; simp
    rw [this]; omega
  · rw [if_neg hi]
theorem without_has (m i : Int) (h : hasB m i = true) (h0 : 0 ≤ m) (h1 : m ≤ 18446744073709551615) : withoutI m i = m - bitI i := by
  unfold hasB at h; unfold withoutI
  rw [Bool.and_eq_true, decide_eq_true_iff] at h
  obtain ⟨hi, h⟩ := h
  rw [if_pos hi, bitI_in hi.1 hi.2]
  have hp := pow_pos64 i.toNat (by omega)
  have ha : (m.toNat &&& (18446744073709551615 - 2 ^ i.toNat)) + 2 ^ i.toNat = m.toNat := by
    have hb : (m.toNat &&& (18446744073709551615 - 2 ^ i.toNat)).testBit i.toNat = false := by
      rw [Nat.testBit_and, show 18446744073709551615 - 2 ^ i.toNat = 2 ^ 64 - (2 ^ i.toNat + 1) from by omega, Nat.testBit_two_pow_sub_succ (by omega), Nat.testBit_two_pow]
      simp
    rw [← testBit_add _ _ hb]
    apply Nat.eq_of_testBit_eq; intro j
    rw [Nat.testBit_or, Nat.testBit_and, Nat.testBit_two_pow]
    by_cases hij : i.toNat = j
    · subst hij; rw [h]; simp
    · by_cases hj : j < 64
      · rw [show 18446744073709551615 - 2 ^ i.toNat = 2 ^ 64 - (2 ^ i.toNat + 1) from by omega, Nat.testBit_two_pow_sub_succ (by omega), Nat.testBit_two_pow]
        simp [hij, hj]
      · have : m.toNat.testBit j = false := Nat.testBit_lt_two_pow (Nat.lt_of_lt_of_le (show m.toNat < 2 ^ 64 by omega) (Nat.pow_le_pow_right (by decide) (by omega)))
        rw [this]; simp [hij]
  omega
theorem has_le (m i : Int) (h : hasB m i = true) (h0 : 0 ≤ m) : bitI i ≤ m := by
  unfold hasB at h
  rw [Bool.and_eq_true, decide_eq_true_iff] at h
  rw [bitI_in h.1.1 h.1.2]
  have := Nat.ge_two_pow_of_testBit h.2
  omega
theorem with_sum_bd (m i : Int) (h : hasB m i = false) (h0 : 0 ≤ m) (h1 : m ≤ 18446744073709551615) : m + bitI i ≤ 18446744073709551615 := by
  rw [← with_not m i h h0]; exact (withI_bd m i h0 h1).2

/-- all from 0 to k - 1 -/
def ones (k : Nat) : Int := ((2 ^ k - 1 : Nat) : Int)
def belowI (n : Int) : Int := if n < 64 then ones n.toNat else ones 64
theorem ones_bd (k : Nat) (h : k ≤ 64) : 0 ≤ ones k ∧ ones k ≤ 18446744073709551615 := by
  unfold ones
  have : 2 ^ k ≤ 2 ^ 64 := Nat.pow_le_pow_right (by decide) h
  omega
theorem ones_succ (k : Nat) (h : k < 64) : withI (ones k) k = ones (k + 1) := by
  have hf : hasB (ones k) k = false := by
    unfold hasB ones
    rw [Int.toNat_natCast, Int.toNat_natCast, Nat.testBit_two_pow_sub_one]; simp
  rw [with_not _ _ hf (ones_bd k (by omega)).1, bitI_in (by omega) (by omega), Int.toNat_natCast]
  unfold ones
  have := Nat.two_pow_pos k
  rw [Nat.pow_succ]; omega
theorem ones_lo (n : Int) (h : n ≤ 0) : belowI n = 0 := by
  unfold belowI; rw [if_pos (by omega)]
  have : n.toNat = 0 := by omega
  rw [this]; rfl
theorem ones_mid (n : Int) (k : Nat) (h : (k : Int) = n) (h1 : n < 64) : belowI n = ones k := by
  subst h; unfold belowI; rw [if_pos h1, Int.toNat_natCast]
theorem ones_hi (n : Int) (h : 64 ≤ n) : belowI n = ones 64 := by unfold belowI; rw [if_neg (by omega)]
theorem below_three : belowI 3 = 7 := by decide
theorem has_one : hasB 1 0 = true := by decide
end Go.Proofs.YtkoofibhddkpiaaDoor.MM

/-! the walks of layer 2's functions, and of the reference's: no list, no iterator -/
namespace Go.Proofs.YtkoofibhddkpiaaDoor
open Go.RowKit

set_option maxHeartbeats 400000 in
theorem bit_any (i : Int) (w : World) :
    Calls Tryd.prog 38 #[.int .i64 i] w fun e w' => e = .returned (.int .u64 (MM.bitI i)) ∧ w = w' := by
  by_cases h0 : i < 0
  · have hb := Lib.hid (MM.bitI_out (i := i) (by omega))
    go_enter Tryd.func38, Tryd.ntmps38
    go_wp2
    go_ret
    exact ⟨ret_int hb.out.symm, rfl⟩
  · by_cases h1 : i < 64
    · have hb := Lib.hid (MM.wrap_pow (i := i) (by omega) h1)
      have h0 : 0 ≤ i := by omega
      go_enter Tryd.func38, Tryd.ntmps38
      go_wp2
      go_ret
      exact ⟨ret_int hb.out, rfl⟩
    · have hb := Lib.hid (MM.bitI_out (i := i) (by omega))
      have h0 : 0 ≤ i := by omega
      have h1 : 64 ≤ i := by omega
      go_enter Tryd.func38, Tryd.ntmps38
      go_wp2
      go_ret
      exact ⟨ret_int hb.out.symm, rfl⟩
set_option maxHeartbeats 400000 in
theorem has_any (m i : Int) (w : World) (m0 : 0 ≤ m) (m1 : m ≤ 18446744073709551615) :
    Calls Tryd.prog 32 #[.int .u64 m, .int .i64 i] w fun e w' => e = .returned (.bool (MM.hasB m i)) ∧ w = w' := by
  have hb := Lib.hid (MM.and_has m i m0 m1)
  go_enter Tryd.func32, Tryd.ntmps32
  go_wp2_with (go_at_call 38; refine (bit_any _ _).mono ?_; rintro e w' ⟨rfl, rfl⟩)
  go_ret
  exact ⟨ret_bool hb.out, rfl⟩
set_option maxHeartbeats 400000 in
theorem with_any (m i : Int) (w : World) (m0 : 0 ≤ m) (m1 : m ≤ 18446744073709551615) :
    Calls Tryd.prog 36 #[.int .u64 m, .int .i64 i] w fun e w' => e = .returned (.int .u64 (MM.withI m i)) ∧ w = w' := by
  have hb := Lib.hid (MM.or_with m i m0 m1)
  go_enter Tryd.func36, Tryd.ntmps36
  go_wp2_with (go_at_call 38; refine (bit_any _ _).mono ?_; rintro e w' ⟨rfl, rfl⟩)
  go_ret
  exact ⟨ret_int hb.out, rfl⟩
set_option maxHeartbeats 400000 in
theorem without_any (m i : Int) (w : World) (m0 : 0 ≤ m) (m1 : m ≤ 18446744073709551615) :
    Calls Tryd.prog 34 #[.int .u64 m, .int .i64 i] w fun e w' => e = .returned (.int .u64 (MM.withoutI m i)) ∧ w = w' := by
  have hb := Lib.hid (MM.andNot_without m i m0 m1)
  go_enter Tryd.func34, Tryd.ntmps34
  go_wp2_with (go_at_call 38; refine (bit_any _ _).mono ?_; rintro e w' ⟨rfl, rfl⟩)
  go_ret
  exact ⟨ret_int hb.out, rfl⟩
set_option maxHeartbeats 400000 in
theorem below_any (n : Int) (w : World) (n0 : -9223372036854775808 ≤ n) (n1 : n ≤ 9223372036854775807) :
    Calls Tryd.prog 31 #[.int .i64 n] w fun e w' => e = .returned (.int .u64 (MM.belowI n)) ∧ w = w' := by
  by_cases hn : n < 64
  · by_cases hz : n ≤ 0
    · have hb := Lib.hid (MM.ones_lo n hz)
      go_enter Tryd.func31, Tryd.ntmps31
      go_wp2
      go_loop [3, 4, 7] (fun x _ k => x = .int .u64 0 ∧ k = .int .i64 0) (fun _ _ _ => 0)
      case atStart => exact ⟨rfl, rfl⟩
      case round =>
        obtain ⟨rfl, rfl⟩ := hrel
        go_wp2
        go_ret
        exact ⟨ret_int hb.out.symm, rfl⟩
    · have hz : 0 < n := by omega
      go_enter Tryd.func31, Tryd.ntmps31
      go_wp2
      go_loop [3, 4, 7] (fun x _ k => ∃ j : Nat, (j : Int) ≤ n ∧ k = .int .i64 j ∧ x = .int .u64 (MM.ones j)) (fun _ _ k => (n - intOf k).toNat)
      case atStart => exact ⟨0, by omega, rfl, rfl⟩
      case round =>
        obtain ⟨j, hj, rfl, rfl⟩ := hrel
        have hbd := MM.ones_bd j (by omega)
        by_cases hlt : (j : Int) < n
        · have hs := Lib.hid (MM.ones_succ j (by omega))
          go_wp2_with (go_at_call 36; refine (with_any _ _ _ hbd.1 hbd.2).mono ?_; rintro e w' ⟨rfl, rfl⟩)
          go_round
          case rel => exact ⟨j + 1, by omega, by go_num, by rw [hs.out]⟩
          case measure => simp [intOf]; omega
        · have hb := Lib.hid (MM.ones_mid n j (by omega) hn)
          go_wp2
          go_ret
          exact ⟨ret_int hb.out.symm, rfl⟩
  · have hb := Lib.hid (MM.ones_hi n (by omega))
    rcases (show n = 64 ∨ 64 < n by omega) with rfl | hn
    all_goals
      go_enter Tryd.func31, Tryd.ntmps31
      go_wp2
      go_loop [3, 4, 7] (fun x _ k => ∃ j : Nat, j ≤ 64 ∧ k = .int .i64 j ∧ x = .int .u64 (MM.ones j)) (fun _ _ k => (64 - intOf k).toNat)
      case atStart => exact ⟨0, by omega, rfl, rfl⟩
      case round =>
        obtain ⟨j, hj, rfl, rfl⟩ := hrel
        have hbd := MM.ones_bd j (by omega)
        by_cases hlt : j < 64
        · have hs := Lib.hid (MM.ones_succ j (by omega))
          go_wp2_with (go_at_call 36; refine (with_any _ _ _ hbd.1 hbd.2).mono ?_; rintro e w' ⟨rfl, rfl⟩)
          go_round
          case rel => exact ⟨j + 1, by omega, by go_num, by rw [hs.out]⟩
          case measure => simp [intOf]; omega
        · obtain rfl : j = 64 := by omega
          go_wp2
          go_ret
          exact ⟨ret_int hb.out.symm, rfl⟩

end Go.Proofs.YtkoofibhddkpiaaDoor

/-! plain: the numbers of a set, in order -/
namespace Go.Proofs.YtkoofibhddkpiaaDoor.MM

/-- the numbers of m below k, in order -/
def upto (m : Int) (k : Nat) : List Nat := (List.range k).filter (fun i => hasB m (i : Int))
def bitsOf (m : Int) : List Nat := upto m 64
theorem upto_zero (m : Int) : upto m 0 = [] := rfl
theorem upto_yes (m : Int) (k : Nat) (h : hasB m (k : Int) = true) : upto m (k + 1) = upto m k ++ [k] := by
  unfold upto; rw [List.range_succ, List.filter_append]; simp [h]
theorem upto_no (m : Int) (k : Nat) (h : hasB m (k : Int) = false) : upto m (k + 1) = upto m k := by
  unfold upto; rw [List.range_succ, List.filter_append]; simp [h]
theorem upto_len (m : Int) (k : Nat) : (upto m k).length ≤ k := by
  unfold upto; exact Nat.le_trans (List.length_filter_le _ _) (by simp)
theorem upto_prefix (m : Int) (k j : Nat) (h : k ≤ j) : upto m k <+: upto m j := by
  obtain ⟨d, rfl⟩ : ∃ d, j = k + d := ⟨j - k, by omega⟩
  clear h
  induction d with
  | zero => exact List.prefix_refl _
  | succ d ih =>
    refine List.IsPrefix.trans ih ?_
    rw [show k + (d + 1) = (k + d) + 1 from rfl]
    cases hh : hasB m ((k + d : Nat) : Int)
    · rw [upto_no _ _ hh]; exact List.prefix_refl _
    · rw [upto_yes _ _ hh]; exact List.prefix_append _ _
theorem bits_len (m : Int) : (bitsOf m).length ≤ 64 := upto_len m 64
theorem bits_lt (m : Int) (x : Nat) (h : x ∈ bitsOf m) : x < 64 := by
  unfold bitsOf upto at h; simp at h; exact h.1
def uptoI (m : Int) (k : Nat) : List Int := (upto m k).map (fun i : Nat => (i : Int))
def bitsI (m : Int) : List Int := uptoI m 64
theorem uptoI_yes (m : Int) (k : Nat) (h : hasB m (k : Int) = true) : uptoI m (k + 1) = uptoI m k ++ [(k : Int)] := by unfold uptoI; rw [upto_yes m k h]; simp
theorem uptoI_no (m : Int) (k : Nat) (h : hasB m (k : Int) = false) : uptoI m (k + 1) = uptoI m k := by unfold uptoI; rw [upto_no m k h]
theorem uptoI_len (m : Int) (k : Nat) : (uptoI m k).length ≤ k := by unfold uptoI; rw [List.length_map]; exact upto_len m k
def toI (l : List Nat) : List Int := l.map (fun i : Nat => (i : Int))
theorem toI_snoc (l : List Nat) (x : Nat) : toI (l ++ [x]) = toI l ++ [(x : Int)] := by unfold toI; simp
theorem toI_len (l : List Nat) : (toI l).length = l.length := by unfold toI; simp
theorem toI_all (m : Int) (k : Nat) (h : (bitsOf m).length ≤ k) : toI (bitsOf m) = (bitsI m).take k := by
  have : (bitsI m) = toI (bitsOf m) := rfl
  rw [this, List.take_of_length_le (by rw [toI_len]; exact h)]
theorem toI_part (m : Int) (k : Nat) (q : List Nat) (x : Nat) (h : q ++ [x] <+: bitsOf m) (hk : q.length = k) : toI q = (bitsI m).take k := by
  obtain ⟨t, ht⟩ := h
  have : (bitsI m) = toI (bitsOf m) := rfl
  rw [this, ← ht]; unfold toI; rw [List.append_assoc, List.map_append, List.take_append_of_le_length (by simp [hk]), List.take_of_length_le (by simp [hk])]
/-- the set of a list of numbers -/
def allIn (l : List Int) : Bool := l.all (fun i => decide (0 ≤ i ∧ i < 64))
def foldW (l : List Int) : Int := l.foldl withI 0
def ofM (l : List Int) : Int := if allIn l = true then foldW l else 0
theorem allIn_snoc (l : List Int) (i : Int) : allIn (l ++ [i]) = (allIn l && decide (0 ≤ i ∧ i < 64)) := by unfold allIn; simp
theorem foldW_snoc (l : List Int) (i : Int) : foldW (l ++ [i]) = withI (foldW l) i := by unfold foldW; simp
theorem foldW_bd' (l : List Int) : ∀ m : Int, 0 ≤ m ∧ m ≤ 18446744073709551615 → 0 ≤ l.foldl withI m ∧ l.foldl withI m ≤ 18446744073709551615 := by
  induction l with
  | nil => intro m h; exact h
  | cons i l ih => intro m h; exact ih _ (withI_bd m i h.1 h.2)
theorem foldW_bd (l : List Int) : 0 ≤ foldW l ∧ foldW l ≤ 18446744073709551615 := foldW_bd' l 0 (by omega)
theorem allIn_take (l : List Int) (k : Nat) (h : allIn (l.take k) = false) : allIn l = false := by
  unfold allIn at *
  rw [Bool.eq_false_iff] at *
  intro hl; apply h
  rw [List.all_eq_true] at *
  exact fun x hx => hl x (List.mem_of_mem_take hx)
theorem ofM_no (l : List Int) (h : allIn l = false) : ofM l = 0 := by unfold ofM; rw [h]; simp
theorem ofM_yes (l : List Int) (h : allIn l = true) : ofM l = foldW l := by unfold ofM; rw [if_pos h]
theorem bit_nz (i : Int) (h : 0 ≤ i ∧ i < 64) : (bitI i == 0) = false := by
  rw [bitI_in h.1 h.2]
  have := pow_pos64 i.toNat (by omega)
  rw [beq_eq_false_iff_ne]; omega
theorem bit_z (i : Int) (h : ¬ (0 ≤ i ∧ i < 64)) : (bitI i == 0) = true := by rw [bitI_out h]; rfl
theorem all_yes (l : List Int) (t : List Int) (x : Int) (ht : t = l ++ [x]) (hl : allIn l = true) (h : 0 ≤ x ∧ x < 64) : allIn t = true := by rw [ht, allIn_snoc, hl, decide_eq_true h]; rfl
theorem all_no (l : List Int) (t : List Int) (x : Int) (ht : t = l ++ [x]) (h : ¬ (0 ≤ x ∧ x < 64)) : allIn t = false := by rw [ht, allIn_snoc, decide_eq_false h]; simp
def firstOf (l : List Nat) : Int := match l with | [] => -1 | x :: _ => (x : Int)
def lastOf (l : List Nat) : Int := match l.getLast? with | none => -1 | some x => (x : Int)
theorem lastOf_nil : lastOf [] = -1 := rfl
theorem lastOf_snoc (l : List Nat) (x : Nat) : lastOf (l ++ [x]) = (x : Int) := by unfold lastOf; simp
theorem firstOf_prefix (l : List Nat) (x : Nat) (h : [x] <+: l) : firstOf l = (x : Int) := by
  obtain ⟨t, rfl⟩ := h; rfl
theorem toI_get (l : List Nat) (j : Nat) (h : j < l.length) : (toI l)[j]?.getD 0 = ((l[j]'h : Nat) : Int) := by unfold toI; simp [h]
theorem first_get (l : List Nat) (h : 0 < l.length) : (toI l)[0]?.getD 0 = firstOf l := by
  rw [toI_get l 0 h]
  match l, h with
  | x :: t, _ => rfl
theorem last_get (l : List Nat) (h : 0 < l.length) : (toI l)[l.length - 1]?.getD 0 = lastOf l := by
  rw [toI_get l (l.length - 1) (by omega)]
  unfold lastOf
  rw [List.getLast?_eq_getElem?, List.getElem?_eq_getElem (by omega)]
end Go.Proofs.YtkoofibhddkpiaaDoor.MM

/-! plain: going through a set by its lowest number; the table that finds it -/
namespace Go.Proofs.YtkoofibhddkpiaaDoor.MM

theorem hi_bit (m k j : Nat) : (m / 2 ^ k * 2 ^ k).testBit j = (decide (k ≤ j) && m.testBit j) := by
  rw [Nat.testBit_mul_two_pow]
  by_cases h : k ≤ j
  · rw [Nat.testBit_div_two_pow, Nat.sub_add_cancel h]
  · simp [h]
theorem hi_next (m k : Nat) (hm : m < 2 ^ 64) (hne : m / 2 ^ k * 2 ^ k ≠ 0) :
    k ≤ Lib.ctz 64 (m / 2 ^ k * 2 ^ k) ∧ Lib.ctz 64 (m / 2 ^ k * 2 ^ k) < 64 ∧ m.testBit (Lib.ctz 64 (m / 2 ^ k * 2 ^ k)) = true ∧
    (∀ j, k ≤ j → j < Lib.ctz 64 (m / 2 ^ k * 2 ^ k) → m.testBit j = false) ∧
    (m / 2 ^ k * 2 ^ k) &&& (m / 2 ^ k * 2 ^ k - 1) = m / 2 ^ (Lib.ctz 64 (m / 2 ^ k * 2 ^ k) + 1) * 2 ^ (Lib.ctz 64 (m / 2 ^ k * 2 ^ k) + 1) := by
  have hL : ∀ j, (m / 2 ^ k * 2 ^ k).testBit j = (decide (k ≤ j) && m.testBit j) := hi_bit m k
  have hlt : m / 2 ^ k * 2 ^ k < 2 ^ 64 := Nat.lt_of_le_of_lt (Nat.div_mul_le_self _ _) hm
  generalize m / 2 ^ k * 2 ^ k = L at *
  unfold Lib.ctz
  rw [if_neg hne]
  obtain ⟨q, hq, ht⟩ := Lib.ctzFrom_spec 64 L (by omega) hlt
  generalize Lib.ctzFrom 64 L = t at *
  have hb : ∀ j, L.testBit j = (decide (t ≤ j) && (2 * q + 1).testBit (j - t)) := by
    intro j; rw [hq, Nat.mul_comm, Nat.testBit_mul_two_pow]
  have h1 : L.testBit t = true := by rw [hb]; simp
  have h1' := h1
  rw [hL, Bool.and_eq_true, decide_eq_true_eq] at h1'
  have hp : 0 < 2 ^ t := Nat.two_pow_pos t
  have hno : ∀ j, k ≤ j → j < t → m.testBit j = false := by
    intro j hk hj
    have h2 := hb j
    rw [hL, decide_eq_true hk, Bool.true_and, decide_eq_false (show ¬ t ≤ j by omega), Bool.false_and] at h2
    exact h2
  refine ⟨h1'.1, ht, h1'.2, hno, ?_⟩
  have e1 : L - 1 = 2 ^ t * (2 * q) + (2 ^ t - 1) := by rw [hq, Nat.mul_add, Nat.mul_one]; omega
  apply Nat.eq_of_testBit_eq
  intro j
  rw [Nat.testBit_and, hi_bit, e1, Nat.testBit_two_pow_mul_add _ (by omega)]
  by_cases hj : j < t
  · rw [hb j, decide_eq_false (show ¬ t ≤ j by omega), decide_eq_false (show ¬ t + 1 ≤ j by omega)]; simp
  · rw [if_neg hj]
    by_cases he : j = t
    · subst he
      rw [decide_eq_false (show ¬ j + 1 ≤ j by omega)]
      simp
    · obtain ⟨d, hd⟩ : ∃ d, j - t = d + 1 := ⟨j - t - 1, by omega⟩
      have h3 := hb j
      rw [hL j, decide_eq_true (show k ≤ j by omega), decide_eq_true (show t ≤ j by omega), Bool.true_and, Bool.true_and, hd, Nat.testBit_succ] at h3
      rw [hL j, decide_eq_true (show k ≤ j by omega), decide_eq_true (show t + 1 ≤ j by omega)]
      simp only [Bool.true_and]
      rw [hd, Nat.testBit_succ, h3]
      rw [show (2 * q + 1) / 2 = q by omega, show 2 * q / 2 = q by omega, Bool.and_self]

theorem upto_skip (m : Int) (k t : Nat) (h : k ≤ t) (hno : ∀ j : Nat, k ≤ j → j < t → hasB m (j : Int) = false) : upto m t = upto m k := by
  obtain ⟨d, rfl⟩ : ∃ d, t = k + d := ⟨t - k, by omega⟩
  clear h
  induction d with
  | zero => rfl
  | succ d ih =>
    rw [show k + (d + 1) = (k + d) + 1 from rfl, upto_no _ _ (hno (k + d) (by omega) (by omega))]
    exact ih fun j h1 h2 => hno j h1 (by omega)
theorem low_next (m : Int) (k X : Nat) (h0 : 0 ≤ m) (h1 : m ≤ 18446744073709551615) (hX : m.toNat / 2 ^ k * 2 ^ k = X) (hne : X ≠ 0) :
    X < 18446744073709551616 ∧ ∃ t Y : Nat, Lib.ctz 64 X = t ∧ k ≤ t ∧ t < 64 ∧ hasB m (t : Int) = true ∧ upto m (t + 1) = upto m k ++ [t] ∧ bits .and .u64 (X : Int) ((X : Int) - 1) = (Y : Int) ∧ Y < X ∧ m.toNat / 2 ^ (t + 1) * 2 ^ (t + 1) = Y := by
  have hle := Nat.div_mul_le_self m.toNat (2 ^ k)
  rw [hX] at hle
  obtain ⟨a1, a2, a3, a4, a5⟩ := hi_next m.toNat k (by omega) (by rw [hX]; exact hne)
  rw [hX] at a1 a2 a3 a4 a5
  have hle2 : X &&& (X - 1) ≤ X - 1 := Nat.and_le_right
  have a6 : hasB m ((Lib.ctz 64 X : Nat) : Int) = true := by unfold hasB; rw [decide_eq_true (show 0 ≤ ((Lib.ctz 64 X : Nat) : Int) ∧ ((Lib.ctz 64 X : Nat) : Int) < 64 by omega), Bool.true_and, Int.toNat_natCast]; exact a3
  refine ⟨by omega, _, _, rfl, a1, a2, a6, ?_, ?_, ?_, a5.symm⟩
  · rw [upto_yes m _ a6]
    rw [upto_skip m k _ a1 fun j h1 h2 => by unfold hasB; rw [Int.toNat_natCast, a4 j h1 h2, Bool.and_false]]
  · rw [u64_and _ _ (by omega) (by omega) (by omega) (by omega)]
    congr 2
    omega
  · omega
theorem low_end (m : Int) (k : Nat) (hk : k ≤ 64) (he : m.toNat / 2 ^ k * 2 ^ k = 0) : bitsOf m = upto m k := by
  refine upto_skip m k 64 hk fun j h1 h2 => ?_
  have := hi_bit m.toNat k j
  rw [he, decide_eq_true h1, Bool.true_and, Nat.zero_testBit] at this
  unfold hasB
  rw [Int.toNat_natCast, ← this, Bool.and_false]
theorem low_start (m : Int) (h : 0 ≤ m) : Value.int .u64 m = .int .u64 ((m.toNat / 2 ^ 0 * 2 ^ 0 : Nat) : Int) := by
  rw [Nat.pow_zero, Nat.div_one, Nat.mul_one, show ((m.toNat : Nat) : Int) = m by omega]
end Go.Proofs.YtkoofibhddkpiaaDoor.MM

/-! the table by which the library finds a set's lowest number -/
namespace Go.Proofs.YtkoofibhddkpiaaDoor
open Go.RowKit

/-- block b is as it was -/
def KeptAt (b : Nat) (W W' : World) : Prop := W'.heap[b]? = W.heap[b]?
theorem KeptAt.trans {b : Nat} {A B C : World} (h : KeptAt b A B) (k : KeptAt b B C) : KeptAt b A C := Eq.trans (Eq.symm (Eq.symm k)) h
theorem KeptAt.cell {b : Nat} {W W' : World} (h : KeptAt b W W') (o : Nat) : W'.cell? ⟨b, o, none⟩ = W.cell? ⟨b, o, none⟩ := World.cell?_of_block (w := W) h
theorem KeptAt.of_below {n b : Nat} {W W' : World} (h : Below n W W') (hb : b < n) : KeptAt b W W' := h.block b hb
theorem KeptAt.setCell {b : Nat} (W : World) (a : Addr) (v : Value) (h : a.block ≠ b) : KeptAt b W (W.setCell a v) := Below.heap_setCell W a v b (fun e => h e.symm)
theorem KeptAt.refl (b : Nat) (W : World) : KeptAt b W W := rfl
theorem KeptAt.alloc {b : Nat} (W : World) (o : Obj) (h : b < W.heap.size) : KeptAt b W (W.alloc o) := Below.heap_alloc W o b h

/-- the variable that holds the table -/
abbrev tzG : Nat := 0
/-- the table lies in its variable -/
def Tz (w : World) : Prop := TabAt tzG Lib.deBruijn64tab w
theorem Tz.kept {A B : World} (h : Tz A) (k : KeptAt tzG A B) : Tz B := fun j hj => (k.cell j).trans (h j hj)
theorem Tz.lt {w : World} (h : Tz w) : tzG < w.heap.size := by
  have hc := h 0 (by decide)
  apply Classical.byContradiction; intro hn
  simp [World.cell?, Array.getElem?_eq_none (Nat.le_of_not_lt hn)] at hc
theorem Tz.on {w W : World} (h : Tz w) (hb : Below w.heap.size w W) : Tz W := h.kept (hb.block _ h.lt)
theorem Tz.alloc {w : World} (h : Tz w) (o : Obj) : Tz (w.alloc o) := h.kept (KeptAt.alloc w o h.lt)
theorem Tz.setCell {w : World} (h : Tz w) (a : Addr) (v : Value) (ha : a.block ≠ tzG) : Tz (w.setCell a v) := h.kept (KeptAt.setCell w a v ha)
theorem Tz.drewN {w : World} (h : Tz w) (d : Nat) : Tz (w.drewN d) := h
set_option maxHeartbeats 1000000 in
theorem tz_core (x k idx : Nat) (w : World) (hx0 : ((x : Int) == 0) = false)
    (key : IntKind.u64.wrap (bits BinOp.and IntKind.u64 (x : Int) (IntKind.u64.wrap (-(x : Int))) * 285870213051353865) / 288230376151711744 = (idx : Int))
    (hi : idx < 64) (hk : k < 64) (hcell : w.cell? ⟨tzG, idx, none⟩ = some (.int .u8 k)) :
    Calls Tryd.prog 40 #[.int .u64 x] w fun e w' => e = .returned (.int .i64 k) ∧ w' = w := by
  go_enter Tryd.func40, Tryd.ntmps40
  go_wp2_with (simp only [key])
  go_ret
  exact ⟨rfl, rfl⟩
/-- the lowest number of a set that is not empty -/
theorem tz_any (x : Nat) (w : World) (hx : x < 18446744073709551616) (hx0 : x ≠ 0) (hT : Tz w) :
    Calls Tryd.prog 40 #[.int .u64 x] w fun e w' => e = .returned (.int .i64 (Lib.ctz 64 x)) ∧ w' = w := by
  obtain ⟨hlow, hk⟩ := Lib.lowest_bit 64 x hx0 hx
  obtain ⟨hi, htab⟩ := Lib.deBruijn64_at _ hk
  have hcell := hT _ hi
  rw [htab] at hcell
  exact tz_core x _ _ w (by simp; omega) (tz64_key x _ hx hx0 hlow) hi hk hcell
end Go.Proofs.YtkoofibhddkpiaaDoor

/-! the iterator of layer 2's All -/
namespace Go.Proofs.YtkoofibhddkpiaaDoor
open Go.RowKit Go.Shelf

attribute [local go_sem] Oper.semAt_some

theorem cell_box_l {W : World} {b : Nat} {v : Value} {t : TypeId} (h : W.heap[b]? = some (.cells #[v] t)) : W.cell? ⟨b, 0, none⟩ = some v ∧ W.frozen? ⟨b, 0, none⟩ = false := by
  constructor
  · simp [World.cell?, h]
  · simp [World.frozen?, h]
theorem cell_new_l (W : World) (v : Value) (t : TypeId) : (W.alloc (.cells #[v] t)).cell? ⟨W.heap.size, 0, none⟩ = some v ∧ (W.alloc (.cells #[v] t)).frozen? ⟨W.heap.size, 0, none⟩ = false :=
  cell_box_l (World.alloc_heap_new W _)
theorem cell_alloc_l {W : World} {a : Addr} {v : Value} (o : Obj) (h : W.cell? a = some v) : (W.alloc o).cell? a = some v := cell_kept h (World.grownBy_alloc W o none) (fun r e => (by cases e))
theorem frozen_alloc_l {W : World} {a : Addr} {v : Value} (o : Obj) (h : W.cell? a = some v) (hf : W.frozen? a = false) : (W.alloc o).frozen? a = false := (frozen_kept h (World.grownBy_alloc W o none) (fun r e => (by cases e))).trans hf

set_option maxHeartbeats 400000 in
theorem all_any (m : Int) (w : World) :
    Calls Tryd.prog 33 #[.int .u64 m] w fun e w' => e = .returned (.func (.func 39) #[] #[.pointer (some ⟨w.heap.size, 0, none⟩)]) ∧ w' = w.alloc (.cells #[.int .u64 m] 47) := by
  go_enter Tryd.func33, Tryd.ntmps33
  go_wp2
  go_ret
  exact ⟨rfl, rfl⟩

set_option maxRecDepth 100000 in
set_option maxHeartbeats 2000000 in
theorem all1_in (l Bs : Nat) (m : Int) (m0 : 0 ≤ m) (m1 : m ≤ 18446744073709551615) (n : Nat) (hn : 1 ≤ n) (J Jx : List Nat → World → Prop)
    (hY : ∀ pre x W, J pre W → pre.length < 64 → YieldAt Fence.wide (n - 1) Tryd.prog l #[.int .i64 ((x : Nat) : Int)] W fun e W' =>
      (e = .returned (.bool true) ∧ J (pre ++ [x]) W' ∧ KeptAt tzG W W') ∨ (e = .returned (.bool false) ∧ Jx (pre ++ [x]) W'))
    (W : World) (hBs : W.cell? ⟨Bs, 0, none⟩ = some (.int .u64 m)) (hT : Tz W) (h0 : J [] W) :
    CallsIn Fence.wide n Tryd.prog 39 #[.func (.yield l) #[] #[], .pointer (some ⟨Bs, 0, none⟩)] W fun e W' => (∃ v, e = .returned v) ∧
      ((∃ ys, ys = MM.bitsOf m ∧ J ys W') ∨ (∃ pre, (pre <+: MM.bitsOf m) ∧ Jx pre W')) := by
  have h0' : J (MM.upto m 0) W := h0
  have HST := Lib.hid (MM.low_start m m0)
  refine callsIn_of_wp Tryd.func39 rfl trivial ?_ rfl
  simp only [Tryd.ntmps39, List.size_toArray, List.length_cons, List.length_nil, Nat.reduceAdd, Nat.reduceSub, Array.replicate_succ, Array.replicate_zero, List.push_toArray, List.append_toArray, List.nil_append, List.cons_append]
  gi_wp2
  gi_loopw [3] (fun i wr => ∃ k X : Nat, k ≤ 64 ∧ i = .int .u64 (X : Int) ∧ m.toNat / 2 ^ k * 2 ^ k = X ∧ J (MM.upto m k) wr ∧ Tz wr)
    (fun i _ => (intOf i).toNat)
  case atStart => exact ⟨0, _, Nat.zero_le _, HST.out, rfl, h0', hT⟩
  case round =>
    obtain ⟨k, X, hk, rfl, hX, hJs, hTr⟩ := hrel
    clear hBs HST h0 h0' hT
    have hlen : (MM.upto m k).length ≤ k := MM.upto_len m k
    by_cases hz : X = 0
    · subst hz
      have hE := Lib.hid (MM.low_end m k hk hX)
      gi_wp2
      go_end0
      exact ⟨⟨_, rfl⟩, .inl ⟨_, rfl, by rw [hE.out]; exact hJs⟩⟩
    · obtain ⟨hXl, t, Y, ht, hkt, ht64, _, hup, hand, hYX, hY2⟩ := MM.low_next m k X m0 m1 hX hz
      have hpre : (MM.upto m k).length < 64 := by
        have h1 := MM.upto_len m (t + 1)
        rw [hup, List.length_append] at h1
        simp at h1; omega
      have HU := Lib.hid hup
      have HT := Lib.hid ht
      have HA := Lib.hid hand
      have HY := Lib.hid hY2
      have hb : ((X : Int) != 0) = true := by rw [bne_iff_ne]; omega
      have hw1 : IntKind.u64.wrap ((X : Int) - 1) = (X : Int) - 1 := by rw [IntKind.wrap_u64]; omega
      obtain ⟨fn, tmps, assign, body, hy, hR⟩ := hY (MM.upto m k) t wr hJs hpre
      clear hup ht hX hand hY2
      gi_wp2_with (refine ⟨trivial, ?_⟩; gi_at_call 40; refine (callsIn_wide.2 (tz_any X wr hXl hz hTr)).mono ?_; rintro e w' ⟨rfl, rfl⟩; rw [HT.out])
      refine hR.mono ?_
      rintro e W3 (⟨rfl, hJ3, hk3⟩ | ⟨rfl, hJx3⟩)
      · have hT3 := hTr.kept hk3
        gi_wp2
        go_roundw
        case rel => exact ⟨t + 1, Y, by omega, by rw [HA.out], HY.out, by rw [HU.out]; exact hJ3, hT3⟩
        case measure => have hA := HA.out; simp [intOf]; omega
      · gi_wp2
        refine bodyPost_ret (results_none rfl _ _ _) rfl ?_
        exact ⟨⟨_, rfl⟩, .inr ⟨_, by rw [← HU.out]; exact MM.upto_prefix m (t + 1) 64 (by omega), hJx3⟩⟩
/-- the iterator that All hands back: its box lies at Bs -/
theorem all_stops (n : Nat) (hn : 1 ≤ n) (Bs : Nat) (m : Int) (m0 : 0 ≤ m) (m1 : m ≤ 18446744073709551615) (w : World) (hBs : Bs < w.heap.size) (hc : w.cell? ⟨Bs, 0, none⟩ = some (.int .u64 m)) (hT : Tz w) :
    SeqStopsK Fence.wide n Tryd.prog 39 #[.pointer (some ⟨Bs, 0, none⟩)] (fun x : Nat => #[Value.int .i64 (x : Int)]) (KeptAt tzG) (fun ys => ys = MM.bitsOf m) (fun pre => pre <+: MM.bitsOf m) 64 w :=
  fun l J Jx W hW _ _ hY h0 => all1_in l Bs m m0 m1 n hn J Jx hY W ((hW.cell (p := ⟨Bs, 0, none⟩) hBs).trans hc) (hT.on hW) h0

/-- the numbers of a set, each with its proof -/
abbrev InS (m : Int) := { x : Nat // MM.hasB m (x : Int) = true }
set_option maxRecDepth 100000 in
set_option maxHeartbeats 2000000 in
theorem all1S_in (l Bs : Nat) (m : Int) (m0 : 0 ≤ m) (m1 : m ≤ 18446744073709551615) (n : Nat) (hn : 1 ≤ n) (J Jx : List (InS m) → World → Prop)
    (hY : ∀ pre x W, J pre W → pre.length < 64 → YieldAt Fence.wide (n - 1) Tryd.prog l #[.int .i64 ((x.1 : Nat) : Int)] W fun e W' =>
      (e = .returned (.bool true) ∧ J (pre ++ [x]) W' ∧ KeptAt tzG W W') ∨ (e = .returned (.bool false) ∧ Jx (pre ++ [x]) W'))
    (W : World) (hBs : W.cell? ⟨Bs, 0, none⟩ = some (.int .u64 m)) (hT : Tz W) (h0 : J [] W) :
    CallsIn Fence.wide n Tryd.prog 39 #[.func (.yield l) #[] #[], .pointer (some ⟨Bs, 0, none⟩)] W fun e W' => (∃ v, e = .returned v) ∧
      ((∃ ys : List (InS m), ys.map (·.1) = MM.bitsOf m ∧ J ys W') ∨ (∃ pre : List (InS m), (pre.map (·.1) <+: MM.bitsOf m) ∧ Jx pre W')) := by
  have HST := Lib.hid (MM.low_start m m0)
  refine callsIn_of_wp Tryd.func39 rfl trivial ?_ rfl
  simp only [Tryd.ntmps39, List.size_toArray, List.length_cons, List.length_nil, Nat.reduceAdd, Nat.reduceSub, Array.replicate_succ, Array.replicate_zero, List.push_toArray, List.append_toArray, List.nil_append, List.cons_append]
  gi_wp2
  gi_loopw [3] (fun i wr => ∃ (k X : Nat) (ls : List (InS m)), k ≤ 64 ∧ i = .int .u64 (X : Int) ∧ m.toNat / 2 ^ k * 2 ^ k = X ∧ RowKit.Hid (ls.map (·.1) = MM.upto m k) ∧ J ls wr ∧ Tz wr)
    (fun i _ => (intOf i).toNat)
  case atStart => exact ⟨0, _, [], Nat.zero_le _, HST.out, rfl, Lib.hid rfl, h0, hT⟩
  case round =>
    obtain ⟨k, X, ls, hk, rfl, hX, HLs, hJs, hTr⟩ := hrel
    clear hBs HST h0 hT
    by_cases hz : X = 0
    · subst hz
      have hE := Lib.hid (MM.low_end m k hk hX)
      gi_wp2
      go_end0
      exact ⟨⟨_, rfl⟩, .inl ⟨ls, by rw [hE.out]; exact HLs.out, hJs⟩⟩
    · obtain ⟨hXl, t, Y, ht, hkt, ht64, hmem, hup, hand, hYX, hY2⟩ := MM.low_next m k X m0 m1 hX hz
      have hpre : ls.length < 64 := by
        have h1 := MM.upto_len m (t + 1)
        have h2 : ls.length = (MM.upto m k).length := by rw [← HLs.out, List.length_map]
        rw [hup, List.length_append] at h1
        simp at h1; omega
      have HL2 := Lib.hid (show (ls ++ [(⟨t, hmem⟩ : InS m)]).map (·.1) = MM.upto m (t + 1) by rw [List.map_append, HLs.out, hup]; rfl)
      have HU := Lib.hid hup
      have HT := Lib.hid ht
      have HA := Lib.hid hand
      have HY := Lib.hid hY2
      have hb : ((X : Int) != 0) = true := by rw [bne_iff_ne]; omega
      have hw1 : IntKind.u64.wrap ((X : Int) - 1) = (X : Int) - 1 := by rw [IntKind.wrap_u64]; omega
      obtain ⟨fn, tmps, assign, body, hy, hR⟩ := hY ls ⟨t, hmem⟩ wr hJs hpre
      clear hup ht hX hand hY2 HLs
      gi_wp2_with (refine ⟨trivial, ?_⟩; gi_at_call 40; refine (callsIn_wide.2 (tz_any X wr hXl hz hTr)).mono ?_; rintro e w' ⟨rfl, rfl⟩; rw [HT.out])
      refine hR.mono ?_
      rintro e W3 (⟨rfl, hJ3, hk3⟩ | ⟨rfl, hJx3⟩)
      · have hT3 := hTr.kept hk3
        gi_wp2
        go_roundw
        case rel => exact ⟨t + 1, Y, _, by omega, by rw [HA.out], HY.out, HL2, hJ3, hT3⟩
        case measure => have hA := HA.out; simp [intOf]; omega
      · gi_wp2
        refine bodyPost_ret (results_none rfl _ _ _) rfl ?_
        exact ⟨⟨_, rfl⟩, .inr ⟨_, by rw [HL2.out]; exact MM.upto_prefix m (t + 1) 64 (by omega), hJx3⟩⟩
/-- the iterator that All hands back: its box lies at Bs -/
theorem all_stopsS (n : Nat) (hn : 1 ≤ n) (Bs : Nat) (m : Int) (m0 : 0 ≤ m) (m1 : m ≤ 18446744073709551615) (w : World) (hBs : Bs < w.heap.size) (hc : w.cell? ⟨Bs, 0, none⟩ = some (.int .u64 m)) (hT : Tz w) :
    SeqStopsK Fence.wide n Tryd.prog 39 #[.pointer (some ⟨Bs, 0, none⟩)] (fun x : InS m => #[Value.int .i64 ((x.1 : Nat) : Int)]) (KeptAt tzG) (fun ys => ys.map (·.1) = MM.bitsOf m) (fun pre => pre.map (·.1) <+: MM.bitsOf m) 64 w :=
  fun l J Jx W hW _ _ hY h0 => all1S_in l Bs m m0 m1 n hn J Jx hY W ((hW.cell (p := ⟨Bs, 0, none⟩) hBs).trans hc) (hT.on hW) h0

theorem keptAt_b {Bs N : Nat} (h : Bs < N) (W : World) (l : Nat) (o o' : Obj) (hl : N ≤ l) (_ : W.heap[l]? = some o) (_ : o.isCells = false) (_ : o.isWalk = false) : KeptAt Bs W (W.putObj l o') :=
  World.putObj_heap_other (by omega)

end Go.Proofs.YtkoofibhddkpiaaDoor

/-! slices of numbers of one kind that a walk reads -/
namespace Go.Proofs.YtkoofibhddkpiaaDoor
open Go.RowKit

/-- the slice value v holds the numbers xs of kind k, in a block below n₀; or it is empty and there are none -/
def Nums (k : IntKind) (n₀ : Nat) (W : World) (v : Value) (xs : List Int) : Prop :=
  ((∃ a cap, v = .slice a 0 cap) ∧ xs = []) ∨ ∃ b off cap, v = .slice (some ⟨b, off, none⟩) xs.length cap ∧ b < n₀ ∧ xs.length ≤ cap ∧ ∀ j, j < xs.length → W.cell? ⟨b, off + j, none⟩ = some (.int k (xs[j]?.getD 0))

theorem Nums.below {k : IntKind} {n₀ : Nat} {A B : World} (h : Below n₀ A B) {v : Value} {xs : List Int} : Nums k n₀ A v xs → Nums k n₀ B v xs
  | .inl e => .inl e
  | .inr ⟨b, off, cap, e, hb, hl, hc⟩ => .inr ⟨b, off, cap, e, hb, hl, fun j hj => (h.cell (p := ⟨b, off + j, none⟩) hb).trans (hc j hj)⟩
theorem Nums.mono {k : IntKind} {n n' : Nat} (h : n ≤ n') {A : World} {v : Value} {xs : List Int} : Nums k n A v xs → Nums k n' A v xs
  | .inl e => .inl e
  | .inr ⟨b, off, cap, e, hb, hl, hc⟩ => .inr ⟨b, off, cap, e, by omega, hl, hc⟩
theorem Nums.form {k : IntKind} {n₀ : Nat} {A : World} {v : Value} {xs : List Int} (h : Nums k n₀ A v xs) : ∃ a cap, v = .slice a xs.length cap := by
  rcases h with ⟨⟨_, _, rfl⟩, rfl⟩ | ⟨b, off, cap, rfl, _⟩
  · exact ⟨_, _, rfl⟩
  · exact ⟨_, _, rfl⟩
theorem Nums.drewN {k : IntKind} {n₀ : Nat} {W : World} {v : Value} {xs : List Int} (h : Nums k n₀ W v xs) (d : Nat) : Nums k n₀ (W.drewN d) v xs :=
  h.below ⟨rfl, rfl, rfl, Nat.le_refl _, fun _ _ => rfl⟩
/-- where there is one, it lies in a block -/
theorem Nums.at {k : IntKind} {n₀ : Nat} {W : World} {v : Value} {xs : List Int} (h : Nums k n₀ W v xs) (h0 : 0 < xs.length) :
    ∃ b off cap, v = .slice (some ⟨b, off, none⟩) xs.length cap ∧ b < n₀ ∧ ∀ j, j < xs.length → W.cell? ⟨b, off + j, none⟩ = some (.int k (xs[j]?.getD 0)) := by
  rcases h with ⟨_, rfl⟩ | ⟨b, off, cap, e, hb, _, hc⟩
  · exact absurd h0 (by simp)
  · exact ⟨b, off, cap, e, hb, hc⟩

theorem nums_of_row {k : IntKind} {W : World} {base : Nat} {e : TypeId} {v : Value} {l : List Int} (h : W.ownsRow base e 1 v l.length (l.map (Value.int k))) : Nums k W.heap.size W v l := by
  have hlt := h.lt
  obtain ⟨_, ⟨rfl, h0⟩ | ⟨g, cap, cur, rfl, hb, hg, hn, hm, hs, hx⟩⟩ := h
  · exact .inl ⟨⟨_, _, rfl⟩, List.length_eq_zero_iff.1 h0⟩
  · refine .inr ⟨g, 0, cap, rfl, (hlt g rfl).2, hn, fun j hj => ?_⟩
    have hx' : cur.toList[j]? = some (.int k (l[j]?.getD 0)) := by
      have : (cur.toList.take (l.length * 1))[j]? = (l.map (Value.int k))[j]? := by rw [hx]
      rw [List.getElem?_take_of_lt (by omega), List.getElem?_map] at this
      rw [this, List.getElem?_eq_getElem hj]; rfl
    simp only [World.cell?, hg, Nat.zero_add]
    simpa using hx'
theorem nums_of_isRow {k : IntKind} {w : World} {a : Option Addr} {len cap : Nat} {zs : List Int} (h : IsRow k w a len cap zs) : Nums k w.heap.size w (.slice a len cap) (zs.take len) := by
  by_cases h0 : len = 0
  · subst h0; exact .inl ⟨⟨_, _, rfl⟩, rfl⟩
  · rcases h with ⟨rfl, rfl, rfl, rfl⟩ | ⟨x, rfl, hl, hm, hz, hcell, _⟩
    · exact absurd rfl h0
    · obtain ⟨b, off, spot⟩ := x
      have hc := hcell 0 (by omega)
      have hspot : spot = none := by simpa [Addr.add] using World.cell?_spot hc
      subst hspot
      have hlt : b < w.heap.size := by
        apply Classical.byContradiction; intro hn
        simp [World.cell?, Addr.add, Array.getElem?_eq_none (Nat.le_of_not_lt hn)] at hc
      refine .inr ⟨b, off, cap, by rw [List.length_take, Nat.min_eq_left (by omega)], hlt, by rw [List.length_take]; omega, fun j hj => ?_⟩
      rw [List.length_take] at hj
      have := hcell j (by omega)
      rw [List.getElem?_take_of_lt (by omega)]
      rw [Addr.add_lit] at this
      simpa using this
/-- the numbers that came in are of their kind -/
theorem isRow_u64 {w : World} {a : Option Addr} {len cap : Nat} {zs : List Int} (h : IsRow .u64 w a len cap zs) : ∀ x ∈ zs, 0 ≤ x ∧ x ≤ 18446744073709551615 := by
  rcases h with ⟨_, _, _, rfl⟩ | ⟨_, _, _, _, _, _, hw⟩
  · intro x hx; simp at hx
  · exact fun x hx => wf_u64_bd (hw x hx)
end Go.Proofs.YtkoofibhddkpiaaDoor

/-! slices of ints that a walk reads -/
namespace Go.Proofs.YtkoofibhddkpiaaDoor
open Go.RowKit

/-- the slice value v holds the ints xs, in a block below n₀; or it is empty and there are none -/
def Ints (n₀ : Nat) (W : World) (v : Value) (xs : List Int) : Prop :=
  ((∃ a cap, v = .slice a 0 cap) ∧ xs = []) ∨ ∃ b off cap, v = .slice (some ⟨b, off, none⟩) xs.length cap ∧ b < n₀ ∧ xs.length ≤ cap ∧ ∀ j, j < xs.length → W.cell? ⟨b, off + j, none⟩ = some (.int .i64 (xs[j]?.getD 0))

theorem Ints.below {n₀ : Nat} {A B : World} (h : Below n₀ A B) {v : Value} {xs : List Int} : Ints n₀ A v xs → Ints n₀ B v xs
  | .inl e => .inl e
  | .inr ⟨b, off, cap, e, hb, hl, hc⟩ => .inr ⟨b, off, cap, e, hb, hl, fun j hj => (h.cell (p := ⟨b, off + j, none⟩) hb).trans (hc j hj)⟩
theorem Ints.mono {n n' : Nat} (h : n ≤ n') {A : World} {v : Value} {xs : List Int} : Ints n A v xs → Ints n' A v xs
  | .inl e => .inl e
  | .inr ⟨b, off, cap, e, hb, hl, hc⟩ => .inr ⟨b, off, cap, e, by omega, hl, hc⟩
theorem Ints.form {n₀ : Nat} {A : World} {v : Value} {xs : List Int} (h : Ints n₀ A v xs) : ∃ a cap, v = .slice a xs.length cap := by
  rcases h with ⟨⟨_, _, rfl⟩, rfl⟩ | ⟨b, off, cap, rfl, _⟩
  · exact ⟨_, _, rfl⟩
  · exact ⟨_, _, rfl⟩

theorem ints_of_row {W : World} {base : Nat} {e : TypeId} {v : Value} {l : List Int} (h : W.ownsRow base e 1 v l.length (l.map (Value.int .i64))) : Ints W.heap.size W v l := by
  have hlt := h.lt
  obtain ⟨_, ⟨rfl, h0⟩ | ⟨g, cap, cur, rfl, hb, hg, hn, hm, hs, hx⟩⟩ := h
  · exact .inl ⟨⟨_, _, rfl⟩, List.length_eq_zero_iff.1 h0⟩
  · refine .inr ⟨g, 0, cap, rfl, (hlt g rfl).2, hn, fun j hj => ?_⟩
    have hx' : cur.toList[j]? = some (.int .i64 (l[j]?.getD 0)) := by
      have : (cur.toList.take (l.length * 1))[j]? = (l.map (Value.int .i64))[j]? := by rw [hx]
      rw [List.getElem?_take_of_lt (by omega), List.getElem?_map] at this
      rw [this, List.getElem?_eq_getElem hj]; rfl
    simp only [World.cell?, hg, Nat.zero_add]
    simpa using hx'

theorem Tryd.infoInt : (Tryd.prog.info? 3).map (fun i => (i.zero, i.size, i.bytes)) = some (some (.int .i64 0), 1, 8) := by kernel_rfl
theorem cell_one_new (W : World) (v : Value) (t : TypeId) : ∀ j u, [v][j]? = some u → (W.alloc (.cells #[v] t)).cell? ((⟨W.heap.size, 0, none⟩ : Addr).add j) = some u := by
  intro j u hj
  match j, hj with
  | 0, hj => simp at hj; subst hj; simp [Addr.add]
theorem ints_of_isRow {w : World} {a : Option Addr} {len cap : Nat} {zs : List Int} (h : IsRow .i64 w a len cap zs) : Ints w.heap.size w (.slice a len cap) (zs.take len) := by
  by_cases h0 : len = 0
  · subst h0; exact .inl ⟨⟨_, _, rfl⟩, rfl⟩
  · rcases h with ⟨rfl, rfl, rfl, rfl⟩ | ⟨x, rfl, hl, hm, hz, hcell, _⟩
    · exact absurd rfl h0
    · obtain ⟨b, off, spot⟩ := x
      have hc := hcell 0 (by omega)
      have hspot : spot = none := by simpa [Addr.add] using World.cell?_spot hc
      subst hspot
      have hlt : b < w.heap.size := by
        apply Classical.byContradiction; intro hn
        simp [World.cell?, Addr.add, Array.getElem?_eq_none (Nat.le_of_not_lt hn)] at hc
      refine .inr ⟨b, off, cap, by rw [List.length_take, Nat.min_eq_left (by omega)], hlt, by rw [List.length_take]; omega, fun j hj => ?_⟩
      rw [List.length_take] at hj
      have := hcell j (by omega)
      rw [List.getElem?_take_of_lt (by omega)]
      rw [Addr.add_lit] at this
      simpa using this
end Go.Proofs.YtkoofibhddkpiaaDoor
