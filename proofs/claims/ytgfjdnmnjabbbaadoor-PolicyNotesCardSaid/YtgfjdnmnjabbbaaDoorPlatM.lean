import Derived.Test.YtgfjdnmnjabbbaaDoorLatAll
import Derived.Test.YtgfjdnmnjabbbaaDoorMaskG
set_option linter.unusedSimpArgs false
set_option linter.unusedVariables false
/-! plain: sets within sets; the project's way to tell orders, joins, meets, ends -/
namespace Go.Proofs.YtgfjdnmnjabbbaaDoor.LL

theorem and_nat (x y : Int) (x0 : 0 ≤ x) (x1 : x ≤ 18446744073709551615) (y0 : 0 ≤ y) (y1 : y ≤ 18446744073709551615) : bits .and .u64 x y = ((x.toNat &&& y.toNat : Nat) : Int) :=
  u64_and x y x0 (by omega) y0 (by omega)
theorem and_has (x y : Int) (k : Nat) (x0 : 0 ≤ x) (x1 : x ≤ 18446744073709551615) (y0 : 0 ≤ y) (y1 : y ≤ 18446744073709551615) : MM.hasB (bits .and .u64 x y) k = (MM.hasB x k && MM.hasB y k) := by
  rw [and_nat x y x0 x1 y0 y1]
  unfold MM.hasB
  rw [Int.toNat_natCast, Nat.testBit_and]
  cases decide (0 ≤ (k : Int) ∧ (k : Int) < 64) <;> simp
theorem and_bd (x y : Int) (x0 : 0 ≤ x) (x1 : x ≤ 18446744073709551615) (y0 : 0 ≤ y) (y1 : y ≤ 18446744073709551615) : 0 ≤ bits .and .u64 x y ∧ bits .and .u64 x y ≤ 18446744073709551615 := by
  rw [and_nat x y x0 x1 y0 y1]
  have : x.toNat &&& y.toNat ≤ x.toNat := Nat.and_le_left
  omega
theorem not_has (y k : Nat) (hy : y < 2 ^ 64) (hk : k < 64) : (18446744073709551615 - y).testBit k = !y.testBit k := by
  rw [show 18446744073709551615 - y = 2 ^ 64 - (y + 1) from by omega, Nat.testBit_two_pow_sub_succ hy]
  simp [hk]
theorem andNot_has (x y : Int) (k : Nat) (x0 : 0 ≤ x) (x1 : x ≤ 18446744073709551615) (y0 : 0 ≤ y) (y1 : y ≤ 18446744073709551615) : MM.hasB (bits .andNot .u64 x y) k = (MM.hasB x k && !MM.hasB y k) := by
  rw [u64_andNot x y x0 (by omega) y0 (by omega)]
  unfold MM.hasB
  by_cases hk : k < 64
  · rw [decide_eq_true (show 0 ≤ (k : Int) ∧ (k : Int) < 64 by omega), Int.toNat_natCast, Int.toNat_natCast, Nat.testBit_and]
    have := not_has y.toNat k (by omega) hk
    simp only [Bool.true_and]
    rw [← this]
  · rw [decide_eq_false (show ¬ (0 ≤ (k : Int) ∧ (k : Int) < 64) by omega)]; simp
theorem andNot_bd (x y : Int) (x0 : 0 ≤ x) (x1 : x ≤ 18446744073709551615) (y0 : 0 ≤ y) (y1 : y ≤ 18446744073709551615) : 0 ≤ bits .andNot .u64 x y ∧ bits .andNot .u64 x y ≤ 18446744073709551615 := by
  rw [u64_andNot x y x0 (by omega) y0 (by omega)]
  have : ∀ z : Nat, x.toNat &&& z ≤ x.toNat := fun z => Nat.and_le_left
  have := this (18446744073709551615 - y.toNat)
  omega

/-- is each number of x one of y? -/
def subB (x y : Int) : Bool := (List.range 64).all (fun k => !MM.hasB x (k : Int) || MM.hasB y (k : Int))
theorem has_lt {x : Int} {k : Nat} (h : MM.hasB x (k : Int) = true) : k < 64 := by
  unfold MM.hasB at h
  rw [Bool.and_eq_true, decide_eq_true_eq] at h
  omega
theorem sub_iff {x y : Int} : subB x y = true ↔ ∀ k : Nat, MM.hasB x (k : Int) = true → MM.hasB y (k : Int) = true := by
  unfold subB
  rw [List.all_eq_true]
  constructor
  · intro h k hk
    have := h k (List.mem_range.2 (has_lt hk))
    rw [hk] at this
    simpa using this
  · intro h k _
    cases e : MM.hasB x (k : Int)
    · rfl
    · rw [h k e]; rfl
theorem has_zero (k : Nat) : MM.hasB 0 (k : Int) = false := by
  unfold MM.hasB; simp
theorem sub_or (x y : Int) (x0 : 0 ≤ x) (x1 : x ≤ 18446744073709551615) (y0 : 0 ≤ y) (y1 : y ≤ 18446744073709551615) : (bits .or .u64 x y == y) = subB x y := by
  rw [Bool.eq_iff_iff, beq_iff_eq, sub_iff]
  constructor
  · intro h k hk
    have := or_has x y k x0 x1 y0 y1
    rw [h, hk, Bool.true_or] at this
    exact this
  · intro h
    have b := or_bd5 x y x0 x1 y0 y1
    refine mask_ext _ _ b.1 b.2 y0 y1 fun k => ?_
    rw [or_has x y k x0 x1 y0 y1]
    cases e : MM.hasB x (k : Int)
    · rfl
    · rw [h k e]; rfl
theorem sub_andNot (x y : Int) (x0 : 0 ≤ x) (x1 : x ≤ 18446744073709551615) (y0 : 0 ≤ y) (y1 : y ≤ 18446744073709551615) : (bits .andNot .u64 x y == 0) = subB x y := by
  rw [Bool.eq_iff_iff, beq_iff_eq, sub_iff]
  have hb := fun k => andNot_has x y k x0 x1 y0 y1
  constructor
  · intro h k hk
    have := hb k
    rw [h, has_zero, hk] at this
    simpa using this.symm
  · intro h
    have b := andNot_bd x y x0 x1 y0 y1
    refine mask_ext _ _ b.1 b.2 (by omega) (by omega) fun k => ?_
    rw [hb k, has_zero]
    cases e : MM.hasB x (k : Int)
    · rfl
    · rw [h k e]; rfl
theorem eq_sub {x y : Int} (x0 : 0 ≤ x) (x1 : x ≤ 18446744073709551615) (y0 : 0 ≤ y) (y1 : y ≤ 18446744073709551615) : x = y ↔ subB x y = true ∧ subB y x = true := by
  constructor
  · rintro rfl; exact ⟨sub_iff.2 fun _ h => h, sub_iff.2 fun _ h => h⟩
  · rintro ⟨h1, h2⟩
    refine mask_ext _ _ x0 x1 y0 y1 fun k => ?_
    rw [Bool.eq_iff_iff]
    exact ⟨sub_iff.1 h1 k, sub_iff.1 h2 k⟩
theorem has_below (n k : Nat) (hn : n ≤ 64) : MM.hasB (MM.belowI (n : Int)) (k : Int) = decide (k < n) := by
  have e : MM.belowI (n : Int) = MM.ones n := by
    unfold MM.belowI
    by_cases h : n < 64
    · rw [if_pos (by omega), Int.toNat_natCast]
    · rw [if_neg (by omega), show n = 64 by omega]
  rw [e]
  unfold MM.hasB MM.ones
  rw [Int.toNat_natCast, Int.toNat_natCast, Nat.testBit_two_pow_sub_one]
  by_cases hk : k < n
  · rw [decide_eq_true hk, decide_eq_true (show 0 ≤ (k : Int) ∧ (k : Int) < 64 by omega)]; rfl
  · rw [decide_eq_false hk, Bool.and_false]
theorem below_bd (n : Nat) (hn : n ≤ 64) : 0 ≤ MM.belowI (n : Int) ∧ MM.belowI (n : Int) ≤ 18446744073709551615 := by
  unfold MM.belowI
  split
  · exact MM.ones_bd _ (by omega)
  · exact MM.ones_bd 64 (Nat.le_refl _)
theorem has_withoutI (m : Int) (i j : Nat) (hi : i < 64) : MM.hasB (MM.withoutI m (i : Int)) (j : Int) = (MM.hasB m (j : Int) && !decide (i = j)) := by
  unfold MM.hasB MM.withoutI
  rw [if_pos (by omega), Int.toNat_natCast, Int.toNat_natCast, Int.toNat_natCast, Nat.testBit_and]
  by_cases hj : j < 64
  · have hp := MM.pow_pos64 i hi
    rw [not_has (2 ^ i) j (by omega) hj, Nat.testBit_two_pow, decide_eq_true (show 0 ≤ (j : Int) ∧ (j : Int) < 64 by omega)]
    simp
  · rw [decide_eq_false (show ¬ (0 ≤ (j : Int) ∧ (j : Int) < 64) by omega)]; simp
theorem mem_bits {m : Int} {k : Nat} : k ∈ MM.bitsOf m ↔ MM.hasB m (k : Int) = true := by
  unfold MM.bitsOf MM.upto
  rw [List.mem_filter, List.mem_range]
  exact ⟨fun h => h.2, fun h => ⟨has_lt h, h⟩⟩

/-! may an order be? -/
def pAt (xs : List Int) (i j : Nat) : Bool := !ab xs j i && (bits .andNot .u64 (xs[j]?.getD 0) (xs[i]?.getD 0) == 0)
def pRow (xs : List Int) (i : Nat) : Bool :=
  (ab xs i i && (bits .andNot .u64 (xs[i]?.getD 0) (MM.belowI xs.length) == 0)) && (MM.bitsOf (MM.withoutI (xs[i]?.getD 0) (i : Int))).all (pAt xs i)
theorem pRow_is {xs : List Int} (hw : Wide xs) (hl : xs.length ≤ 64) {i : Nat} (hi : i < xs.length) : pRow xs i = ordRow xs i := by
  have hb := below_bd xs.length hl
  have hx := hw.at i
  unfold pRow ordRow
  cases hii : ab xs i i
  · rfl
  · rw [sub_andNot _ _ hx.1 hx.2 hb.1 hb.2, Bool.true_and, Bool.true_and, Bool.eq_iff_iff, Bool.and_eq_true, List.all_eq_true, List.all_eq_true, sub_iff]
    have hat : ∀ j : Nat, pAt xs i j = (!ab xs j i && (bits .or .u64 (xs[j]?.getD 0) (xs[i]?.getD 0) == xs[i]?.getD 0)) := by
      intro j
      unfold pAt
      rw [sub_andNot _ _ (hw.at j).1 (hw.at j).2 hx.1 hx.2, sub_or _ _ (hw.at j).1 (hw.at j).2 hx.1 hx.2]
    constructor
    · rintro ⟨h1, h2⟩ k _
      unfold ordAt
      cases e : ab xs i k
      · rfl
      · have hk : k < xs.length := by
          have := h1 k e
          rw [has_below _ _ hl, decide_eq_true_eq] at this
          exact this
        rw [decide_eq_true hk]
        by_cases hki : k = i
        · subst hki
          have e2 : (bits .or .u64 (xs[k]?.getD 0) (xs[k]?.getD 0) == xs[k]?.getD 0) = true := by
            rw [sub_or _ _ hx.1 hx.2 hx.1 hx.2]; exact sub_iff.2 fun _ h => h
          rw [e2]; simp
        · have := h2 k (mem_bits.2 (by
            rw [has_withoutI _ _ _ (by omega)]
            have e' : MM.hasB (xs[i]?.getD 0) (k : Int) = true := e
            rw [e', decide_eq_false (fun h => hki h.symm)]; rfl))
          rw [hat, Bool.and_eq_true] at this
          rw [this.1, this.2]; simp
    · intro h
      have key : ∀ k, ab xs i k = true → k < xs.length ∧ (k = i ∨ ab xs k i = false) ∧ (bits .or .u64 (xs[k]?.getD 0) (xs[i]?.getD 0) == xs[i]?.getD 0) = true := by
        intro k hk
        have := h k (List.mem_range.2 (has_lt hk))
        unfold ordAt at this
        rw [hk] at this
        simpa [Bool.or_eq_true, Bool.and_eq_true] using this
      refine ⟨fun k hk => ?_, fun j hj => ?_⟩
      · rw [has_below _ _ hl, decide_eq_true_eq]; exact (key k hk).1
      · rw [mem_bits, has_withoutI _ _ _ (by omega), Bool.and_eq_true, Bool.not_eq_true', decide_eq_false_iff_not] at hj
        have := key j hj.1
        rw [hat, this.2.2, Bool.and_true, Bool.not_eq_true']
        rcases this.2.1 with e | e
        · exact absurd e.symm hj.2
        · exact e
theorem ord_rows {xs : List Int} (hw : Wide xs) (h : 1 ≤ xs.length ∧ xs.length ≤ 64) (ha : ∀ i, i < xs.length → pRow xs i = true) : ordB xs = true := by
  unfold ordB
  rw [decide_eq_true h, Bool.true_and]
  exact all_yes fun j hj => by rw [← pRow_is hw h.2 hj]; exact ha j hj
theorem ord_row_no {xs : List Int} (hw : Wide xs) (h : 1 ≤ xs.length ∧ xs.length ≤ 64) {i : Nat} (hi : i < xs.length) (ha : pRow xs i = false) : ordB xs = false := by
  unfold ordB
  rw [all_no (p := ordRow xs) hi (by rw [← pRow_is hw h.2 hi]; exact ha), Bool.and_false]
end Go.Proofs.YtgfjdnmnjabbbaaDoor.LL
