import Derived.Test.YtaaicmldldkhhaaDoorLatS
/-! plain: the least order in which pairs stand above one another -/
namespace Go.Proofs.YtaaicmldldkhhaaDoor.LL
set_option linter.unusedVariables false

/-- b stands above a by some pairs, one behind the other -/
inductive Reach (ps : List (Nat × Nat)) (i : Nat) : Nat → Prop where
  | refl : Reach ps i i
  | tail {k m : Nat} (h : Reach ps i k) (hp : (k, m) ∈ ps) : Reach ps i m
theorem Reach.trans {ps : List (Nat × Nat)} {i k m : Nat} (h : Reach ps i k) (g : Reach ps k m) : Reach ps i m := by
  induction g with
  | refl => exact h
  | tail _ hp ih => exact ih.tail hp
theorem Reach.one {ps : List (Nat × Nat)} {k m : Nat} (hp : (k, m) ∈ ps) : Reach ps k m := Reach.refl.tail hp

theorem or_nat (x y : Int) (x0 : 0 ≤ x) (x1 : x ≤ 18446744073709551615) (y0 : 0 ≤ y) (y1 : y ≤ 18446744073709551615) : bits .or .u64 x y = ((x.toNat ||| y.toNat : Nat) : Int) := by
  obtain ⟨a, rfl⟩ : ∃ a : Nat, x = a := ⟨x.toNat, by omega⟩
  obtain ⟨b, rfl⟩ : ∃ b : Nat, y = b := ⟨y.toNat, by omega⟩
  rw [u64_or_nat _ _ (by omega) (by omega)]
  simp
theorem or_has (x y : Int) (k : Nat) (x0 : 0 ≤ x) (x1 : x ≤ 18446744073709551615) (y0 : 0 ≤ y) (y1 : y ≤ 18446744073709551615) : MM.hasB (bits .or .u64 x y) k = (MM.hasB x k || MM.hasB y k) := by
  rw [or_nat x y x0 x1 y0 y1]
  unfold MM.hasB
  rw [Int.toNat_natCast, Nat.testBit_or]
  cases decide (0 ≤ (k : Int) ∧ (k : Int) < 64) <;> simp
theorem or_bd5 (x y : Int) (x0 : 0 ≤ x) (x1 : x ≤ 18446744073709551615) (y0 : 0 ≤ y) (y1 : y ≤ 18446744073709551615) : 0 ≤ bits .or .u64 x y ∧ bits .or .u64 x y ≤ 18446744073709551615 := by
  rw [or_nat x y x0 x1 y0 y1]
  have : x.toNat ||| y.toNat < 2 ^ 64 := Nat.or_lt_two_pow (by omega) (by omega)
  omega
theorem or_ge (x y : Int) (x0 : 0 ≤ x) (x1 : x ≤ 18446744073709551615) (y0 : 0 ≤ y) (y1 : y ≤ 18446744073709551615) : x ≤ bits .or .u64 x y := by
  rw [or_nat x y x0 x1 y0 y1]
  have : x.toNat ≤ x.toNat ||| y.toNat := Nat.left_le_or
  omega
theorem mask_ext (x y : Int) (x0 : 0 ≤ x) (x1 : x ≤ 18446744073709551615) (y0 : 0 ≤ y) (y1 : y ≤ 18446744073709551615) (h : ∀ k : Nat, MM.hasB x k = MM.hasB y k) : x = y := by
  have e : x.toNat = y.toNat := by
    apply Nat.eq_of_testBit_eq
    intro j
    by_cases hj : j < 64
    · have := h j
      unfold MM.hasB at this
      rw [decide_eq_true (show 0 ≤ (j : Int) ∧ (j : Int) < 64 by omega), Bool.true_and, Bool.true_and, Int.toNat_natCast] at this
      exact this
    · have hp : (2 : Nat) ^ 64 ≤ 2 ^ j := Nat.pow_le_pow_right (by decide) (by omega)
      have h64 : (2 : Nat) ^ 64 = 18446744073709551616 := by decide
      rw [Nat.testBit_lt_two_pow (Nat.lt_of_lt_of_le (show x.toNat < 2 ^ 64 by omega) hp), Nat.testBit_lt_two_pow (Nat.lt_of_lt_of_le (show y.toNat < 2 ^ 64 by omega) hp)]
  omega

/-- masks that tell of nothing but what pairs lead to -/
def Inv (n : Nat) (ps : List (Nat × Nat)) (S : List Int) : Prop := S.length = n ∧ Wide S ∧ ∀ i k, i < n → ab S i k = true → k < n ∧ Reach ps i k
/-- .. of each level itself, and of the pairs -/
def Comp (n : Nat) (ps : List (Nat × Nat)) (S : List Int) : Prop := (∀ i, i < n → ab S i i = true) ∧ ∀ p ∈ ps, ab S p.1 p.2 = true
def closedAt (S : List Int) (i k : Nat) : Bool := !ab S i k || (bits .or .u64 (S[i]?.getD 0) (S[k]?.getD 0) == S[i]?.getD 0)
def Closed (n : Nat) (S : List Int) : Prop := ∀ i, i < n → ∀ k, k < n → closedAt S i k = true
/-- the least order with the pairs -/
def IsClose (n : Nat) (ps : List (Nat × Nat)) (S : List Int) : Prop := S.length = n ∧ Wide S ∧ ∀ i k, i < n → (ab S i k = true ↔ Reach ps i k)
theorem close_one {n : Nat} {ps : List (Nat × Nat)} {S T : List Int} (h : IsClose n ps S) (g : IsClose n ps T) : S = T := by
  apply List.ext_getElem?
  intro i
  by_cases hi : i < n
  · have e : S[i]?.getD 0 = T[i]?.getD 0 := by
      refine mask_ext _ _ (h.2.1.at i).1 (h.2.1.at i).2 (g.2.1.at i).1 (g.2.1.at i).2 fun k => ?_
      have := (h.2.2 i k hi).trans (g.2.2 i k hi).symm
      unfold ab at this
      rw [Bool.eq_iff_iff]; exact this
    rw [List.getElem?_eq_getElem (by rw [h.1]; exact hi), List.getElem?_eq_getElem (by rw [g.1]; exact hi)] at e ⊢
    simpa using e
  · rw [List.getElem?_eq_none (by rw [h.1]; omega), List.getElem?_eq_none (by rw [g.1]; omega)]
theorem close_of {n : Nat} {ps : List (Nat × Nat)} {S : List Int} (h : Inv n ps S) (hc : Comp n ps S) (hd : Closed n S) : IsClose n ps S := by
  refine ⟨h.1, h.2.1, fun i k hi => ⟨fun e => (h.2.2 i k hi e).2, fun r => ?_⟩⟩
  induction r with
  | refl => exact hc.1 i hi
  | tail r hp ih =>
    rename_i k m
    have hk := (h.2.2 i k hi ih).1
    have h1 := hc.2 _ hp
    have h2 := hd i hi k hk
    unfold closedAt at h2
    rw [ih] at h2
    have h3 : bits .or .u64 (S[i]?.getD 0) (S[k]?.getD 0) = S[i]?.getD 0 := by simpa using h2
    have h4 := or_has (S[i]?.getD 0) (S[k]?.getD 0) m (h.2.1.at i).1 (h.2.1.at i).2 (h.2.1.at k).1 (h.2.1.at k).2
    rw [h3] at h4
    unfold ab at h1 ⊢
    rw [h4]
    simp only at h1
    rw [h1, Bool.or_true]

/-- how far masks are from being full -/
def far : List Int → Nat
  | [] => 0
  | x :: l => (18446744073709551615 - x).toNat + far l
theorem far_set (S : List Int) (i : Nat) (y : Int) (hi : i < S.length) (h : S[i]?.getD 0 < y) (hy : y ≤ 18446744073709551615) : far (S.set i y) < far S := by
  induction S generalizing i with
  | nil => simp at hi
  | cons x l ih =>
    cases i with
    | zero => simp [far] at h ⊢; omega
    | succ i =>
      have := ih i (by simpa using hi) (by simpa using h)
      simp [far]; omega
theorem get_set (S : List Int) (i j : Nat) (y : Int) (hi : i < S.length) : (S.set i y)[j]?.getD 0 = if j = i then y else S[j]?.getD 0 := by
  rw [List.getElem?_set]
  by_cases e : j = i
  · subst e; simp [hi]
  · rw [if_neg (fun h => e h.symm), if_neg e]
theorem wide_set {S : List Int} (h : Wide S) (i : Nat) (y : Int) (y0 : 0 ≤ y) (y1 : y ≤ 18446744073709551615) : Wide (S.set i y) := by
  intro x hx
  rcases List.mem_or_eq_of_mem_set hx with h' | rfl
  · exact h x h'
  · exact ⟨y0, y1⟩
/-- what a mask takes over from one that stands above it -/
theorem inv_or {n : Nat} {ps : List (Nat × Nat)} {S : List Int} (h : Inv n ps S) {i k : Nat} (hi : i < n) (hk : ab S i k = true) :
    Inv n ps (S.set i (bits .or .u64 (S[i]?.getD 0) (S[k]?.getD 0))) := by
  have bi := h.2.1.at i
  have bk := h.2.1.at k
  have bo := or_bd5 _ _ bi.1 bi.2 bk.1 bk.2
  refine ⟨by rw [List.length_set]; exact h.1, wide_set h.2.1 i _ bo.1 bo.2, fun j m hj e => ?_⟩
  unfold ab at e
  rw [get_set _ _ _ _ (by rw [h.1]; exact hi)] at e
  by_cases hji : j = i
  · subst hji
    rw [if_pos rfl, or_has _ _ m bi.1 bi.2 bk.1 bk.2, Bool.or_eq_true] at e
    rcases e with e | e
    · exact h.2.2 j m hj e
    · have hk' := h.2.2 j k hj hk
      have hm := h.2.2 k m hk'.1 e
      exact ⟨hm.1, hk'.2.trans hm.2⟩
  · rw [if_neg hji] at e
    exact h.2.2 j m hj e
theorem ab_or {S : List Int} (hw : Wide S) {i k : Nat} (hi : i < S.length) {j m : Nat} (e : ab S j m = true) : ab (S.set i (bits .or .u64 (S[i]?.getD 0) (S[k]?.getD 0))) j m = true := by
  unfold ab at *
  rw [get_set _ _ _ _ hi]
  by_cases hji : j = i
  · subst hji
    rw [if_pos rfl, or_has _ _ m (hw.at j).1 (hw.at j).2 (hw.at k).1 (hw.at k).2, e, Bool.true_or]
  · rw [if_neg hji]; exact e
theorem comp_or {n : Nat} {ps : List (Nat × Nat)} {S : List Int} (h : Inv n ps S) (hc : Comp n ps S) {i k : Nat} (hi : i < n) :
    Comp n ps (S.set i (bits .or .u64 (S[i]?.getD 0) (S[k]?.getD 0))) :=
  ⟨fun j hj => ab_or h.2.1 (by rw [h.1]; exact hi) (hc.1 j hj), fun p hp => ab_or h.2.1 (by rw [h.1]; exact hi) (hc.2 p hp)⟩
theorem all_row {n k : Nat} {f : Nat → Nat → Bool} (h : ∀ i, i < k → ∀ j, j < n → f i j = true) (hk : ∀ j, j < n → f k j = true) : ∀ i, i < k + 1 → ∀ j, j < n → f i j = true := by
  intro i hi j hj
  by_cases e : i = k
  · subst e; exact hk j hj
  · exact h i (by omega) j hj
/-- one look more that finds nothing to do -/
theorem next_closed {n : Nat} {ps : List (Nat × Nat)} {S Sr : List Int} {t : Bool} {k q : Nat}
    (h : Inv n ps S ∧ Comp n ps S ∧ ((t = false ∧ S = Sr ∧ (∀ i', i' < k → ∀ j, j < n → closedAt Sr i' j = true) ∧ ∀ j, j < q → closedAt Sr k j = true) ∨ (t = true ∧ far S < far Sr)))
    (hc : closedAt S k q = true) :
    Inv n ps S ∧ Comp n ps S ∧ ((t = false ∧ S = Sr ∧ (∀ i', i' < k → ∀ j, j < n → closedAt Sr i' j = true) ∧ ∀ j, j < q + 1 → closedAt Sr k j = true) ∨ (t = true ∧ far S < far Sr)) := by
  obtain ⟨h1, h2, ⟨h3, h4, h5, h6⟩ | h3⟩ := h
  · refine ⟨h1, h2, .inl ⟨h3, h4, h5, ?_⟩⟩
    rw [h4] at hc
    exact all_step h6 hc
  · exact ⟨h1, h2, .inr h3⟩
/-- one that takes over -/
theorem next_or {n : Nat} {ps : List (Nat × Nat)} {S Sr : List Int} {t : Bool} {k q : Nat} (hk : k < n)
    (h : Inv n ps S ∧ Comp n ps S ∧ ((t = false ∧ S = Sr ∧ (∀ i', i' < k → ∀ j, j < n → closedAt Sr i' j = true) ∧ ∀ j, j < q → closedAt Sr k j = true) ∨ (t = true ∧ far S < far Sr)))
    (hab : ab S k q = true) (hne : (bits .or .u64 (S[k]?.getD 0) (S[q]?.getD 0) == S[k]?.getD 0) = false) :
    Inv n ps (S.set k (bits .or .u64 (S[k]?.getD 0) (S[q]?.getD 0))) ∧ Comp n ps (S.set k (bits .or .u64 (S[k]?.getD 0) (S[q]?.getD 0))) ∧ far (S.set k (bits .or .u64 (S[k]?.getD 0) (S[q]?.getD 0))) < far Sr := by
  obtain ⟨h1, h2, h3⟩ := h
  refine ⟨inv_or h1 hk hab, comp_or h1 h2 hk, ?_⟩
  have bk := h1.2.1.at k
  have bq := h1.2.1.at q
  have hge := or_ge _ _ bk.1 bk.2 bq.1 bq.2
  have hbd := or_bd5 _ _ bk.1 bk.2 bq.1 bq.2
  rw [beq_eq_false_iff_ne] at hne
  have hlt := far_set S k (bits .or .u64 (S[k]?.getD 0) (S[q]?.getD 0)) (by rw [h1.1]; exact hk) (by omega) hbd.2
  rcases h3 with ⟨_, rfl, _⟩ | ⟨_, h4⟩
  · exact hlt
  · omega
end Go.Proofs.YtaaicmldldkhhaaDoor.LL
