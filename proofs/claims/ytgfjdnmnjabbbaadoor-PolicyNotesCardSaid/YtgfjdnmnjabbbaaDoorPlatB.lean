import Derived.Test.YtgfjdnmnjabbbaaDoorPlatH
import Derived.Test.YtgfjdnmnjabbbaaDoorLatAll
set_option linter.unusedSimpArgs false
set_option linter.unusedVariables false
/-! plain: putting above each level what stands above what stands above it -/
namespace Go.Proofs.YtgfjdnmnjabbbaaDoor.LL

/-- the row of j, when k is gone through -/
def stepR (S : List Int) (k j : Nat) : Int := if ab S j k = true then bits .or .u64 (S[j]?.getD 0) (S[k]?.getD 0) else S[j]?.getD 0
/-- the first i rows are done -/
def midL (S : List Int) (k i : Nat) : List Int := (List.range S.length).map fun j => if j < i then stepR S k j else S[j]?.getD 0
theorem mid_len (S : List Int) (k i : Nat) : (midL S k i).length = S.length := by unfold midL; simp
theorem mid_at (S : List Int) (k i : Nat) {j : Nat} (hj : j < S.length) : (midL S k i)[j]?.getD 0 = if j < i then stepR S k j else S[j]?.getD 0 := by
  unfold midL; rw [List.getElem?_map, List.getElem?_range hj]; rfl
theorem ext_getD {S T : List Int} (hl : S.length = T.length) (h : ∀ j, j < T.length → S[j]?.getD 0 = T[j]?.getD 0) : S = T := by
  apply List.ext_getElem?
  intro j
  by_cases hj : j < T.length
  · have := h j hj
    rw [List.getElem?_eq_getElem (show j < S.length by omega), List.getElem?_eq_getElem hj] at this ⊢
    simpa using this
  · rw [List.getElem?_eq_none (by omega), List.getElem?_eq_none (by omega)]
theorem mid_zero (S : List Int) (k : Nat) : midL S k 0 = S :=
  ext_getD (mid_len S k 0) fun j hj => by rw [mid_at S k 0 hj, if_neg (by omega)]
theorem or_self5 (x : Int) (h : 0 ≤ x ∧ x ≤ 18446744073709551615) : bits .or .u64 x x = x := by
  rw [or_nat x x h.1 h.2 h.1 h.2, Nat.or_self]; omega
theorem step_self {S : List Int} (hw : Wide S) (k : Nat) : stepR S k k = S[k]?.getD 0 := by
  unfold stepR
  split
  · exact or_self5 _ (hw.at k)
  · rfl
theorem mid_row {S : List Int} (hw : Wide S) {k i : Nat} (hi : i < S.length) (hk : k < S.length) : (midL S k i)[i]?.getD 0 = S[i]?.getD 0 ∧ (midL S k i)[k]?.getD 0 = S[k]?.getD 0 := by
  refine ⟨by rw [mid_at S k i hi, if_neg (by omega)], ?_⟩
  rw [mid_at S k i hk]
  split
  · exact step_self hw k
  · rfl
theorem mid_yes {S : List Int} {k i : Nat} (hi : i < S.length) (h : ab S i k = true) : (midL S k i).set i (bits .or .u64 (S[i]?.getD 0) (S[k]?.getD 0)) = midL S k (i + 1) := by
  refine ext_getD (by rw [List.length_set, mid_len, mid_len]) fun j hj => ?_
  rw [mid_len] at hj
  rw [get_set (midL S k i) i j _ (by rw [mid_len]; exact hi), mid_at S k (i + 1) hj, mid_at S k i hj]
  by_cases e : j = i
  · subst e; rw [if_pos rfl, if_pos (by omega)]; unfold stepR; rw [if_pos h]
  · rw [if_neg e]
    by_cases hlt : j < i
    · rw [if_pos hlt, if_pos (by omega)]
    · rw [if_neg hlt, if_neg (by omega)]
theorem mid_no {S : List Int} {k i : Nat} (h : ab S i k = false) : midL S k i = midL S k (i + 1) := by
  refine ext_getD (by rw [mid_len, mid_len]) fun j hj => ?_
  rw [mid_len] at hj
  rw [mid_at S k (i + 1) hj, mid_at S k i hj]
  by_cases e : j = i
  · subst e; rw [if_neg (by omega), if_pos (by omega)]; unfold stepR; rw [h]; rfl
  · by_cases hlt : j < i
    · rw [if_pos hlt, if_pos (by omega)]
    · rw [if_neg hlt, if_neg (by omega)]
theorem step_bd {S : List Int} (hw : Wide S) (k j : Nat) : 0 ≤ stepR S k j ∧ stepR S k j ≤ 18446744073709551615 := by
  unfold stepR
  split
  · exact or_bd5 _ _ (hw.at j).1 (hw.at j).2 (hw.at k).1 (hw.at k).2
  · exact hw.at j
theorem mid_wide {S : List Int} (hw : Wide S) (k i : Nat) : Wide (midL S k i) := by
  intro x hx
  unfold midL at hx
  obtain ⟨j, _, rfl⟩ := List.mem_map.1 hx
  show 0 ≤ (if j < i then stepR S k j else S[j]?.getD 0) ∧ (if j < i then stepR S k j else S[j]?.getD 0) ≤ _
  split
  · exact step_bd hw k j
  · exact hw.at j
def passL (S : List Int) (k : Nat) : List Int := midL S k S.length
theorem pass_ab {S : List Int} (hw : Wide S) (k : Nat) {i : Nat} (hi : i < S.length) (j : Nat) : ab (passL S k) i j = true ↔ ab S i j = true ∨ (ab S i k = true ∧ ab S k j = true) := by
  show MM.hasB ((passL S k)[i]?.getD 0) (j : Int) = true ↔ _
  unfold passL
  rw [mid_at S k _ hi, if_pos hi]
  unfold stepR
  by_cases h : ab S i k = true
  · rw [if_pos h, or_has _ _ j (hw.at i).1 (hw.at i).2 (hw.at k).1 (hw.at k).2, Bool.or_eq_true]
    show ab S i j = true ∨ ab S k j = true ↔ _
    simp [h]
  · rw [if_neg h]
    show ab S i j = true ↔ _
    simp [h]
/-- k levels are gone through -/
def chL (S : List Int) : Nat → List Int
  | 0 => S
  | k + 1 => passL (chL S k) k
theorem ch_len (S : List Int) (k : Nat) : (chL S k).length = S.length := by
  induction k with
  | zero => rfl
  | succ k ih => show (midL _ _ _).length = _; rw [mid_len, ih]
theorem ch_wide {S : List Int} (hw : Wide S) (k : Nat) : Wide (chL S k) := by
  induction k with
  | zero => exact hw
  | succ k ih => exact mid_wide ih _ _
theorem ch_inv {n : Nat} {ps : List (Nat × Nat)} {S : List Int} (h : Inv n ps S) (hc : Comp n ps S) : ∀ k, k ≤ n →
    Inv n ps (chL S k) ∧ Comp n ps (chL S k) ∧ ∀ c, c < k → ∀ i j, i < n → ab (chL S k) i c = true → ab (chL S k) c j = true → ab (chL S k) i j = true := by
  intro k
  induction k with
  | zero => intro _; exact ⟨h, hc, fun c hc => absurd hc (Nat.not_lt_zero _)⟩
  | succ k ih =>
    intro hk
    obtain ⟨h1, h2, h3⟩ := ih (by omega)
    have hl : (chL S k).length = n := h1.1
    have hw := h1.2.1
    have hp : ∀ i, i < n → ∀ j, ab (chL S (k + 1)) i j = true ↔ ab (chL S k) i j = true ∨ (ab (chL S k) i k = true ∧ ab (chL S k) k j = true) :=
      fun i hi j => pass_ab hw k (by rw [hl]; exact hi) j
    have hlt : ∀ i, i < n → ∀ j, ab (chL S k) i j = true → j < n := fun i hi j e => (h1.2.2 i j hi e).1
    have hkn : k < n := by omega
    refine ⟨⟨by rw [ch_len, ← h.1], ch_wide h.2.1 _, fun i j hi e => ?_⟩, ⟨fun i hi => (hp i hi i).2 (.inl (h2.1 i hi)), fun p hm => ?_⟩, fun c hck i j hi e1 e2 => ?_⟩
    · rcases (hp i hi j).1 e with g | ⟨g1, g2⟩
      · exact h1.2.2 i j hi g
      · have a1 := h1.2.2 i k hi g1
        have a2 := h1.2.2 k j hkn g2
        exact ⟨a2.1, a1.2.trans a2.2⟩
    · have := h2.2 p hm
      have hi : p.1 < n := by
        apply Classical.byContradiction
        intro hn
        have hz : (chL S k)[p.1]?.getD 0 = 0 := by rw [List.getElem?_eq_none (by omega)]; rfl
        unfold ab at this
        rw [hz, has_zero] at this
        cases this
      exact (hp p.1 hi p.2).2 (.inl this)
    · have e1' := (hp i hi c).1 e1
      have hcn : c < n := by
        rcases e1' with g | ⟨_, g⟩
        · exact hlt i hi c g
        · exact hlt k hkn c g
      have e2' := (hp c hcn j).1 e2
      rw [hp i hi j]
      by_cases e : c = k
      · subst e
        have a1 : ab (chL S c) i c = true := by rcases e1' with g | g; exact g; exact g.1
        have a2 : ab (chL S c) c j = true := by rcases e2' with g | g; exact g; exact g.2
        exact .inr ⟨a1, a2⟩
      · have hc' : c < k := by omega
        rcases e1' with g | ⟨g1, g2⟩
        · rcases e2' with f | ⟨f1, f2⟩
          · exact .inl (h3 c hc' i j hi g f)
          · exact .inr ⟨h3 c hc' i k hi g f1, f2⟩
        · rcases e2' with f | ⟨f1, f2⟩
          · exact .inr ⟨g1, h3 c hc' k j hkn g2 f⟩
          · exact .inr ⟨g1, f2⟩
theorem ch_close {n : Nat} {ps : List (Nat × Nat)} {S : List Int} (h : Inv n ps S) (hc : Comp n ps S) : IsClose n ps (chL S n) := by
  obtain ⟨h1, h2, h3⟩ := ch_inv h hc n (Nat.le_refl _)
  refine close_of h1 h2 fun i hi k hk => ?_
  unfold closedAt
  cases e : ab (chL S n) i k
  · rfl
  · have bi := h1.2.1.at i
    have bk := h1.2.1.at k
    rw [Bool.not_true, Bool.false_or, beq_iff_eq]
    have bo := or_bd5 _ _ bi.1 bi.2 bk.1 bk.2
    refine mask_ext _ _ bo.1 bo.2 bi.1 bi.2 fun m => ?_
    rw [or_has _ _ m bi.1 bi.2 bk.1 bk.2]
    cases e2 : MM.hasB ((chL S n)[k]?.getD 0) (m : Int)
    · rw [Bool.or_false]
    · have : MM.hasB ((chL S n)[i]?.getD 0) (m : Int) = true := h3 k hk i m hi e e2
      rw [this]; rfl
end Go.Proofs.YtgfjdnmnjabbbaaDoor.LL
