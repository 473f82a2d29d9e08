import Derived.Test.YtbdmpilaeoclgaaPostX
set_option linter.unusedSimpArgs false
set_option linter.unusedVariables false
/-! plain: a graph without forks -/
namespace Go.Proofs.Ytbdmpilaeoclgaa.DD
open GG
/-- the first m rows of a line of k nodes -/
def lineR (k m : Nat) : List (List Int) := (List.range m).map fun i => if i + 1 < k then [(i : Int) + 1] else []
def lineG (k : Nat) : List (List Int) := lineR k k
theorem lineR_succ (k m : Nat) : lineR k (m + 1) = lineR k m ++ [if m + 1 < k then [(m : Int) + 1] else []] := by
  unfold lineR; rw [List.range_succ, List.map_append]; rfl
theorem line_len (k : Nat) : (lineG k).length = k := by unfold lineG lineR; simp
theorem line_at {k i : Nat} (h : i < k) : (lineG k)[i]?.getD [] = if i + 1 < k then [(i : Int) + 1] else [] := by
  unfold lineG lineR
  rw [List.getElem?_map, List.getElem?_range h]; rfl
theorem line_right {k : Nat} (h0 : 1 ≤ k) (h : k ≤ 256) : rightG (lineG k) = true := by
  refine right_mk (by rw [line_len]; exact h0) (by rw [line_len]; exact h) (fun i hi => ?_)
  rw [line_len] at hi ⊢
  rw [line_at hi]
  split
  · exact row_mk (fun j hj => by rw [List.mem_singleton.1 hj]; omega) (by simp)
  · exact row_mk (fun j hj => by cases hj) (by simp)
theorem line_adj {k i : Nat} (h : i < k) : adjOf (lineG k) i = if i + 1 < k then [i + 1] else [] := by
  unfold adjOf
  rw [line_at h]
  split
  · simp
  · rfl
theorem line_exit {k i : Nat} (h : i < k) : exitB (lineG k) i = decide (i + 1 = k) := by
  unfold exitB
  rw [line_at h]
  by_cases e : i + 1 < k
  · rw [if_pos e, decide_eq_false (by omega)]; rfl
  · rw [if_neg e, decide_eq_true (by omega)]; rfl
/-- ways on a line lead up -/
theorem line_reach {k a b i : Nat} (h : GG.Reach (cut (adjOf (lineG k)) a) b i) (hb : b < k) : b ≤ i ∧ i < k ∧ (b < a → i < a) := by
  induction h with
  | refl => exact ⟨Nat.le_refl _, hb, fun h => h⟩
  | @step j l hj hl ih =>
    obtain ⟨h1, h2, h3⟩ := ih
    obtain ⟨h4, h5⟩ := mem_cut.1 hl
    rw [line_adj h2] at h4
    split at h4
    · have := List.mem_singleton.1 h4
      exact ⟨by omega, by omega, fun h => by have := h3 h; omega⟩
    · cases h4
theorem line_up {k a b : Nat} (n : Nat) (h : b + n < k) (ha : a < b ∨ k ≤ a ∨ b + n < a) : GG.Reach (cut (adjOf (lineG k)) a) b (b + n) := by
  induction n with
  | zero => exact .refl _
  | succ n ih =>
    refine .step (ih (by omega) (by omega)) (mem_cut.2 ⟨?_, by omega⟩)
    rw [line_adj (by omega), if_pos (by omega)]
    exact List.mem_singleton.2 rfl
theorem line_beh {k a b : Nat} (h0 : 1 ≤ k) (h : k ≤ 256) (hb : b < k) : behB (lineG k) a b = true ↔ a = b ∨ (b < a ∧ a < k) := by
  have hr := line_right h0 h
  have hb' : b < (lineG k).length := by rw [line_len]; exact hb
  constructor
  · intro hh
    refine Classical.byContradiction fun hn => ?_
    have hc := (beh_no hr hb').2 ⟨fun e => hn (.inl e), k - 1, by rw [line_len]; omega, by rw [line_exit (by omega), decide_eq_true (by omega)], by
      have := line_up (k := k) (a := a) (b := b) (k - 1 - b) (by omega) (by omega)
      rwa [show b + (k - 1 - b) = k - 1 by omega] at this⟩
    rw [hh] at hc; cases hc
  · intro hh
    cases c : behB (lineG k) a b
    · obtain ⟨hab, e, he, hex, hre⟩ := (beh_no hr hb').1 c
      rw [line_len] at he
      rw [line_exit he, decide_eq_true_eq] at hex
      have := line_reach hre hb
      omega
    · rfl
theorem line_isM {k a b : Nat} (h0 : 1 ≤ k) (h : k ≤ 256) (hb : b < k) (ha : a < k) : isM (lineG k) b a = true ↔ a = b + 1 := by
  unfold isM
  rw [Bool.and_eq_true, Bool.and_eq_true, decide_eq_true_eq, line_beh h0 h hb, List.all_eq_true, line_len]
  constructor
  · rintro ⟨⟨h1, h2⟩, h3⟩
    refine Classical.byContradiction fun hn => ?_
    have h4 := h3 (b + 1) (List.mem_range.2 (by omega))
    rw [(line_beh h0 h hb).2 (.inr ⟨Nat.lt_succ_self b, by omega⟩), decide_eq_false (by omega), decide_eq_false (by omega)] at h4
    have h5 := (line_beh h0 h ha).1 (by simpa using h4)
    omega
  · rintro rfl
    refine ⟨⟨by omega, .inr ⟨by omega, ha⟩⟩, fun x hx => ?_⟩
    have hx := List.mem_range.1 hx
    rw [Bool.or_eq_true, Bool.or_eq_true, Bool.or_eq_true, decide_eq_true_eq, decide_eq_true_eq, Bool.not_eq_true']
    by_cases e : x = b
    · exact .inl (.inl (.inl e))
    · by_cases e2 : x = b + 1
      · exact .inl (.inl (.inr e2))
      · by_cases e3 : b < x
        · exact .inr ((line_beh h0 h ha).2 (.inr ⟨by omega, hx⟩))
        · refine .inl (.inr ?_)
          cases c : behB (lineG k) x b
          · rfl
          · have := (line_beh h0 h hb).1 c; omega
theorem line_meet {k b : Nat} (h0 : 1 ≤ k) (h : k ≤ 256) (hb : b < k) : meetI (lineG k) b = (b : Int) + 1 := by
  unfold meetI
  simp only [line_len]
  by_cases e : b + 1 < k
  · have := lastN_one (p := isM (lineG k) b) e ((line_isM h0 h hb e).2 rfl) (fun a ha h1 => (line_isM h0 h hb ha).1 h1)
    rw [this, if_neg (by omega)]; omega
  · have := lastN_none (p := isM (lineG k) b) (n := k) (fun a ha => by
      cases c : isM (lineG k) b a
      · rfl
      · have := (line_isM h0 h hb ha).1 c; omega)
    rw [this, if_pos (by omega)]; omega
theorem line_ok {k : Nat} (h0 : 1 ≤ k) (h : k ≤ 255) : postOk (lineG k) = true := by
  have hr := line_right h0 (by omega)
  have hno : cut (adjOf (lineG k)) k = adjOf (lineG k) := cut_out fun x j hj e => by have := adj_lt hr x j hj; rw [line_len] at this; omega
  have up : ∀ b i, b ≤ i → i < k → GG.Reach (adjN (lineG k) (-1)) b i := fun b i h1 h2 => by
    rw [adjN_none (lineG k) (-1) (by decide)]
    have := line_up (k := k) (a := k) (b := b) (i - b) (by omega) (by omega)
    rwa [hno, show b + (i - b) = i by omega] at this
  refine postOk_iff.2 ⟨by rw [line_len]; exact h, hr, ?_, ?_⟩
  · unfold allB
    rw [line_len, List.all_eq_true]
    intro i hi
    exact (reachB_iff hr (by rw [line_len]; omega) i).2 (up 0 i (Nat.zero_le _) (List.mem_range.1 hi))
  · unfold allEnds
    rw [line_len, List.all_eq_true]
    intro i hi
    have hi := List.mem_range.1 hi
    unfold endsB
    rw [line_len, List.any_eq_true]
    refine ⟨k - 1, List.mem_range.2 (by omega), ?_⟩
    rw [Bool.and_eq_true]
    exact ⟨(reachB_iff hr (by rw [line_len]; exact hi) _).2 (up i (k - 1) (by omega) (by omega)), by rw [line_exit (by omega), decide_eq_true (by omega)]⟩
theorem line_way {k i : Nat} (h : i < k) : ¬ 2 ≤ ((lineG k)[i]?.getD []).length := by
  rw [line_at h]; split <;> simp
end Go.Proofs.Ytbdmpilaeoclgaa.DD
