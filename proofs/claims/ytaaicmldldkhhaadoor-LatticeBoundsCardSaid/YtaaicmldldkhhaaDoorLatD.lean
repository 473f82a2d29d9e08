import Derived.Test.YtaaicmldldkhhaaDoorLatC
set_option linter.unusedSimpArgs false
set_option linter.unusedVariables false
/-! plain: how long the chains of an order are -/
namespace Go.Proofs.YtaaicmldldkhhaaDoor.LL

/-- b stands above a, and is another level -/
def st (xs : List Int) (a b : Nat) : Bool := a != b && ab xs a b
def maxUp (f : Nat → Nat) : Nat → Nat
  | 0 => 0
  | k + 1 => max (maxUp f k) (f k)
theorem maxUp_le {f : Nat → Nat} {n k : Nat} (h : k < n) : f k ≤ maxUp f n := by
  induction n with
  | zero => omega
  | succ n ih =>
    by_cases e : k = n
    · subst e; exact Nat.le_max_right _ _
    · exact Nat.le_trans (ih (by omega)) (Nat.le_max_left _ _)
theorem maxUp_hit (f : Nat → Nat) (n : Nat) : maxUp f n = 0 ∨ ∃ k, k < n ∧ maxUp f n = f k := by
  induction n with
  | zero => exact .inl rfl
  | succ n ih =>
    show max (maxUp f n) (f n) = 0 ∨ ∃ k, k < n + 1 ∧ max (maxUp f n) (f n) = f k
    by_cases h : maxUp f n ≤ f n
    · exact .inr ⟨n, by omega, Nat.max_eq_right h⟩
    · rw [Nat.max_eq_left (by omega)]
      rcases ih with h0 | ⟨k, hk, e⟩
      · exact .inl h0
      · exact .inr ⟨k, by omega, e⟩
theorem maxUp_congr {f g : Nat → Nat} {n : Nat} (h : ∀ k, k < n → f k = g k) : maxUp f n = maxUp g n := by
  induction n with
  | zero => rfl
  | succ n ih => show max (maxUp f n) (f n) = max (maxUp g n) (g n); rw [ih (fun k hk => h k (by omega)), h n (by omega)]
/-- the longest chain from a on, of f steps at most -/
def dep (xs : List Int) : Nat → Nat → Nat
  | 0, _ => 0
  | f + 1, a => maxUp (fun b => if st xs a b = true then dep xs f b + 1 else 0) xs.length
def longL (xs : List Int) (a : Nat) : Nat := dep xs xs.length a
/-- how many levels the longest chain has, less one -/
def heightN (xs : List Int) : Nat := maxUp (longL xs) xs.length
def cnt (xs : List Int) (a : Nat) : Nat := ((List.range xs.length).filter (ab xs a)).length

theorem ord_refl {xs : List Int} (h : ordB xs = true) {i : Nat} (hi : i < xs.length) : ab xs i i = true := by
  unfold ordB at h
  rw [Bool.and_eq_true, List.all_eq_true] at h
  have := h.2 i (List.mem_range.2 hi)
  unfold ordRow at this
  rw [Bool.and_eq_true] at this
  exact this.1
theorem ord_at {xs : List Int} (h : ordB xs = true) {i k : Nat} (hi : i < xs.length) (hk : ab xs i k = true) :
    k < xs.length ∧ (k = i ∨ ab xs k i = false) ∧ (bits .or .u64 (xs[k]?.getD 0) (xs[i]?.getD 0) == xs[i]?.getD 0) = true := by
  have hk64 : k < 64 := by
    unfold ab MM.hasB at hk
    rw [Bool.and_eq_true, decide_eq_true_eq] at hk
    omega
  unfold ordB at h
  rw [Bool.and_eq_true, List.all_eq_true] at h
  have := h.2 i (List.mem_range.2 hi)
  unfold ordRow at this
  rw [Bool.and_eq_true, List.all_eq_true] at this
  have := this.2 k (List.mem_range.2 hk64)
  unfold ordAt at this
  rw [hk] at this
  simp only [Bool.not_true, Bool.false_or, Bool.and_eq_true, decide_eq_true_eq, Bool.or_eq_true, beq_iff_eq, Bool.not_eq_true'] at this
  exact ⟨this.1, this.2.1, by rw [beq_iff_eq]; exact this.2.2⟩
theorem ord_len {xs : List Int} (h : ordB xs = true) : 1 ≤ xs.length ∧ xs.length ≤ 64 := by
  unfold ordB at h
  rw [Bool.and_eq_true, decide_eq_true_eq] at h
  exact h.1
/-- what stands above what stands above i stands above i -/
theorem ord_trans {xs : List Int} (h : ordB xs = true) (hw : Wide xs) {i k m : Nat} (hi : i < xs.length) (hk : ab xs i k = true) (hm : ab xs k m = true) : ab xs i m = true := by
  have e := (ord_at h hi hk).2.2
  rw [beq_iff_eq] at e
  have h4 := or_has (xs[k]?.getD 0) (xs[i]?.getD 0) m (hw.at k).1 (hw.at k).2 (hw.at i).1 (hw.at i).2
  rw [e] at h4
  unfold ab at *
  rw [h4, hm, Bool.true_or]
theorem filter_lt {l : List Nat} {p q : Nat → Bool} (h : ∀ x ∈ l, q x = true → p x = true) {a : Nat} (ha : a ∈ l) (hp : p a = true) (hq : q a = false) : (l.filter q).length < (l.filter p).length := by
  induction l with
  | nil => simp at ha
  | cons x l ih =>
    have hle : (l.filter q).length ≤ (l.filter p).length := by
      clear ih ha
      induction l with
      | nil => simp
      | cons y l ih2 =>
        have h2 := ih2 (fun z hz => h z (by rcases List.mem_cons.1 hz with rfl | hz <;> simp_all))
        by_cases hy : q y = true
        · have := h y (by simp) hy
          simp [List.filter_cons, hy, this]; exact h2
        · by_cases hy2 : p y = true
          · simp [List.filter_cons, hy, hy2]; omega
          · simp [List.filter_cons, hy, hy2]; exact h2
    rcases List.mem_cons.1 ha with rfl | ha
    · simp [List.filter_cons, hp, hq]; omega
    · have h2 := ih (fun z hz => h z (by simp [hz])) ha
      by_cases hx : q x = true
      · have := h x (by simp) hx
        simp [List.filter_cons, hx, this]; exact h2
      · by_cases hx2 : p x = true
        · simp [List.filter_cons, hx, hx2]; omega
        · simp [List.filter_cons, hx, hx2]; exact h2
theorem cnt_lt {xs : List Int} (h : ordB xs = true) (hw : Wide xs) {a b : Nat} (ha : a < xs.length) (hs : st xs a b = true) : b < xs.length ∧ cnt xs b < cnt xs a := by
  unfold st at hs
  rw [Bool.and_eq_true, bne_iff_ne] at hs
  have h1 := ord_at h ha hs.2
  refine ⟨h1.1, filter_lt (fun m _ hm => ord_trans h hw ha hs.2 hm) (List.mem_range.2 ha) (ord_refl h ha) ?_⟩
  rcases h1.2.1 with e | e
  · exact absurd e.symm hs.1
  · exact e
theorem cnt_pos {xs : List Int} (h : ordB xs = true) {a : Nat} (ha : a < xs.length) : 1 ≤ cnt xs a := by
  unfold cnt
  have : a ∈ (List.range xs.length).filter (ab xs a) := List.mem_filter.2 ⟨List.mem_range.2 ha, ord_refl h ha⟩
  exact List.length_pos_of_mem this
theorem cnt_le (xs : List Int) (a : Nat) : cnt xs a ≤ xs.length := by
  unfold cnt; exact Nat.le_trans (List.length_filter_le _ _) (by simp)
theorem dep_succ (xs : List Int) (f a : Nat) : dep xs (f + 1) a = maxUp (fun b => if st xs a b = true then dep xs f b + 1 else 0) xs.length := rfl
theorem dep_lt {xs : List Int} (h : ordB xs = true) (hw : Wide xs) : ∀ f a, a < xs.length → dep xs f a < cnt xs a := by
  intro f
  induction f with
  | zero => intro a ha; exact cnt_pos h ha
  | succ f ih =>
    intro a ha
    rw [dep_succ]
    rcases maxUp_hit (fun b => if st xs a b = true then dep xs f b + 1 else 0) xs.length with e | ⟨b, hb, e⟩
    · rw [e]; exact cnt_pos h ha
    · rw [e]
      by_cases hs : st xs a b = true
      · have := (cnt_lt h hw ha hs).2
        have := ih b hb
        simp only [if_pos hs]; omega
      · simp only [if_neg hs]; exact cnt_pos h ha
theorem dep_stable {xs : List Int} (h : ordB xs = true) (hw : Wide xs) : ∀ f a, a < xs.length → cnt xs a ≤ f + 1 → dep xs (f + 1) a = dep xs f a := by
  intro f
  induction f with
  | zero =>
    intro a ha hc
    rw [dep_succ]
    show maxUp _ _ = 0
    rcases maxUp_hit (fun b => if st xs a b = true then dep xs 0 b + 1 else 0) xs.length with e | ⟨b, hb, e⟩
    · exact e
    · by_cases hs : st xs a b = true
      · have h1 := (cnt_lt h hw ha hs).2
        have h2 := cnt_pos h hb
        omega
      · rw [e]; simp only [if_neg hs]
  | succ f ih =>
    intro a ha hc
    rw [dep_succ, dep_succ xs f a]
    refine maxUp_congr fun b hb => ?_
    by_cases hs : st xs a b = true
    · have h1 := (cnt_lt h hw ha hs).2
      simp only [if_pos hs]
      rw [ih b hb (by omega)]
    · simp only [if_neg hs]
/-- the two laws of longest chains -/
theorem long_le {xs : List Int} (h : ordB xs = true) (hw : Wide xs) {a b : Nat} (ha : a < xs.length) (hs : st xs a b = true) : longL xs b + 1 ≤ longL xs a := by
  have hl := (ord_len h).1
  have hb := cnt_lt h hw ha hs
  obtain ⟨n, hn⟩ : ∃ n, xs.length = n + 1 := ⟨xs.length - 1, by omega⟩
  have hc := cnt_le xs a
  have e : dep xs (n + 1) b = dep xs n b := dep_stable h hw n b hb.1 (by omega)
  unfold longL
  rw [hn, e, dep_succ]
  have := maxUp_le (f := fun b => if st xs a b = true then dep xs n b + 1 else 0) hb.1
  simp only [if_pos hs] at this
  exact this
theorem long_hit {xs : List Int} (h : ordB xs = true) (hw : Wide xs) {a : Nat} (ha : a < xs.length) : longL xs a = 0 ∨ ∃ b, b < xs.length ∧ st xs a b = true ∧ longL xs a = longL xs b + 1 := by
  have hl := (ord_len h).1
  obtain ⟨n, hn⟩ : ∃ n, xs.length = n + 1 := ⟨xs.length - 1, by omega⟩
  have hc := cnt_le xs a
  unfold longL
  rw [hn, dep_succ]
  rcases maxUp_hit (fun b => if st xs a b = true then dep xs n b + 1 else 0) xs.length with e | ⟨b, hb, e⟩
  · exact .inl e
  · by_cases hs : st xs a b = true
    · have hb2 := cnt_lt h hw ha hs
      refine .inr ⟨b, by omega, hs, ?_⟩
      rw [e]
      simp only [if_pos hs]
      rw [dep_stable h hw n b hb (by omega)]
    · rw [e]; simp only [if_neg hs]; exact .inl trivial
theorem long_bd {xs : List Int} (h : ordB xs = true) (hw : Wide xs) {a : Nat} (ha : a < xs.length) : longL xs a < xs.length := by
  have := dep_lt h hw xs.length a ha
  have := cnt_le xs a
  unfold longL; omega
/-- whoever keeps the two laws tells the longest chains -/
theorem long_one {xs : List Int} (h : ordB xs = true) (hw : Wide xs) {L : Nat → Nat} (h1 : ∀ a b, a < xs.length → st xs a b = true → L b + 1 ≤ L a)
    (h2 : ∀ a, a < xs.length → L a = 0 ∨ ∃ b, b < xs.length ∧ st xs a b = true ∧ L a = L b + 1) : ∀ a, a < xs.length → L a = longL xs a := by
  have key : ∀ c a, a < xs.length → cnt xs a ≤ c → L a = longL xs a := by
    intro c
    induction c with
    | zero => intro a ha hc; have := cnt_pos h ha; omega
    | succ c ih =>
      intro a ha hc
      have le1 : L a ≤ longL xs a := by
        rcases h2 a ha with e | ⟨b, hb, hs, e⟩
        · omega
        · have := (cnt_lt h hw ha hs).2
          rw [e, ih b hb (by omega)]
          exact long_le h hw ha hs
      have le2 : longL xs a ≤ L a := by
        rcases long_hit h hw ha with e | ⟨b, hb, hs, e⟩
        · omega
        · have := (cnt_lt h hw ha hs).2
          rw [e, ← ih b hb (by omega)]
          exact h1 a b ha hs
      omega
  exact fun a ha => key _ a ha (Nat.le_refl _)

/-- r rounds of the reference are done: nothing is told too long, what is not longer than r is told right -/
def HInv (xs : List Int) (r : Nat) (M : List Nat) : Prop := M.length = xs.length ∧ (∀ a, a < xs.length → M[a]?.getD 0 ≤ longL xs a) ∧ ∀ a, a < xs.length → longL xs a ≤ r → M[a]?.getD 0 = longL xs a
def HInvA (xs : List Int) (r a : Nat) (M : List Nat) : Prop := HInv xs r M ∧ ∀ i, i < a → longL xs i ≤ r + 1 → M[i]?.getD 0 = longL xs i
def HInvB (xs : List Int) (r a b : Nat) (M : List Nat) : Prop := HInvA xs r a M ∧ ∀ j, j < b → st xs a j = true → longL xs j ≤ r → longL xs j + 1 ≤ M[a]?.getD 0
theorem get_setN (S : List Nat) (i j : Nat) (y : Nat) (hi : i < S.length) : (S.set i y)[j]?.getD 0 = if j = i then y else S[j]?.getD 0 := by
  rw [List.getElem?_set]
  by_cases e : j = i
  · subst e; simp [hi]
  · rw [if_neg (fun h => e h.symm), if_neg e]
theorem hinv_start (xs : List Int) : HInv xs 0 (List.replicate xs.length 0) := by
  refine ⟨by simp, fun a ha => ?_, fun a ha h => ?_⟩
  · simp [List.getElem?_replicate, ha]
  · simp [List.getElem?_replicate, ha]; omega
theorem hinvB_same {xs : List Int} {r a b : Nat} {M : List Nat} (h : HInvB xs r a b M) (hn : st xs a b = false ∨ ¬ M[a]?.getD 0 < M[b]?.getD 0 + 1) (hb : b < xs.length) : HInvB xs r a (b + 1) M := by
  refine ⟨h.1, fun j hj hs hl => ?_⟩
  by_cases e : j = b
  · subst e
    rcases hn with hn | hn
    · rw [hn] at hs; cases hs
    · have := h.1.1.2.2 j hb hl; omega
  · exact h.2 j (by omega) hs hl
theorem hinvB_set {xs : List Int} (ho : ordB xs = true) (hw : Wide xs) {r a b : Nat} {M : List Nat} (h : HInvB xs r a b M) (ha : a < xs.length) (hb : b < xs.length) (hs : st xs a b = true) (hlt : M[a]?.getD 0 < M[b]?.getD 0 + 1) :
    HInvB xs r a (b + 1) (M.set a (M[b]?.getD 0 + 1)) := by
  obtain ⟨⟨⟨h1, h2, h3⟩, h4⟩, h5⟩ := h
  have hab := long_le ho hw ha hs
  have hMb := h2 b hb
  have hg := fun j => get_setN M a j (M[b]?.getD 0 + 1) (by omega)
  have hra : ¬ longL xs a ≤ r := fun hr => by have := h3 a ha hr; omega
  refine ⟨⟨⟨by rw [List.length_set]; exact h1, fun i hi => ?_, fun i hi hr => ?_⟩, fun i hi hr => ?_⟩, fun j hj hsj hr => ?_⟩
  · rw [hg]; by_cases e : i = a
    · subst e; rw [if_pos rfl]; omega
    · rw [if_neg e]; exact h2 i hi
  · rw [hg]; by_cases e : i = a
    · subst e; exact absurd hr hra
    · rw [if_neg e]; exact h3 i hi hr
  · rw [hg, if_neg (by omega)]; exact h4 i hi hr
  · rw [hg, if_pos rfl]
    by_cases e : j = b
    · subst e; have := h3 j hb hr; omega
    · have := h5 j (by omega) hsj hr; omega
theorem hinvA_next {xs : List Int} (ho : ordB xs = true) (hw : Wide xs) {r a : Nat} {M : List Nat} (h : HInvB xs r a xs.length M) (ha : a < xs.length) : HInvA xs r (a + 1) M := by
  refine ⟨h.1.1, fun i hi hr => ?_⟩
  by_cases e : i = a
  · subst e
    have hle := h.1.1.2.1 i ha
    rcases long_hit ho hw ha with e | ⟨b, hb, hs, e⟩
    · omega
    · have := h.2 b hb hs (by omega)
      omega
  · exact h.1.2 i (by omega) hr
theorem hinv_next {xs : List Int} {r : Nat} {M : List Nat} (h : HInvA xs r xs.length M) : HInv xs (r + 1) M := ⟨h.1.1, h.1.2.1, fun a ha hr => h.2 a ha hr⟩
theorem hinv_end {xs : List Int} (ho : ordB xs = true) (hw : Wide xs) {M : List Nat} (h : HInv xs xs.length M) : ∀ a, a < xs.length → M[a]?.getD 0 = longL xs a :=
  fun a ha => h.2.2 a ha (Nat.le_of_lt (long_bd ho hw ha))
end Go.Proofs.YtaaicmldldkhhaaDoor.LL
