import Derived.Test.YtaaicmldldkhhaaDoorLatD
set_option linter.unusedSimpArgs false
set_option linter.unusedVariables false
/-! plain: joins and meets of a lattice -/
namespace Go.Proofs.YtaaicmldldkhhaaDoor.LL

theorem right_ord {xs : List Int} (h : rightB xs = true) : ordB xs = true := by
  unfold rightB at h; rw [Bool.and_eq_true] at h; exact h.1
theorem le_refl5 {xs : List Int} (h : rightB xs = true) {a : Nat} (ha : a < xs.length) : ab xs a a = true := ord_refl (right_ord h) ha
theorem le_anti {xs : List Int} (h : rightB xs = true) {a b : Nat} (ha : a < xs.length) (h1 : ab xs a b = true) (h2 : ab xs b a = true) : a = b := by
  rcases (ord_at (right_ord h) ha h1).2.1 with e | e
  · exact e.symm
  · rw [h2] at e; cases e
theorem le_trans5 {xs : List Int} (h : rightB xs = true) (hw : Wide xs) {a b c : Nat} (ha : a < xs.length) (h1 : ab xs a b = true) (h2 : ab xs b c = true) : ab xs a c = true := ord_trans (right_ord h) hw ha h1 h2
theorem le_lt5 {xs : List Int} (h : rightB xs = true) {a b : Nat} (ha : a < xs.length) (h1 : ab xs a b = true) : b < xs.length := (ord_at (right_ord h) ha h1).1

/-- the join of two, as a level -/
def IsJ (xs : List Int) (a b j : Nat) : Prop := j < xs.length ∧ ab xs a j = true ∧ ab xs b j = true ∧ ∀ m, m < xs.length → ab xs a m = true → ab xs b m = true → ab xs j m = true
def IsM (xs : List Int) (a b j : Nat) : Prop := j < xs.length ∧ ab xs j a = true ∧ ab xs j b = true ∧ ∀ m, m < xs.length → ab xs m a = true → ab xs m b = true → ab xs m j = true
theorem isJoin_iff {xs : List Int} {a b j : Nat} (hj : j < xs.length) : isJoin xs a b j = true ↔ IsJ xs a b j := by
  unfold isJoin IsJ joinAt
  simp only [Bool.and_eq_true, List.all_eq_true, List.mem_range, Bool.or_eq_true, Bool.not_eq_true']
  constructor
  · rintro ⟨h1, h2, h3⟩
    refine ⟨hj, h1, h2, fun m hm e1 e2 => ?_⟩
    rcases h3 m hm with h | h | h
    · rw [e1] at h; cases h
    · rw [e2] at h; cases h
    · exact h
  · rintro ⟨_, h1, h2, h3⟩
    refine ⟨h1, h2, fun m hm => ?_⟩
    cases e1 : ab xs a m
    · exact .inl rfl
    · cases e2 : ab xs b m
      · exact .inr (.inl rfl)
      · exact .inr (.inr (h3 m hm e1 e2))
theorem isMeet_iff {xs : List Int} {a b j : Nat} (hj : j < xs.length) : isMeet xs a b j = true ↔ IsM xs a b j := by
  unfold isMeet IsM meetAt
  simp only [Bool.and_eq_true, List.all_eq_true, List.mem_range, Bool.or_eq_true, Bool.not_eq_true']
  constructor
  · rintro ⟨h1, h2, h3⟩
    refine ⟨hj, h1, h2, fun m hm e1 e2 => ?_⟩
    rcases h3 m hm with h | h | h
    · rw [e1] at h; cases h
    · rw [e2] at h; cases h
    · exact h
  · rintro ⟨_, h1, h2, h3⟩
    refine ⟨h1, h2, fun m hm => ?_⟩
    cases e1 : ab xs m a
    · exact .inl rfl
    · cases e2 : ab xs m b
      · exact .inr (.inl rfl)
      · exact .inr (.inr (h3 m hm e1 e2))
theorem IsJ.symm {xs : List Int} {a b j : Nat} (h : IsJ xs a b j) : IsJ xs b a j := ⟨h.1, h.2.2.1, h.2.1, fun m hm e1 e2 => h.2.2.2 m hm e2 e1⟩
theorem IsM.symm {xs : List Int} {a b j : Nat} (h : IsM xs a b j) : IsM xs b a j := ⟨h.1, h.2.2.1, h.2.1, fun m hm e1 e2 => h.2.2.2 m hm e2 e1⟩
theorem pair_at {xs : List Int} (h : rightB xs = true) {a b : Nat} (ha : a < xs.length) (hb : b < a) : pairB xs a b = true := by
  unfold rightB at h
  rw [Bool.and_eq_true, List.all_eq_true] at h
  have := h.2 a (List.mem_range.2 ha)
  rw [List.all_eq_true] at this
  exact this b (List.mem_range.2 hb)
theorem ex_join {xs : List Int} (h : rightB xs = true) {a b : Nat} (ha : a < xs.length) (hb : b < xs.length) : ∃ j, IsJ xs a b j := by
  have key : ∀ a b, a < xs.length → b < a → ∃ j, IsJ xs a b j := by
    intro a b ha hb
    have hp := pair_at h ha hb
    unfold pairB at hp
    rw [Bool.and_eq_true, decide_eq_true_eq, decide_eq_true_eq] at hp
    obtain ⟨j, _, hj, hi⟩ := firstI_at hp.1
    exact ⟨j, (isJoin_iff hj).1 hi⟩
  rcases Nat.lt_trichotomy a b with e | e | e
  · obtain ⟨j, hj⟩ := key b a hb e; exact ⟨j, hj.symm⟩
  · subst e; exact ⟨a, ha, le_refl5 h ha, le_refl5 h ha, fun m _ e1 _ => e1⟩
  · exact key a b ha e
theorem ex_meet {xs : List Int} (h : rightB xs = true) {a b : Nat} (ha : a < xs.length) (hb : b < xs.length) : ∃ j, IsM xs a b j := by
  have key : ∀ a b, a < xs.length → b < a → ∃ j, IsM xs a b j := by
    intro a b ha hb
    have hp := pair_at h ha hb
    unfold pairB at hp
    rw [Bool.and_eq_true, decide_eq_true_eq, decide_eq_true_eq] at hp
    obtain ⟨j, _, hj, hi⟩ := firstI_at hp.2
    exact ⟨j, (isMeet_iff hj).1 hi⟩
  rcases Nat.lt_trichotomy a b with e | e | e
  · obtain ⟨j, hj⟩ := key b a hb e; exact ⟨j, hj.symm⟩
  · subst e; exact ⟨a, ha, le_refl5 h ha, le_refl5 h ha, fun m _ e1 _ => e1⟩
  · exact key a b ha e
theorem one_join {xs : List Int} (h : rightB xs = true) {a b j k : Nat} (hj : IsJ xs a b j) (hk : IsJ xs a b k) : j = k :=
  le_anti h hj.1 (hj.2.2.2 k hk.1 hk.2.1 hk.2.2.1) (hk.2.2.2 j hj.1 hj.2.1 hj.2.2.1)
theorem one_meet {xs : List Int} (h : rightB xs = true) {a b j k : Nat} (hj : IsM xs a b j) (hk : IsM xs a b k) : j = k :=
  le_anti h hj.1 (hk.2.2.2 j hj.1 hj.2.1 hj.2.2.1) (hj.2.2.2 k hk.1 hk.2.1 hk.2.2.1)
/-- what the reference answers is the join, the meet -/
theorem joinI_is {xs : List Int} (h : rightB xs = true) {a b j : Nat} (hj : IsJ xs a b j) : joinI xs a b = (j : Int) := by
  have hp : isJoin xs a b j = true := (isJoin_iff hj.1).2 hj
  have h0 : 0 ≤ joinI xs a b := by
    apply Classical.byContradiction; intro hn
    have e : ∀ i, i < xs.length → isJoin xs a b i = false := by
      unfold joinI firstI at hn
      split at hn
      · omega
      · rename_i e
        rw [List.find?_eq_none] at e
        intro i hi
        have := e i (List.mem_range.2 hi)
        simpa using this
    rw [e j hj.1] at hp; cases hp
  obtain ⟨k, e, hk, hi⟩ := firstI_at h0
  unfold joinI
  rw [e, one_join h ((isJoin_iff hk).1 hi) hj]
theorem meetI_is {xs : List Int} (h : rightB xs = true) {a b j : Nat} (hj : IsM xs a b j) : meetI xs a b = (j : Int) := by
  have hp : isMeet xs a b j = true := (isMeet_iff hj.1).2 hj
  have h0 : 0 ≤ meetI xs a b := by
    apply Classical.byContradiction; intro hn
    have e : ∀ i, i < xs.length → isMeet xs a b i = false := by
      unfold meetI firstI at hn
      split at hn
      · omega
      · rename_i e
        rw [List.find?_eq_none] at e
        intro i hi
        have := e i (List.mem_range.2 hi)
        simpa using this
    rw [e j hj.1] at hp; cases hp
  obtain ⟨k, e, hk, hi⟩ := firstI_at h0
  unfold meetI
  rw [e, one_meet h ((isMeet_iff hk).1 hi) hj]
def joinN (xs : List Int) (a b : Nat) : Nat := (joinI xs a b).toNat
def meetN (xs : List Int) (a b : Nat) : Nat := (meetI xs a b).toNat
theorem joinN_is {xs : List Int} (h : rightB xs = true) {a b : Nat} (ha : a < xs.length) (hb : b < xs.length) : IsJ xs a b (joinN xs a b) ∧ joinI xs a b = (joinN xs a b : Int) := by
  obtain ⟨j, hj⟩ := ex_join h ha hb
  unfold joinN
  rw [joinI_is h hj, Int.toNat_natCast]
  exact ⟨hj, rfl⟩
theorem meetN_is {xs : List Int} (h : rightB xs = true) {a b : Nat} (ha : a < xs.length) (hb : b < xs.length) : IsM xs a b (meetN xs a b) ∧ meetI xs a b = (meetN xs a b : Int) := by
  obtain ⟨j, hj⟩ := ex_meet h ha hb
  unfold meetN
  rw [meetI_is h hj, Int.toNat_natCast]
  exact ⟨hj, rfl⟩
section
variable {xs : List Int} (h : rightB xs = true) (hw : Wide xs) {a b c : Nat} (ha : a < xs.length) (hb : b < xs.length) (hc : c < xs.length)
include h ha hb
theorem join_comm : joinN xs a b = joinN xs b a := one_join h (joinN_is h ha hb).1 (joinN_is h hb ha).1.symm
theorem meet_comm : meetN xs a b = meetN xs b a := one_meet h (meetN_is h ha hb).1 (meetN_is h hb ha).1.symm
include hw hc
theorem join_assoc : joinN xs (joinN xs a b) c = joinN xs a (joinN xs b c) := by
  have j1 := (joinN_is h ha hb).1
  have j2 := (joinN_is h hb hc).1
  have j3 := (joinN_is h j1.1 hc).1
  have j4 := (joinN_is h ha j2.1).1
  refine le_anti h j3.1 ?_ ?_
  · refine j3.2.2.2 _ j4.1 (j1.2.2.2 _ j4.1 j4.2.1 ?_) ?_
    · exact le_trans5 h hw hb j2.2.1 j4.2.2.1
    · exact le_trans5 h hw hc j2.2.2.1 j4.2.2.1
  · refine j4.2.2.2 _ j3.1 ?_ (j2.2.2.2 _ j3.1 ?_ j3.2.2.1)
    · exact le_trans5 h hw ha j1.2.1 j3.2.1
    · exact le_trans5 h hw hb j1.2.2.1 j3.2.1
theorem meet_assoc : meetN xs (meetN xs a b) c = meetN xs a (meetN xs b c) := by
  have j1 := (meetN_is h ha hb).1
  have j2 := (meetN_is h hb hc).1
  have j3 := (meetN_is h j1.1 hc).1
  have j4 := (meetN_is h ha j2.1).1
  refine le_anti h j3.1 ?_ ?_
  · refine j4.2.2.2 _ j3.1 ?_ (j2.2.2.2 _ j3.1 ?_ j3.2.2.1)
    · exact le_trans5 h hw j3.1 j3.2.1 j1.2.1
    · exact le_trans5 h hw j3.1 j3.2.1 j1.2.2.1
  · refine j3.2.2.2 _ j4.1 (j1.2.2.2 _ j4.1 j4.2.1 ?_) ?_
    · exact le_trans5 h hw j4.1 j4.2.2.1 j2.2.1
    · exact le_trans5 h hw j4.1 j4.2.2.1 j2.2.2.1
theorem join_bound : ab xs (joinN xs a b) c = (ab xs a c && ab xs b c) := by
  have j1 := (joinN_is h ha hb).1
  rw [Bool.eq_iff_iff, Bool.and_eq_true]
  exact ⟨fun e => ⟨le_trans5 h hw ha j1.2.1 e, le_trans5 h hw hb j1.2.2.1 e⟩, fun e => j1.2.2.2 c hc e.1 e.2⟩
theorem meet_bound : ab xs c (meetN xs a b) = (ab xs c a && ab xs c b) := by
  have j1 := (meetN_is h ha hb).1
  rw [Bool.eq_iff_iff, Bool.and_eq_true]
  exact ⟨fun e => ⟨le_trans5 h hw hc e j1.2.1, le_trans5 h hw hc e j1.2.2.1⟩, fun e => j1.2.2.2 c hc e.1 e.2⟩
omit hc hw
theorem meet_absorb : meetN xs a (joinN xs a b) = a := by
  have j1 := (joinN_is h ha hb).1
  exact one_meet h (meetN_is h ha j1.1).1 ⟨ha, le_refl5 h ha, j1.2.1, fun m _ e _ => e⟩
theorem join_absorb : joinN xs a (meetN xs a b) = a := by
  have j1 := (meetN_is h ha hb).1
  exact one_join h (joinN_is h ha j1.1).1 ⟨ha, le_refl5 h ha, j1.2.1, fun m _ e _ => e⟩
theorem join_leq : ((joinN xs a b : Int) == (b : Int)) = ab xs a b := by
  have j1 := (joinN_is h ha hb).1
  rw [Bool.eq_iff_iff, beq_iff_eq]
  constructor
  · intro e
    have e' : joinN xs a b = b := by omega
    have := j1.2.1
    rwa [e'] at this
  · intro e
    have := one_join h j1 ⟨hb, e, le_refl5 h hb, fun m _ _ e2 => e2⟩
    omega
theorem meet_leq : ((meetN xs a b : Int) == (a : Int)) = ab xs a b := by
  have j1 := (meetN_is h ha hb).1
  rw [Bool.eq_iff_iff, beq_iff_eq]
  constructor
  · intro e
    have e' : meetN xs a b = a := by omega
    have := j1.2.2.1
    rwa [e'] at this
  · intro e
    have := one_meet h j1 ⟨ha, le_refl5 h ha, e, fun m _ e2 _ => e2⟩
    omega
end
/-- there is one below all, and one above all -/
theorem ex_end {xs : List Int} (h : rightB xs = true) (hw : Wide xs) : ∃ k, k < xs.length ∧ ∀ m, m < xs.length → ab xs k m = true := by
  have hl := (ord_len (right_ord h)).1
  have key : ∀ i, i < xs.length → ∃ k, k < xs.length ∧ ∀ m, m ≤ i → ab xs k m = true := by
    intro i
    induction i with
    | zero => intro hi; exact ⟨0, hi, fun m hm => by obtain rfl : m = 0 := (by omega); exact le_refl5 h hi⟩
    | succ i ih =>
      intro hi
      obtain ⟨k, hk, hall⟩ := ih (by omega)
      obtain ⟨j, hj⟩ := ex_meet h hk hi
      refine ⟨j, hj.1, fun m hm => ?_⟩
      by_cases e : m = i + 1
      · subst e; exact hj.2.2.1
      · exact le_trans5 h hw hj.1 hj.2.1 (hall m (by omega))
  obtain ⟨k, hk, hall⟩ := key (xs.length - 1) (by omega)
  exact ⟨k, hk, fun m hm => hall m (by omega)⟩
theorem ex_far {xs : List Int} (h : rightB xs = true) (hw : Wide xs) : ∃ k, k < xs.length ∧ ∀ m, m < xs.length → ab xs m k = true := by
  have hl := (ord_len (right_ord h)).1
  have key : ∀ i, i < xs.length → ∃ k, k < xs.length ∧ ∀ m, m ≤ i → ab xs m k = true := by
    intro i
    induction i with
    | zero => intro hi; exact ⟨0, hi, fun m hm => by obtain rfl : m = 0 := (by omega); exact le_refl5 h hi⟩
    | succ i ih =>
      intro hi
      obtain ⟨k, hk, hall⟩ := ih (by omega)
      obtain ⟨j, hj⟩ := ex_join h hk hi
      refine ⟨j, hj.1, fun m hm => ?_⟩
      by_cases e : m = i + 1
      · subst e; exact hj.2.2.1
      · exact le_trans5 h hw (show m < xs.length by omega) (hall m (by omega)) hj.2.1
  obtain ⟨k, hk, hall⟩ := key (xs.length - 1) (by omega)
  exact ⟨k, hk, fun m hm => hall m (by omega)⟩
theorem firstI_one {n : Nat} {p : Nat → Bool} {k : Nat} (hk : k < n) (hp : p k = true) (h1 : ∀ j, j < n → p j = true → j = k) : firstI n p = (k : Int) :=
  firstI_hit hk hp fun j hj => by
    cases e : p j
    · rfl
    · have := h1 j (by omega) e; omega
theorem endI_is {xs : List Int} (h : rightB xs = true) {k : Nat} (hk : k < xs.length) (ha : ∀ m, m < xs.length → ab xs k m = true) : endI xs = (k : Int) :=
  firstI_one hk (by unfold isEnd; exact all_yes ha) fun j hj e => by
    unfold isEnd at e
    rw [List.all_eq_true] at e
    exact le_anti h hj (e k (List.mem_range.2 hk)) (ha j hj)
theorem farI_is {xs : List Int} (h : rightB xs = true) {k : Nat} (hk : k < xs.length) (ha : ∀ m, m < xs.length → ab xs m k = true) : farI xs = (k : Int) :=
  firstI_one hk (by unfold isFar; exact all_yes ha) fun j hj e => by
    unfold isFar at e
    rw [List.all_eq_true] at e
    exact le_anti h hj (ha j hj) (e k (List.mem_range.2 hk))
end Go.Proofs.YtaaicmldldkhhaaDoor.LL
