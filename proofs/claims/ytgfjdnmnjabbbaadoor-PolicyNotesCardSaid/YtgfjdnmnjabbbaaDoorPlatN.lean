import Derived.Test.YtgfjdnmnjabbbaaDoorPlatM
set_option linter.unusedSimpArgs false
set_option linter.unusedVariables false
/-! plain: an order turned round; the nearest beyond two; the ends -/
namespace Go.Proofs.YtgfjdnmnjabbbaaDoor.LL

theorem ord_mk {xs : List Int} (hw : Wide xs) (h : 1 ≤ xs.length ∧ xs.length ≤ 64) (h1 : ∀ i, i < xs.length → ab xs i i = true)
    (h2 : ∀ i k, i < xs.length → ab xs i k = true → k < xs.length ∧ (k = i ∨ ab xs k i = false) ∧ ∀ m, ab xs k m = true → ab xs i m = true) : ordB xs = true := by
  unfold ordB
  rw [decide_eq_true h, Bool.true_and]
  refine all_yes fun i hi => ?_
  unfold ordRow
  rw [h1 i hi, Bool.true_and]
  refine all_yes fun k _ => ?_
  unfold ordAt
  cases e : ab xs i k
  · rfl
  · obtain ⟨g1, g2, g3⟩ := h2 i k hi e
    rw [decide_eq_true g1, sub_or _ _ (hw.at k).1 (hw.at k).2 (hw.at i).1 (hw.at i).2, sub_iff.2 g3]
    rcases g2 with g | g
    · subst g; simp
    · rw [g]; simp
theorem ord_sub {xs : List Int} (h : ordB xs = true) (hw : Wide xs) {i k : Nat} (hi : i < xs.length) (hk : ab xs i k = true) : subB (xs[k]?.getD 0) (xs[i]?.getD 0) = true :=
  sub_iff.2 fun _ hm => ord_trans h hw hi hk hm

theorem firstI_congr {n : Nat} {p q : Nat → Bool} (h : ∀ k, k < n → p k = q k) : firstI n p = firstI n q := by
  by_cases h0 : 0 ≤ firstI n q
  · unfold firstI at h0 ⊢
    have e : (List.range n).find? p = (List.range n).find? q := by
      have key : ∀ l : List Nat, (∀ x ∈ l, p x = q x) → l.find? p = l.find? q := by
        intro l
        induction l with
        | nil => intro _; rfl
        | cons x l ih => intro hl; rw [List.find?_cons, List.find?_cons, hl x (by simp), ih fun y hy => hl y (by simp [hy])]
      exact key _ fun x hx => h x (List.mem_range.1 hx)
    rw [e]
  · unfold firstI
    have key : ∀ l : List Nat, (∀ x ∈ l, p x = q x) → l.find? p = l.find? q := by
      intro l
      induction l with
      | nil => intro _; rfl
      | cons x l ih => intro hl; rw [List.find?_cons, List.find?_cons, hl x (by simp), ih fun y hy => hl y (by simp [hy])]
    rw [key _ fun x hx => h x (List.mem_range.1 hx)]
theorem firstI_uniq {n : Nat} {p : Nat → Bool} {k : Nat} (hk : k < n) (hp : p k = true) (hu : ∀ j, j < n → p j = true → j = k) : firstI n p = (k : Int) := by
  refine firstI_hit hk hp fun j hj => ?_
  cases e : p j
  · rfl
  · have := hu j (by omega) e; omega

/-- what is beyond a and beyond b -/
def bothI (ys : List Int) (a b : Nat) : Int := bits .and .u64 (ys[a]?.getD 0) (ys[b]?.getD 0)
theorem both_bd {ys : List Int} (hw : Wide ys) (a b : Nat) : 0 ≤ bothI ys a b ∧ bothI ys a b ≤ 18446744073709551615 := and_bd _ _ (hw.at a).1 (hw.at a).2 (hw.at b).1 (hw.at b).2
theorem both_has {ys : List Int} (hw : Wide ys) (a b k : Nat) : MM.hasB (bothI ys a b) (k : Int) = (ab ys a k && ab ys b k) := and_has _ _ k (hw.at a).1 (hw.at a).2 (hw.at b).1 (hw.at b).2
theorem near_iff {ys : List Int} (h : ordB ys = true) (hw : Wide ys) {a b k : Nat} (ha : a < ys.length) (hb : b < ys.length) :
    (MM.hasB (bothI ys a b) (k : Int) = true ∧ ys[k]?.getD 0 = bothI ys a b) ↔ (k < ys.length ∧ isJoin ys a b k = true) := by
  have bb := both_bd hw a b
  rw [eq_sub (hw.at k).1 (hw.at k).2 bb.1 bb.2, both_has hw, Bool.and_eq_true]
  constructor
  · rintro ⟨⟨h1, h2⟩, _, h4⟩
    have hk := (ord_at h ha h1).1
    refine ⟨hk, (isJoin_iff hk).2 ⟨hk, h1, h2, fun m _ e1 e2 => ?_⟩⟩
    exact sub_iff.1 h4 m (by rw [both_has hw, e1, e2]; rfl)
  · rintro ⟨hk, hj⟩
    obtain ⟨_, h1, h2, h3⟩ := (isJoin_iff hk).1 hj
    refine ⟨⟨h1, h2⟩, sub_iff.2 fun m hm => ?_, sub_iff.2 fun m hm => ?_⟩
    · rw [both_has hw, ord_trans h hw ha h1 hm, ord_trans h hw hb h2 hm]; rfl
    · rw [both_has hw, Bool.and_eq_true] at hm
      exact h3 m (ord_at h ha hm.1).1 hm.1 hm.2
theorem near_hit {ys : List Int} (h : ordB ys = true) (hw : Wide ys) {a b k : Nat} (ha : a < ys.length) (hb : b < ys.length) (h1 : MM.hasB (bothI ys a b) (k : Int) = true) (h2 : ys[k]?.getD 0 = bothI ys a b) : joinI ys a b = (k : Int) := by
  obtain ⟨hk, hj⟩ := (near_iff h hw ha hb).1 ⟨h1, h2⟩
  have hJ := (isJoin_iff hk).1 hj
  refine firstI_uniq hk hj fun j hjn e => ?_
  have hJ2 := (isJoin_iff hjn).1 e
  have e1 := hJ.2.2.2 j hjn hJ2.2.1 hJ2.2.2.1
  have e2 := hJ2.2.2.2 k hk hJ.2.1 hJ.2.2.1
  rcases (ord_at h hk e1).2.1 with e | e
  · exact e
  · rw [e2] at e; cases e
theorem near_none {ys : List Int} (h : ordB ys = true) (hw : Wide ys) {a b : Nat} (ha : a < ys.length) (hb : b < ys.length) (hn : ∀ k, k ∈ MM.bitsOf (bothI ys a b) → ys[k]?.getD 0 ≠ bothI ys a b) : joinI ys a b = -1 := by
  refine firstI_none fun k hk => ?_
  cases e : isJoin ys a b k
  · rfl
  · have := (near_iff h hw ha hb).2 ⟨hk, e⟩
    exact absurd this.2 (hn k (mem_bits.2 this.1))
theorem end_eq {ys : List Int} (h : ordB ys = true) (hw : Wide ys) {i : Nat} (hi : i < ys.length) : (ys[i]?.getD 0 == MM.belowI ys.length) = isEnd ys i := by
  have hl := (ord_len h).2
  have bb := below_bd ys.length hl
  rw [Bool.eq_iff_iff, beq_iff_eq, eq_sub (hw.at i).1 (hw.at i).2 bb.1 bb.2]
  unfold isEnd
  rw [List.all_eq_true]
  constructor
  · rintro ⟨_, h2⟩ m hm
    exact sub_iff.1 h2 m (by rw [has_below _ _ hl, decide_eq_true (List.mem_range.1 hm)])
  · intro hm
    refine ⟨sub_iff.2 fun m e => ?_, sub_iff.2 fun m e => ?_⟩
    · rw [has_below _ _ hl, decide_eq_true (ord_at h hi e).1]
    · rw [has_below _ _ hl, decide_eq_true_eq] at e
      exact hm m (List.mem_range.2 e)

/-- of the first k levels, those that stand at or below i -/
def dnI (xs : List Int) (i : Nat) : Nat → Int
  | 0 => 0
  | k + 1 => if ab xs k i = true then MM.withI (dnI xs i k) (k : Int) else dnI xs i k
theorem dn_bd (xs : List Int) (i k : Nat) : 0 ≤ dnI xs i k ∧ dnI xs i k ≤ 18446744073709551615 := by
  induction k with
  | zero => exact ⟨Int.le_refl _, by show (0 : Int) ≤ _; omega⟩
  | succ k ih =>
    unfold dnI
    split
    · exact MM.withI_bd _ _ ih.1 ih.2
    · exact ih
theorem dn_has (xs : List Int) (i : Nat) : ∀ k j : Nat, k ≤ 64 → MM.hasB (dnI xs i k) (j : Int) = (decide (j < k) && ab xs j i) := by
  intro k
  induction k with
  | zero => intro j _; rw [show dnI xs i 0 = 0 from rfl, has_zero]; simp
  | succ k ih =>
    intro j hk
    have hih := ih j (by omega)
    show MM.hasB (if ab xs k i = true then MM.withI (dnI xs i k) (k : Int) else dnI xs i k) (j : Int) = _
    by_cases hj : j < 64
    · by_cases hki : ab xs k i = true
      · rw [if_pos hki]
        have hs : MM.hasB (MM.withI (dnI xs i k) (k : Int)) (j : Int) = (MM.hasB (dnI xs i k) (j : Int) || decide (k = j)) := by
          unfold MM.hasB MM.withI
          rw [if_pos (by omega), Int.toNat_natCast, Int.toNat_natCast, Int.toNat_natCast, Nat.testBit_or, Nat.testBit_two_pow, decide_eq_true (show 0 ≤ (j : Int) ∧ (j : Int) < 64 by omega), Bool.true_and, Bool.true_and]
        rw [hs, hih]
        by_cases e : k = j
        · subst e; rw [hki]; simp
        · have : (j < k) ↔ (j < k + 1) := by omega
          simp [e, this]
      · rw [if_neg hki, hih]
        by_cases e : j = k
        · subst e; simp [hki]
        · have : (j < k) ↔ (j < k + 1) := by omega
          simp [this]
    · have : MM.hasB (if ab xs k i = true then MM.withI (dnI xs i k) (k : Int) else dnI xs i k) (j : Int) = false := by
        unfold MM.hasB; rw [decide_eq_false (show ¬ (0 ≤ (j : Int) ∧ (j : Int) < 64) by omega), Bool.false_and]
      rw [this, decide_eq_false (by omega), Bool.false_and]
/-- the order turned round -/
def dualL (xs : List Int) : List Int := (List.range xs.length).map fun i => dnI xs i xs.length
theorem dual_len (xs : List Int) : (dualL xs).length = xs.length := by unfold dualL; simp
theorem dual_at (xs : List Int) {i : Nat} (hi : i < xs.length) : (dualL xs)[i]?.getD 0 = dnI xs i xs.length := by
  unfold dualL; rw [List.getElem?_map, List.getElem?_range hi]; rfl
theorem dual_wide (xs : List Int) : Wide (dualL xs) := by
  intro x hx
  unfold dualL at hx
  obtain ⟨i, _, rfl⟩ := List.mem_map.1 hx
  exact dn_bd _ _ _
theorem dual_ab {xs : List Int} (hl : xs.length ≤ 64) {i : Nat} (hi : i < xs.length) (j : Nat) : ab (dualL xs) i j = (decide (j < xs.length) && ab xs j i) := by
  show MM.hasB ((dualL xs)[i]?.getD 0) (j : Int) = _
  rw [dual_at xs hi]; exact dn_has xs i xs.length j hl
theorem dual_ab' {xs : List Int} (hl : xs.length ≤ 64) {i j : Nat} (hi : i < xs.length) (hj : j < xs.length) : ab (dualL xs) i j = ab xs j i := by
  rw [dual_ab hl hi j, decide_eq_true hj, Bool.true_and]
theorem dual_ord {xs : List Int} (h : ordB xs = true) (hw : Wide xs) : ordB (dualL xs) = true := by
  have hl := ord_len h
  refine ord_mk (dual_wide xs) (by rw [dual_len]; exact hl) (fun i hi => ?_) (fun i k hi e => ?_)
  · rw [dual_len] at hi; rw [dual_ab' hl.2 hi hi]; exact ord_refl h hi
  · rw [dual_len] at hi ⊢
    rw [dual_ab hl.2 hi, Bool.and_eq_true, decide_eq_true_eq] at e
    refine ⟨e.1, ?_, fun m hm => ?_⟩
    · rcases (ord_at h e.1 e.2).2.1 with g | g
      · exact .inl g.symm
      · exact .inr (by rw [dual_ab' hl.2 e.1 hi]; exact g)
    · rw [dual_ab hl.2 e.1, Bool.and_eq_true, decide_eq_true_eq] at hm
      rw [dual_ab' hl.2 hi hm.1]
      exact ord_trans h hw hm.1 hm.2 e.2
theorem dual_join {xs : List Int} (h : ordB xs = true) {a b : Nat} (ha : a < xs.length) (hb : b < xs.length) : joinI (dualL xs) a b = meetI xs a b := by
  have hl := (ord_len h).2
  unfold joinI meetI
  rw [dual_len]
  refine firstI_congr fun k hk => ?_
  rw [Bool.eq_iff_iff, isJoin_iff (by rw [dual_len]; exact hk), isMeet_iff hk]
  unfold IsJ IsM
  rw [dual_len, dual_ab' hl ha hk, dual_ab' hl hb hk]
  constructor
  · rintro ⟨h0, h1, h2, h3⟩
    refine ⟨h0, h1, h2, fun m hm e1 e2 => ?_⟩
    have := h3 m hm (by rw [dual_ab' hl ha hm]; exact e1) (by rw [dual_ab' hl hb hm]; exact e2)
    rw [dual_ab' hl hk hm] at this; exact this
  · rintro ⟨h0, h1, h2, h3⟩
    refine ⟨h0, h1, h2, fun m hm e1 e2 => ?_⟩
    rw [dual_ab' hl ha hm] at e1
    rw [dual_ab' hl hb hm] at e2
    rw [dual_ab' hl hk hm]; exact h3 m hm e1 e2
theorem dual_end {xs : List Int} (h : ordB xs = true) : endI (dualL xs) = farI xs := by
  have hl := (ord_len h).2
  unfold endI farI
  rw [dual_len]
  refine firstI_congr fun k hk => ?_
  unfold isEnd isFar
  rw [dual_len, Bool.eq_iff_iff, List.all_eq_true, List.all_eq_true]
  constructor
  · intro g m hm
    have := g m hm
    rw [dual_ab' hl hk (List.mem_range.1 hm)] at this; exact this
  · intro g m hm
    rw [dual_ab' hl hk (List.mem_range.1 hm)]; exact g m hm

/-- what the project asks of a lattice -/
def pRight (xs : List Int) : Bool := ordB xs && (decide (0 ≤ endI xs) && (List.range xs.length).all fun a => (List.range a).all fun b => decide (0 ≤ joinI xs a b))
theorem p_meets {xs : List Int} (h : ordB xs = true) (hw : Wide xs) (he : ∃ k, k < xs.length ∧ ∀ m, m < xs.length → ab xs k m = true)
    (hj : ∀ a b, a < xs.length → b < xs.length → ∃ j, IsJ xs a b j) {a b : Nat} (ha : a < xs.length) (hb : b < xs.length) : ∃ j, IsM xs a b j := by
  obtain ⟨e, hen, he⟩ := he
  have key : ∀ l : List Nat, (∀ x ∈ l, x < xs.length ∧ ab xs x a = true ∧ ab xs x b = true) → ∃ s, s < xs.length ∧ ab xs s a = true ∧ ab xs s b = true ∧ ∀ x ∈ l, ab xs x s = true := by
    intro l
    induction l with
    | nil => intro _; exact ⟨e, hen, he a ha, he b hb, fun x hx => absurd hx (by simp)⟩
    | cons x l ih =>
      intro hl
      obtain ⟨s, s1, s2, s3, s4⟩ := ih fun y hy => hl y (by simp [hy])
      obtain ⟨x1, x2, x3⟩ := hl x (by simp)
      obtain ⟨j, j1, j2, j3, j4⟩ := hj s x s1 x1
      refine ⟨j, j1, j4 a ha s2 x2, j4 b hb s3 x3, fun y hy => ?_⟩
      rcases List.mem_cons.1 hy with rfl | hy
      · exact j3
      · exact ord_trans h hw (hl y (by simp [hy])).1 (s4 y hy) j2
  obtain ⟨s, s1, s2, s3, s4⟩ := key ((List.range xs.length).filter fun x => ab xs x a && ab xs x b) (by
    intro x hx
    rw [List.mem_filter, List.mem_range, Bool.and_eq_true] at hx
    exact hx)
  refine ⟨s, s1, s2, s3, fun m hm e1 e2 => s4 m ?_⟩
  rw [List.mem_filter, List.mem_range, Bool.and_eq_true]
  exact ⟨hm, e1, e2⟩
theorem right_p {xs : List Int} (hw : Wide xs) : rightB xs = pRight xs := by
  cases h : ordB xs
  · unfold rightB pRight; rw [h]; rfl
  · rw [Bool.eq_iff_iff]
    constructor
    · intro hr
      obtain ⟨k, hk, he⟩ := ex_end hr hw
      unfold pRight
      rw [h, endI_is hr hk he, decide_eq_true (by omega), Bool.true_and, Bool.true_and]
      refine all_yes fun a ha => all_yes fun b hb => ?_
      have := pair_at hr ha hb
      unfold pairB at this
      rw [Bool.and_eq_true] at this
      exact this.1
    · intro hp
      unfold pRight at hp
      rw [h, Bool.true_and, Bool.and_eq_true, decide_eq_true_eq, List.all_eq_true] at hp
      obtain ⟨h0, hj⟩ := hp
      obtain ⟨k, _, hk, he⟩ := firstI_at h0
      have he' : ∃ k, k < xs.length ∧ ∀ m, m < xs.length → ab xs k m = true := by
        refine ⟨k, hk, fun m hm => ?_⟩
        unfold isEnd at he
        rw [List.all_eq_true] at he
        exact he m (List.mem_range.2 hm)
      have hj1 : ∀ a b, a < xs.length → b < a → ∃ j, IsJ xs a b j := by
        intro a b ha hb
        have := hj a (List.mem_range.2 ha)
        rw [List.all_eq_true] at this
        have := this b (List.mem_range.2 hb)
        rw [decide_eq_true_eq] at this
        obtain ⟨j, _, hj, e⟩ := firstI_at this
        exact ⟨j, (isJoin_iff hj).1 e⟩
      have hj2 : ∀ a b, a < xs.length → b < xs.length → ∃ j, IsJ xs a b j := by
        intro a b ha hb
        rcases Nat.lt_trichotomy a b with e | e | e
        · obtain ⟨j, hj⟩ := hj1 b a hb e; exact ⟨j, hj.symm⟩
        · subst e; exact ⟨a, ha, ord_refl h ha, ord_refl h ha, fun m _ e1 _ => e1⟩
        · exact hj1 a b ha e
      unfold rightB
      rw [h, Bool.true_and]
      refine all_yes fun a ha => all_yes fun b hb => ?_
      unfold pairB
      have := hj a (List.mem_range.2 ha)
      rw [List.all_eq_true] at this
      rw [this b (List.mem_range.2 hb), Bool.true_and, decide_eq_true_eq]
      obtain ⟨m, hm⟩ := p_meets h hw he' hj2 ha (show b < xs.length by omega)
      have hmm : isMeet xs a b m = true := (isMeet_iff hm.1).2 hm
      apply Classical.byContradiction
      intro hn
      have e : ∀ i, i < xs.length → isMeet xs a b i = false := by
        unfold meetI firstI at hn
        split at hn
        · omega
        · rename_i e
          rw [List.find?_eq_none] at e
          intro i hi
          have := e i (List.mem_range.2 hi)
          simpa using this
      rw [e m hm.1] at hmm; cases hmm
end Go.Proofs.YtgfjdnmnjabbbaaDoor.LL
