import Derived.Test.YtkoofibhddkpiaaDoorLatAll
import Derived.Test.YtkoofibhddkpiaaDoorMaskG
set_option linter.unusedSimpArgs false
set_option linter.unusedVariables false
/-! plain: sets within sets; the project's way to tell orders, joins, meets, ends -/
namespace Go.Proofs.YtkoofibhddkpiaaDoor.LL

theorem and_nat (x y : Int) (x0 : 0 ≤ x) (x1 : x ≤ 18446744073709551615) (y0 : 0 ≤ y) (y1 : y ≤ 18446744073709551615) : bits .and .u64 x y = ((x.toNat &&& y.toNat : Nat) : Int) :=
  u64_and x y x0 (by omega) y0 (by omega)
theorem and_has (x y : Int) (k : Nat) (x0 : 0 ≤ x) (x1 : x ≤ 18446744073709551615) (y0 : 0 ≤ y) (y1 : y ≤ 18446744073709551615) : MM.hasB (bits .and .u64 x y) k = (MM.hasB x k && MM.hasB y k) := by
  rw [and_nat x y x0 x1 y0 y1]
  unfold MM.hasB
  rw [Int.toNat_natCast, Nat.testBit_and]
  cases decide (0 ≤ (k : Int) ∧ (k : Int) < 64) <;> simp
theorem and_bd (x y : Int) (x0 : 0 ≤ x) (x1 : x ≤ 18446744073709551615) (y0 : 0 ≤ y) (y1 : y ≤ 18446744073709551615) : 0 ≤ bits .and .u64 x y ∧ bits .and .u64 x y ≤ 18446744073709551615 := by
  rw [and_nat x y x0 x1 y0 y1]
  have : x.toNat &&& y.toNat ≤ x.toNat := Nat.and_le_left
  omega
theorem not_has (y k : Nat) (hy : y < 2 ^ 64) (hk : k < 64) : (18446744073709551615 - y).testBit k = !y.testBit k := by
  rw [show 18446744073709551615 - y = 2 ^ 64 - (y + 1) from by omega, Nat.testBit_two_pow_sub_succ hy]
  simp [hk]
theorem andNot_has (x y : Int) (k : Nat) (x0 : 0 ≤ x) (x1 : x ≤ 18446744073709551615) (y0 : 0 ≤ y) (y1 : y ≤ 18446744073709551615) : MM.hasB (bits .andNot .u64 x y) k = (MM.hasB x k && !MM.hasB y k) := by
  rw [u64_andNot x y x0 (by omega) y0 (by omega)]
  unfold MM.hasB
  by_cases hk : k < 64
  · rw [decide_eq_true (show 0 ≤ (k : Int) ∧ (k : Int) < 64 by omega), Int.toNat_natCast, Int.toNat_natCast, Nat.testBit_and]
    have := not_has y.toNat k (by omega) hk
    simp only [Bool.true_and]
    rw [← this]
  · rw [decide_eq_false (show ¬ (0 ≤ (k : Int) ∧ (k : Int) < 64) by omega)]; simp
theorem andNot_bd (x y : Int) (x0 : 0 ≤ x) (x1 : x ≤ 18446744073709551615) (y0 : 0 ≤ y) (y1 : y ≤ 18446744073709551615) : 0 ≤ bits .andNot .u64 x y ∧ bits .andNot .u64 x y ≤ 18446744073709551615 := by
  rw [u64_andNot x y x0 (by omega) y0 (by omega)]
  have : ∀ z : Nat, x.toNat &&& z ≤ x.toNat := fun z => Nat.and_le_left
  have := this (18446744073709551615 - y.toNat)
  omega

/-- is each number of x one of y? -/
def subB (x y : Int) : Bool := (List.range 64).all (fun k => !MM.hasB x (k : Int) || MM.hasB y (k : Int))
theorem has_lt {x : Int} {k : Nat} (h : MM.hasB x (k : Int) = true) : k < 64 := by
  unfold MM.hasB at h
  rw [Bool.and_eq_true, decide_eq_true_eq] at h
  omega
theorem sub_iff {x y : Int} : subB x y = true ↔ ∀ k : Nat, MM.hasB x (k : Int) = true → MM.hasB y (k : Int) = true := by
  unfold subB
  rw [List.all_eq_true]
  constructor
  · intro h k hk
    have := h k (List.mem_range.2 (has_lt hk))
    rw [hk] at this
    simpa using this
  · intro h k _
    cases e : MM.hasB x (k : Int)
    · rfl
    · rw [h k e]; rfl
theorem has_zero (k : Nat) : MM.hasB 0 (k : Int) = false := by
  unfold MM.hasB; simp
theorem sub_or (x y : Int) (x0 : 0 ≤ x) (x1 : x ≤ 18446744073709551615) (y0 : 0 ≤ y) (y1 : y ≤ 18446744073709551615) : (bits .or .u64 x y == y) = subB x y := by
  rw [Bool.eq_iff_iff, beq_iff_eq, sub_iff]
  constructor
  · intro h k hk
    have := or_has x y k x0 x1 y0 y1
    rw [h, hk, Bool.true_or] at this
    exact this
  · intro h
    have b := or_bd5 x y x0 x1 y0 y1
    refine mask_ext _ _ b.1 b.2 y0 y1 fun k => ?_
    rw [or_has x y k x0 x1 y0 y1]
    cases e : MM.hasB x (k : Int)
    · rfl
    · rw [h k e]; rfl
theorem sub_andNot (x y : Int) (x0 : 0 ≤ x) (x1 : x ≤ 18446744073709551615) (y0 : 0 ≤ y) (y1 : y ≤ 18446744073709551615) : (bits .andNot .u64 x y == 0) = subB x y := by
  rw [Bool.eq_iff_iff, beq_iff_eq, sub_iff]
  have hb := fun k => andNot_has x y k x0 x1 y0 y1
  constructor
  · intro h k hk
    have := hb k
    rw [h, has_zero, hk] at this
    simpa using this.symm
  · intro h
    have b := andNot_bd x y x0 x1 y0 y1
    refine mask_ext _ _ b.1 b.2 (by omega) (by omega) fun k => ?_
    rw [hb k, has_zero]
    cases e : MM.hasB x (k : Int)
    · rfl
    · rw [h k e]; rfl
theorem eq_sub {x y : Int} (x0 : 0 ≤ x) (x1 : x ≤ 18446744073709551615) (y0 : 0 ≤ y) (y1 : y ≤ 18446744073709551615) : x = y ↔ subB x y = true ∧ subB y x = true := by
  constructor
  · rintro rfl; exact ⟨sub_iff.2 fun _ h => h, sub_iff.2 fun _ h => h⟩
  · rintro ⟨h1, h2⟩
    refine mask_ext _ _ x0 x1 y0 y1 fun k => ?_
    rw [Bool.eq_iff_iff]
    exact ⟨sub_iff.1 h1 k, sub_iff.1 h2 k⟩
theorem has_below (n k : Nat) (hn : n ≤ 64) : MM.hasB (MM.belowI (n : Int)) (k : Int) = decide (k < n) := by
  have e : MM.belowI (n : Int) = MM.ones n := by
    unfold MM.belowI
    by_cases h : n < 64
    · rw [if_pos (by omega), Int.toNat_natCast]
    · rw [if_neg (by omega), show n = 64 by omega]
  rw [e]
  unfold MM.hasB MM.ones
  rw [Int.toNat_natCast, Int.toNat_natCast, Nat.testBit_two_pow_sub_one]
  by_cases hk : k < n
  · rw [decide_eq_true hk, decide_eq_true (show 0 ≤ (k : Int) ∧ (k : Int) < 64 by omega)]; rfl
  · rw [decide_eq_false hk, Bool.and_false]
theorem below_bd (n : Nat) (hn : n ≤ 64) : 0 ≤ MM.belowI (n : Int) ∧ MM.belowI (n : Int) ≤ 18446744073709551615 := by
  unfold MM.belowI
  split
  · exact MM.ones_bd _ (by omega)
  · exact MM.ones_bd 64 (Nat.le_refl _)
theorem has_withoutI (m : Int) (i j : Nat) (hi : i < 64) : MM.hasB (MM.withoutI m (i : Int)) (j : Int) = (MM.hasB m (j : Int) && !decide (i = j)) := by
  unfold MM.hasB MM.withoutI
  rw [if_pos (by omega), Int.toNat_natCast, Int.toNat_natCast, Int.toNat_natCast, Nat.testBit_and]
  by_cases hj : j < 64
  · have hp := MM.pow_pos64 i hi
    rw [not_has (2 ^ i) j (by omega) hj, Nat.testBit_two_pow, decide_eq_true (show 0 ≤ (j : Int) ∧ (j : Int) < 64 by omega)]
    simp
  · rw [decide_eq_false (show ¬ (0 ≤ (j : Int) ∧ (j : Int) < 64) by omega)]; simp
theorem mem_bits {m : Int} {k : Nat} : k ∈ MM.bitsOf m ↔ MM.hasB m (k : Int) = true := by
  unfold MM.bitsOf MM.upto
  rw [List.mem_filter, List.mem_range]
  exact ⟨fun h => h.2, fun h => ⟨has_lt h, h⟩⟩

/-! may an order be? -/
def pAt (xs : List Int) (i j : Nat) : Bool := !ab xs j i && (bits .andNot .u64 (xs[j]?.getD 0) (xs[i]?.getD 0) == 0)
def pRow (xs : List Int) (i : Nat) : Bool :=
  (ab xs i i && (bits .andNot .u64 (xs[i]?.getD 0) (MM.belowI xs.length) == 0)) && (MM.bitsOf (MM.withoutI (xs[i]?.getD 0) (i : Int))).all (pAt xs i)
theorem pRow_is {xs : List Int} (hw : Wide xs) (hl : xs.length ≤ 64) {i : Nat} (hi : i < xs.length) : pRow xs i = ordRow xs i := by
  have hb := below_bd xs.length hl
  have hx := hw.at i
  unfold pRow ordRow
  cases hii : ab xs i i
  · rfl
  · rw [sub_andNot _ _ hx.1 hx.2 hb.1 hb.2, Bool.true_and, Bool.true_and, Bool.eq_iff_iff, Bool.and_eq_true, List.all_eq_true, List.all_eq_true, sub_iff]
    have hat : ∀ j : Nat, pAt xs i j = (!ab xs j i && (bits .or .u64 (xs[j]?.getD 0) (xs[i]?.getD 0) == xs[i]?.getD 0)) := by
      intro j
      unfold pAt
      rw [sub_andNot _ _ (hw.at j).1 (hw.at j).2 hx.1 hx.2, sub_or _ _ (hw.at j).1 (hw.at j).2 hx.1 hx.2]
    constructor
    · rintro ⟨h1, h2⟩ k _
      unfold ordAt
      cases e : ab xs i k
      · rfl
      · have hk : k < xs.length := by
          have := h1 k e
          rw [has_below _ _ hl, decide_eq_true_eq] at this
          exact this
        rw [decide_eq_true hk]
        by_cases hki : k = i
        · subst hki
          have e2 : (bits .or .u64 (xs[k]?.getD 0) (xs[k]?.getD 0) == xs[k]?.getD 0) = true := by
            rw [sub_or _ _ hx.1 hx.2 hx.1 hx.2]; exact sub_iff.2 fun _ h => h
          rw [e2]; simp
        · have := h2 k (mem_bits.2 (by
            rw [has_withoutI _ _ _ (by omega)]
            have e' : MM.hasB (xs[i]?.getD 0) (k : Int) = true := e
            rw [e', decide_eq_false (fun h => hki h.symm)]; rfl))
          rw [hat, Bool.and_eq_true] at this
          rw [this.1, this.2]; simp
    · intro h
      have key : ∀ k, ab xs i k = true → k < xs.length ∧ (k = i ∨ ab xs k i = false) ∧ (bits .or .u64 (xs[k]?.getD 0) (xs[i]?.getD 0) == xs[i]?.getD 0) = true := by
        intro k hk
        have := h k (List.mem_range.2 (has_lt hk))
        unfold ordAt at this
        rw [hk] at this
        simpa [Bool.or_eq_true, Bool.and_eq_true] using this
      refine ⟨fun k hk => ?_, fun j hj => ?_⟩
      · rw [has_below _ _ hl, decide_eq_true_eq]; exact (key k hk).1
      · rw [mem_bits, has_withoutI _ _ _ (by omega), Bool.and_eq_true, Bool.not_eq_true', decide_eq_false_iff_not] at hj
        have := key j hj.1
        rw [hat, this.2.2, Bool.and_true, Bool.not_eq_true']
        rcases this.2.1 with e | e
        · exact absurd e.symm hj.2
        · exact e
theorem ord_rows {xs : List Int} (hw : Wide xs) (h : 1 ≤ xs.length ∧ xs.length ≤ 64) (ha : ∀ i, i < xs.length → pRow xs i = true) : ordB xs = true := by
  unfold ordB
  rw [decide_eq_true h, Bool.true_and]
  exact all_yes fun j hj => by rw [← pRow_is hw h.2 hj]; exact ha j hj
theorem ord_row_no {xs : List Int} (hw : Wide xs) (h : 1 ≤ xs.length ∧ xs.length ≤ 64) {i : Nat} (hi : i < xs.length) (ha : pRow xs i = false) : ordB xs = false := by
  unfold ordB
  rw [all_no (p := ordRow xs) hi (by rw [← pRow_is hw h.2 hi]; exact ha), Bool.and_false]
end Go.Proofs.YtkoofibhddkpiaaDoor.LL

/-! plain: an order turned round; the nearest beyond two; the ends -/
namespace Go.Proofs.YtkoofibhddkpiaaDoor.LL

theorem ord_mk {xs : List Int} (hw : Wide xs) (h : 1 ≤ xs.length ∧ xs.length ≤ 64) (h1 : ∀ i, i < xs.length → ab xs i i = true)
    (h2 : ∀ i k, i < xs.length → ab xs i k = true → k < xs.length ∧ (k = i ∨ ab xs k i = false) ∧ ∀ m, ab xs k m = true → ab xs i m = true) : ordB xs = true := by
  unfold ordB
  rw [decide_eq_true h, Bool.true_and]
  refine all_yes fun i hi => ?_
  unfold ordRow
  rw [h1 i hi, Bool.true_and]
  refine all_yes fun k _ => ?_
  unfold ordAt
  cases e : ab xs i k
  · rfl
  · obtain ⟨g1, g2, g3⟩ := h2 i k hi e
    rw [decide_eq_true g1, sub_or _ _ (hw.at k).1 (hw.at k).2 (hw.at i).1 (hw.at i).2, sub_iff.2 g3]
    rcases g2 with g | g
    · subst g; simp
    · rw [g]; simp
theorem ord_sub {xs : List Int} (h : ordB xs = true) (hw : Wide xs) {i k : Nat} (hi : i < xs.length) (hk : ab xs i k = true) : subB (xs[k]?.getD 0) (xs[i]?.getD 0) = true :=
  sub_iff.2 fun _ hm => ord_trans h hw hi hk hm

theorem firstI_congr {n : Nat} {p q : Nat → Bool} (h : ∀ k, k < n → p k = q k) : firstI n p = firstI n q := by
  by_cases h0 : 0 ≤ firstI n q
  · unfold firstI at h0 ⊢
    have e : (List.range n).find? p = (List.range n).find? q := by
      have key : ∀ l : List Nat, (∀ x ∈ l, p x = q x) → l.find? p = l.find? q := by
        intro l
        induction l with
        | nil => intro _; rfl
        | cons x l ih => intro hl; rw [List.find?_cons, List.find?_cons, hl x (by simp), ih fun y hy => hl y (by simp [hy])]
      exact key _ fun x hx => h x (List.mem_range.1 hx)
    rw [e]
  · unfold firstI
    have key : ∀ l : List Nat, (∀ x ∈ l, p x = q x) → l.find? p = l.find? q := by
      intro l
      induction l with
      | nil => intro _; rfl
      | cons x l ih => intro hl; rw [List.find?_cons, List.find?_cons, hl x (by simp), ih fun y hy => hl y (by simp [hy])]
    rw [key _ fun x hx => h x (List.mem_range.1 hx)]
theorem firstI_uniq {n : Nat} {p : Nat → Bool} {k : Nat} (hk : k < n) (hp : p k = true) (hu : ∀ j, j < n → p j = true → j = k) : firstI n p = (k : Int) := by
  refine firstI_hit hk hp fun j hj => ?_
  cases e : p j
  · rfl
  · have := hu j (by omega) e; omega

/-- what is beyond a and beyond b -/
def bothI (ys : List Int) (a b : Nat) : Int := bits .and .u64 (ys[a]?.getD 0) (ys[b]?.getD 0)
theorem both_bd {ys : List Int} (hw : Wide ys) (a b : Nat) : 0 ≤ bothI ys a b ∧ bothI ys a b ≤ 18446744073709551615 := and_bd _ _ (hw.at a).1 (hw.at a).2 (hw.at b).1 (hw.at b).2
theorem both_has {ys : List Int} (hw : Wide ys) (a b k : Nat) : MM.hasB (bothI ys a b) (k : Int) = (ab ys a k && ab ys b k) := and_has _ _ k (hw.at a).1 (hw.at a).2 (hw.at b).1 (hw.at b).2
theorem near_iff {ys : List Int} (h : ordB ys = true) (hw : Wide ys) {a b k : Nat} (ha : a < ys.length) (hb : b < ys.length) :
    (MM.hasB (bothI ys a b) (k : Int) = true ∧ ys[k]?.getD 0 = bothI ys a b) ↔ (k < ys.length ∧ isJoin ys a b k = true) := by
  have bb := both_bd hw a b
  rw [eq_sub (hw.at k).1 (hw.at k).2 bb.1 bb.2, both_has hw, Bool.and_eq_true]
  constructor
  · rintro ⟨⟨h1, h2⟩, _, h4⟩
    have hk := (ord_at h ha h1).1
    refine ⟨hk, (isJoin_iff hk).2 ⟨hk, h1, h2, fun m _ e1 e2 => ?_⟩⟩
    exact sub_iff.1 h4 m (by rw [both_has hw, e1, e2]; rfl)
  · rintro ⟨hk, hj⟩
    obtain ⟨_, h1, h2, h3⟩ := (isJoin_iff hk).1 hj
    refine ⟨⟨h1, h2⟩, sub_iff.2 fun m hm => ?_, sub_iff.2 fun m hm => ?_⟩
    · rw [both_has hw, ord_trans h hw ha h1 hm, ord_trans h hw hb h2 hm]; rfl
    · rw [both_has hw, Bool.and_eq_true] at hm
      exact h3 m (ord_at h ha hm.1).1 hm.1 hm.2
theorem near_hit {ys : List Int} (h : ordB ys = true) (hw : Wide ys) {a b k : Nat} (ha : a < ys.length) (hb : b < ys.length) (h1 : MM.hasB (bothI ys a b) (k : Int) = true) (h2 : ys[k]?.getD 0 = bothI ys a b) : joinI ys a b = (k : Int) := by
  obtain ⟨hk, hj⟩ := (near_iff h hw ha hb).1 ⟨h1, h2⟩
  have hJ := (isJoin_iff hk).1 hj
  refine firstI_uniq hk hj fun j hjn e => ?_
  have hJ2 := (isJoin_iff hjn).1 e
  have e1 := hJ.2.2.2 j hjn hJ2.2.1 hJ2.2.2.1
  have e2 := hJ2.2.2.2 k hk hJ.2.1 hJ.2.2.1
  rcases (ord_at h hk e1).2.1 with e | e
  · exact e
  · rw [e2] at e; cases e
theorem near_none {ys : List Int} (h : ordB ys = true) (hw : Wide ys) {a b : Nat} (ha : a < ys.length) (hb : b < ys.length) (hn : ∀ k, k ∈ MM.bitsOf (bothI ys a b) → ys[k]?.getD 0 ≠ bothI ys a b) : joinI ys a b = -1 := by
  refine firstI_none fun k hk => ?_
  cases e : isJoin ys a b k
  · rfl
  · have := (near_iff h hw ha hb).2 ⟨hk, e⟩
    exact absurd this.2 (hn k (mem_bits.2 this.1))
theorem end_eq {ys : List Int} (h : ordB ys = true) (hw : Wide ys) {i : Nat} (hi : i < ys.length) : (ys[i]?.getD 0 == MM.belowI ys.length) = isEnd ys i := by
  have hl := (ord_len h).2
  have bb := below_bd ys.length hl
  rw [Bool.eq_iff_iff, beq_iff_eq, eq_sub (hw.at i).1 (hw.at i).2 bb.1 bb.2]
  unfold isEnd
  rw [List.all_eq_true]
  constructor
  · rintro ⟨_, h2⟩ m hm
    exact sub_iff.1 h2 m (by rw [has_below _ _ hl, decide_eq_true (List.mem_range.1 hm)])
  · intro hm
    refine ⟨sub_iff.2 fun m e => ?_, sub_iff.2 fun m e => ?_⟩
    · rw [has_below _ _ hl, decide_eq_true (ord_at h hi e).1]
    · rw [has_below _ _ hl, decide_eq_true_eq] at e
      exact hm m (List.mem_range.2 e)

/-- of the first k levels, those that stand at or below i -/
def dnI (xs : List Int) (i : Nat) : Nat → Int
  | 0 => 0
  | k + 1 => if ab xs k i = true then MM.withI (dnI xs i k) (k : Int) else dnI xs i k
theorem dn_bd (xs : List Int) (i k : Nat) : 0 ≤ dnI xs i k ∧ dnI xs i k ≤ 18446744073709551615 := by
  induction k with
  | zero => exact ⟨Int.le_refl _, by show (0 : Int) ≤ _; omega⟩
  | succ k ih =>
    unfold dnI
    split
    · exact MM.withI_bd _ _ ih.1 ih.2
    · exact ih
theorem dn_has (xs : List Int) (i : Nat) : ∀ k j : Nat, k ≤ 64 → MM.hasB (dnI xs i k) (j : Int) = (decide (j < k) && ab xs j i) := by
  intro k
  induction k with
  | zero => intro j _; rw [show dnI xs i 0 = 0 from rfl, has_zero]; simp
  | succ k ih =>
    intro j hk
    have hih := ih j (by omega)
    show MM.hasB (if ab xs k i = true then MM.withI (dnI xs i k) (k : Int) else dnI xs i k) (j : Int) = _
    by_cases hj : j < 64
    · by_cases hki : ab xs k i = true
      · rw [if_pos hki]
        have hs : MM.hasB (MM.withI (dnI xs i k) (k : Int)) (j : Int) = (MM.hasB (dnI xs i k) (j : Int) || decide (k = j)) := by
          unfold MM.hasB MM.withI
          rw [if_pos (by omega), Int.toNat_natCast, Int.toNat_natCast, Int.toNat_natCast, Nat.testBit_or, Nat.testBit_two_pow, decide_eq_true (show 0 ≤ (j : Int) ∧ (j : Int) < 64 by omega), Bool.true_and, Bool.true_and]
        rw [hs, hih]
        by_cases e : k = j
        · subst e; rw [hki]; simp
        · have : (j < k) ↔ (j < k + 1) := by omega
          simp [e, this]
      · rw [if_neg hki, hih]
        by_cases e : j = k
        · subst e; simp [hki]
        · have : (j < k) ↔ (j < k + 1) := by omega
          simp [this]
    · have : MM.hasB (if ab xs k i = true then MM.withI (dnI xs i k) (k : Int) else dnI xs i k) (j : Int) = false := by
        unfold MM.hasB; rw [decide_eq_false (show ¬ (0 ≤ (j : Int) ∧ (j : Int) < 64) by omega), Bool.false_and]
      rw [this, decide_eq_false (by omega), Bool.false_and]
/-- the order turned round -/
def dualL (xs : List Int) : List Int := (List.range xs.length).map fun i => dnI xs i xs.length
theorem dual_len (xs : List Int) : (dualL xs).length = xs.length := by unfold dualL; simp
theorem dual_at (xs : List Int) {i : Nat} (hi : i < xs.length) : (dualL xs)[i]?.getD 0 = dnI xs i xs.length := by
  unfold dualL; rw [List.getElem?_map, List.getElem?_range hi]; rfl
theorem dual_wide (xs : List Int) : Wide (dualL xs) := by
  intro x hx
  unfold dualL at hx
  obtain ⟨i, _, rfl⟩ := List.mem_map.1 hx
  exact dn_bd _ _ _
theorem dual_ab {xs : List Int} (hl : xs.length ≤ 64) {i : Nat} (hi : i < xs.length) (j : Nat) : ab (dualL xs) i j = (decide (j < xs.length) && ab xs j i) := by
  show MM.hasB ((dualL xs)[i]?.getD 0) (j : Int) = _
  rw [dual_at xs hi]; exact dn_has xs i xs.length j hl
theorem dual_ab' {xs : List Int} (hl : xs.length ≤ 64) {i j : Nat} (hi : i < xs.length) (hj : j < xs.length) : ab (dualL xs) i j = ab xs j i := by
  rw [dual_ab hl hi j, decide_eq_true hj, Bool.true_and]
theorem dual_ord {xs : List Int} (h : ordB xs = true) (hw : Wide xs) : ordB (dualL xs) = true := by
  have hl := ord_len h
  refine ord_mk (dual_wide xs) (by rw [dual_len]; exact hl) (fun i hi => ?_) (fun i k hi e => ?_)
  · rw [dual_len] at hi; rw [dual_ab' hl.2 hi hi]; exact ord_refl h hi
  · rw [dual_len] at hi ⊢
    rw [dual_ab hl.2 hi, Bool.and_eq_true, decide_eq_true_eq] at e
    refine ⟨e.1, ?_, fun m hm => ?_⟩
    · rcases (ord_at h e.1 e.2).2.1 with g | g
      · exact .inl g.symm
      · exact .inr (by rw [dual_ab' hl.2 e.1 hi]; exact g)
    · rw [dual_ab hl.2 e.1, Bool.and_eq_true, decide_eq_true_eq] at hm
      rw [dual_ab' hl.2 hi hm.1]
      exact ord_trans h hw hm.1 hm.2 e.2
theorem dual_join {xs : List Int} (h : ordB xs = true) {a b : Nat} (ha : a < xs.length) (hb : b < xs.length) : joinI (dualL xs) a b = meetI xs a b := by
  have hl := (ord_len h).2
  unfold joinI meetI
  rw [dual_len]
  refine firstI_congr fun k hk => ?_
  rw [Bool.eq_iff_iff, isJoin_iff (by rw [dual_len]; exact hk), isMeet_iff hk]
  unfold IsJ IsM
  rw [dual_len, dual_ab' hl ha hk, dual_ab' hl hb hk]
  constructor
  · rintro ⟨h0, h1, h2, h3⟩
    refine ⟨h0, h1, h2, fun m hm e1 e2 => ?_⟩
    have := h3 m hm (by rw [dual_ab' hl ha hm]; exact e1) (by rw [dual_ab' hl hb hm]; exact e2)
    rw [dual_ab' hl hk hm] at this; exact this
  · rintro ⟨h0, h1, h2, h3⟩
    refine ⟨h0, h1, h2, fun m hm e1 e2 => ?_⟩
    rw [dual_ab' hl ha hm] at e1
    rw [dual_ab' hl hb hm] at e2
    rw [dual_ab' hl hk hm]; exact h3 m hm e1 e2
theorem dual_end {xs : List Int} (h : ordB xs = true) : endI (dualL xs) = farI xs := by
  have hl := (ord_len h).2
  unfold endI farI
  rw [dual_len]
  refine firstI_congr fun k hk => ?_
  unfold isEnd isFar
  rw [dual_len, Bool.eq_iff_iff, List.all_eq_true, List.all_eq_true]
  constructor
  · intro g m hm
    have := g m hm
    rw [dual_ab' hl hk (List.mem_range.1 hm)] at this; exact this
  · intro g m hm
    rw [dual_ab' hl hk (List.mem_range.1 hm)]; exact g m hm

/-- what the project asks of a lattice -/
def pRight (xs : List Int) : Bool := ordB xs && (decide (0 ≤ endI xs) && (List.range xs.length).all fun a => (List.range a).all fun b => decide (0 ≤ joinI xs a b))
theorem p_meets {xs : List Int} (h : ordB xs = true) (hw : Wide xs) (he : ∃ k, k < xs.length ∧ ∀ m, m < xs.length → ab xs k m = true)
    (hj : ∀ a b, a < xs.length → b < xs.length → ∃ j, IsJ xs a b j) {a b : Nat} (ha : a < xs.length) (hb : b < xs.length) : ∃ j, IsM xs a b j := by
  obtain ⟨e, hen, he⟩ := he
  have key : ∀ l : List Nat, (∀ x ∈ l, x < xs.length ∧ ab xs x a = true ∧ ab xs x b = true) → ∃ s, s < xs.length ∧ ab xs s a = true ∧ ab xs s b = true ∧ ∀ x ∈ l, ab xs x s = true := by
    intro l
    induction l with
    | nil => intro _; exact ⟨e, hen, he a ha, he b hb, fun x hx => absurd hx (by simp)⟩
    | cons x l ih =>
      intro hl
      obtain ⟨s, s1, s2, s3, s4⟩ := ih fun y hy => hl y (by simp [hy])
      obtain ⟨x1, x2, x3⟩ := hl x (by simp)
      obtain ⟨j, j1, j2, j3, j4⟩ := hj s x s1 x1
      refine ⟨j, j1, j4 a ha s2 x2, j4 b hb s3 x3, fun y hy => ?_⟩
      rcases List.mem_cons.1 hy with rfl | hy
      · exact j3
      · exact ord_trans h hw (hl y (by simp [hy])).1 (s4 y hy) j2
  obtain ⟨s, s1, s2, s3, s4⟩ := key ((List.range xs.length).filter fun x => ab xs x a && ab xs x b) (by
    intro x hx
    rw [List.mem_filter, List.mem_range, Bool.and_eq_true] at hx
    exact hx)
  refine ⟨s, s1, s2, s3, fun m hm e1 e2 => s4 m ?_⟩
  rw [List.mem_filter, List.mem_range, Bool.and_eq_true]
  exact ⟨hm, e1, e2⟩
theorem right_p {xs : List Int} (hw : Wide xs) : rightB xs = pRight xs := by
  cases h : ordB xs
  · unfold rightB pRight; rw [h]; rfl
  · rw [Bool.eq_iff_iff]
    constructor
    · intro hr
      obtain ⟨k, hk, he⟩ := ex_end hr hw
      unfold pRight
      rw [h, endI_is hr hk he, decide_eq_true (by omega), Bool.true_and, Bool.true_and]
      refine all_yes fun a ha => all_yes fun b hb => ?_
      have := pair_at hr ha hb
      unfold pairB at this
      rw [Bool.and_eq_true] at this
      exact this.1
    · intro hp
      unfold pRight at hp
      rw [h, Bool.true_and, Bool.and_eq_true, decide_eq_true_eq, List.all_eq_true] at hp
      obtain ⟨h0, hj⟩ := hp
      obtain ⟨k, _, hk, he⟩ := firstI_at h0
      have he' : ∃ k, k < xs.length ∧ ∀ m, m < xs.length → ab xs k m = true := by
        refine ⟨k, hk, fun m hm => ?_⟩
        unfold isEnd at he
        rw [List.all_eq_true] at he
        exact he m (List.mem_range.2 hm)
      have hj1 : ∀ a b, a < xs.length → b < a → ∃ j, IsJ xs a b j := by
        intro a b ha hb
        have := hj a (List.mem_range.2 ha)
        rw [List.all_eq_true] at this
        have := this b (List.mem_range.2 hb)
        rw [decide_eq_true_eq] at this
        obtain ⟨j, _, hj, e⟩ := firstI_at this
        exact ⟨j, (isJoin_iff hj).1 e⟩
      have hj2 : ∀ a b, a < xs.length → b < xs.length → ∃ j, IsJ xs a b j := by
        intro a b ha hb
        rcases Nat.lt_trichotomy a b with e | e | e
        · obtain ⟨j, hj⟩ := hj1 b a hb e; exact ⟨j, hj.symm⟩
        · subst e; exact ⟨a, ha, ord_refl h ha, ord_refl h ha, fun m _ e1 _ => e1⟩
        · exact hj1 a b ha e
      unfold rightB
      rw [h, Bool.true_and]
      refine all_yes fun a ha => all_yes fun b hb => ?_
      unfold pairB
      have := hj a (List.mem_range.2 ha)
      rw [List.all_eq_true] at this
      rw [this b (List.mem_range.2 hb), Bool.true_and, decide_eq_true_eq]
      obtain ⟨m, hm⟩ := p_meets h hw he' hj2 ha (show b < xs.length by omega)
      have hmm : isMeet xs a b m = true := (isMeet_iff hm.1).2 hm
      apply Classical.byContradiction
      intro hn
      have e : ∀ i, i < xs.length → isMeet xs a b i = false := by
        unfold meetI firstI at hn
        split at hn
        · omega
        · rename_i e
          rw [List.find?_eq_none] at e
          intro i hi
          have := e i (List.mem_range.2 hi)
          simpa using this
      rw [e m hm.1] at hmm; cases hmm
end Go.Proofs.YtkoofibhddkpiaaDoor.LL

/-! plain: what stands above a set; the height by rounds; what stands right above -/
namespace Go.Proofs.YtkoofibhddkpiaaDoor.LL

/-- what stands above one of l, and is not that one -/
def aboveF (xs : List Int) (l : List Nat) : Int := l.foldl (fun m (i : Nat) => bits .or .u64 m (MM.withoutI (xs[i]?.getD 0) (i : Int))) 0
theorem aboveF_snoc (xs : List Int) (l : List Nat) (i : Nat) : aboveF xs (l ++ [i]) = bits .or .u64 (aboveF xs l) (MM.withoutI (xs[i]?.getD 0) (i : Int)) := by
  unfold aboveF; rw [List.foldl_append]; rfl
theorem aboveF_all {xs : List Int} (hw : Wide xs) (l : List Nat) (hl : ∀ i ∈ l, i < 64) :
    (0 ≤ aboveF xs l ∧ aboveF xs l ≤ 18446744073709551615) ∧ ∀ k : Nat, MM.hasB (aboveF xs l) (k : Int) = l.any fun i => st xs i k := by
  have key : ∀ (l : List Nat) (m : Int), (∀ i ∈ l, i < 64) → 0 ≤ m ∧ m ≤ 18446744073709551615 →
      (0 ≤ l.foldl (fun m (i : Nat) => bits .or .u64 m (MM.withoutI (xs[i]?.getD 0) (i : Int))) m ∧ l.foldl (fun m (i : Nat) => bits .or .u64 m (MM.withoutI (xs[i]?.getD 0) (i : Int))) m ≤ 18446744073709551615) ∧
      ∀ k : Nat, MM.hasB (l.foldl (fun m (i : Nat) => bits .or .u64 m (MM.withoutI (xs[i]?.getD 0) (i : Int))) m) (k : Int) = (MM.hasB m (k : Int) || l.any fun i => st xs i k) := by
    intro l
    induction l with
    | nil => intro m _ hm; exact ⟨hm, fun k => by simp⟩
    | cons i l ih =>
      intro m hl hm
      have hi := hl i (by simp)
      have hb := MM.withoutI_bd (xs[i]?.getD 0) (i : Int) (hw.at i).1 (hw.at i).2
      have ho := or_bd5 m _ hm.1 hm.2 hb.1 hb.2
      obtain ⟨h1, h2⟩ := ih _ (fun j hj => hl j (by simp [hj])) ho
      refine ⟨h1, fun k => ?_⟩
      have := h2 k
      rw [List.foldl_cons, this, or_has _ _ k hm.1 hm.2 hb.1 hb.2, has_withoutI _ _ _ hi, List.any_cons, Bool.or_assoc]
      congr 2
      unfold st
      show (ab xs i k && !decide (i = k)) = (i != k && ab xs i k)
      by_cases e : i = k
      · subst e; simp
      · simp [e]
  obtain ⟨h1, h2⟩ := key l 0 hl (by omega)
  refine ⟨h1, fun k => ?_⟩
  have := h2 k
  rw [has_zero, Bool.false_or] at this
  exact this
theorem bits_lt' (m : Int) : ∀ i ∈ MM.bitsOf m, i < 64 := fun i hi => MM.bits_lt m i hi
theorem above_set {xs : List Int} (hw : Wide xs) (m : Int) (k : Nat) : MM.hasB (aboveF xs (MM.bitsOf m)) (k : Int) = true ↔ ∃ i : Nat, MM.hasB m (i : Int) = true ∧ st xs i k = true := by
  rw [(aboveF_all hw _ (bits_lt' m)).2 k, List.any_eq_true]
  constructor
  · rintro ⟨i, hi, h⟩; exact ⟨i, mem_bits.1 hi, h⟩
  · rintro ⟨i, hi, h⟩; exact ⟨i, mem_bits.2 hi, h⟩
theorem above_bd {xs : List Int} (hw : Wide xs) (m : Int) : 0 ≤ aboveF xs (MM.bitsOf m) ∧ aboveF xs (MM.bitsOf m) ≤ 18446744073709551615 := (aboveF_all hw _ (bits_lt' m)).1

/-- the levels above a chain of r steps -/
def lev (xs : List Int) : Nat → Int
  | 0 => MM.belowI xs.length
  | r + 1 => aboveF xs (MM.bitsOf (lev xs r))
theorem lev_bd {xs : List Int} (hw : Wide xs) (hl : xs.length ≤ 64) (r : Nat) : 0 ≤ lev xs r ∧ lev xs r ≤ 18446744073709551615 := by
  cases r with
  | zero => exact below_bd xs.length hl
  | succ r => exact above_bd hw _
def Chain (xs : List Int) : Nat → Nat → Nat → Prop
  | 0, a, b => a = b
  | r + 1, a, b => ∃ m, Chain xs r a m ∧ st xs m b = true
theorem chain_lt {xs : List Int} (h : ordB xs = true) : ∀ r a b, a < xs.length → Chain xs r a b → b < xs.length := by
  intro r
  induction r with
  | zero => rintro a b ha rfl; exact ha
  | succ r ih =>
    rintro a b ha ⟨m, hm, hs⟩
    unfold st at hs
    rw [Bool.and_eq_true] at hs
    exact (ord_at h (ih a m ha hm) hs.2).1
theorem lev_iff {xs : List Int} (h : ordB xs = true) (hw : Wide xs) : ∀ r (k : Nat), MM.hasB (lev xs r) (k : Int) = true ↔ ∃ a, a < xs.length ∧ Chain xs r a k := by
  intro r
  induction r with
  | zero =>
    intro k
    show MM.hasB (MM.belowI xs.length) (k : Int) = true ↔ _
    rw [has_below _ _ (ord_len h).2, decide_eq_true_eq]
    exact ⟨fun hk => ⟨k, hk, rfl⟩, fun ⟨a, ha, e⟩ => by have : a = k := e; omega⟩
  | succ r ih =>
    intro k
    show MM.hasB (aboveF xs (MM.bitsOf (lev xs r))) (k : Int) = true ↔ _
    rw [above_set hw]
    constructor
    · rintro ⟨i, hi, hs⟩
      obtain ⟨a, ha, hc⟩ := (ih i).1 hi
      exact ⟨a, ha, i, hc, hs⟩
    · rintro ⟨a, ha, i, hc, hs⟩
      exact ⟨i, (ih i).2 ⟨a, ha, hc⟩, hs⟩
theorem chain_long {xs : List Int} (h : ordB xs = true) (hw : Wide xs) : ∀ r a b, a < xs.length → Chain xs r a b → r + longL xs b ≤ longL xs a := by
  intro r
  induction r with
  | zero => rintro a b _ rfl; omega
  | succ r ih =>
    rintro a b ha ⟨m, hm, hs⟩
    have h1 := ih a m ha hm
    have h2 := long_le h hw (chain_lt h r a m ha hm) hs
    omega
theorem long_chain {xs : List Int} (h : ordB xs = true) (hw : Wide xs) (a : Nat) (ha : a < xs.length) : ∀ r, r ≤ longL xs a → ∃ b, b < xs.length ∧ Chain xs r a b ∧ longL xs b + r = longL xs a := by
  intro r
  induction r with
  | zero => intro _; exact ⟨a, ha, rfl, rfl⟩
  | succ r ih =>
    intro hr
    obtain ⟨b, hb, hc, e⟩ := ih (by omega)
    rcases long_hit h hw hb with h0 | ⟨c, hcl, hs, e2⟩
    · omega
    · exact ⟨c, hcl, ⟨b, hc, hs⟩, by omega⟩
theorem lev_some {xs : List Int} (h : ordB xs = true) (hw : Wide xs) {r : Nat} (hne : lev xs r ≠ 0) : r ≤ heightN xs := by
  have hb := lev_bd hw (ord_len h).2 r
  have : ∃ k : Nat, MM.hasB (lev xs r) (k : Int) = true := by
    apply Classical.byContradiction
    intro hn
    refine hne (mask_ext _ _ hb.1 hb.2 (by omega) (by omega) fun k => ?_)
    rw [has_zero]
    cases e : MM.hasB (lev xs r) (k : Int)
    · rfl
    · exact absurd ⟨k, e⟩ hn
  obtain ⟨k, hk⟩ := this
  obtain ⟨a, ha, hc⟩ := (lev_iff h hw r k).1 hk
  have h1 := chain_long h hw r a k ha hc
  have h2 : longL xs a ≤ heightN xs := maxUp_le ha
  omega
theorem lev_none {xs : List Int} (h : ordB xs = true) (hw : Wide xs) {r : Nat} (he : lev xs r = 0) : heightN xs < r := by
  have hl := (ord_len h).1
  apply Classical.byContradiction
  intro hn
  have : ∃ a, a < xs.length ∧ r ≤ longL xs a := by
    rcases maxUp_hit (longL xs) xs.length with e | ⟨k, hk, e⟩
    · refine ⟨0, by omega, ?_⟩
      have : heightN xs = 0 := e
      omega
    · refine ⟨k, hk, ?_⟩
      have : heightN xs = longL xs k := e
      omega
  obtain ⟨a, ha, hr⟩ := this
  obtain ⟨b, _, hc, _⟩ := long_chain h hw a ha r hr
  have := (lev_iff h hw r b).2 ⟨a, ha, hc⟩
  rw [he, has_zero] at this
  cases this

/-- what stands right above a -/
def upI (xs : List Int) (a : Nat) : Int := MM.withoutI (xs[a]?.getD 0) (a : Int)
def coverI (xs : List Int) (a : Nat) : Int := bits .andNot .u64 (upI xs a) (aboveF xs (MM.bitsOf (upI xs a)))
theorem up_bd {xs : List Int} (hw : Wide xs) (a : Nat) : 0 ≤ upI xs a ∧ upI xs a ≤ 18446744073709551615 := MM.withoutI_bd _ _ (hw.at a).1 (hw.at a).2
theorem cover_bd {xs : List Int} (hw : Wide xs) (a : Nat) : 0 ≤ coverI xs a ∧ coverI xs a ≤ 18446744073709551615 := by
  have h1 := up_bd hw a
  have h2 := above_bd hw (upI xs a)
  exact andNot_bd _ _ h1.1 h1.2 h2.1 h2.2
theorem up_has {xs : List Int} {a : Nat} (ha : a < 64) (k : Nat) : MM.hasB (upI xs a) (k : Int) = st xs a k := by
  unfold upI st
  rw [has_withoutI _ _ _ ha]
  show (ab xs a k && !decide (a = k)) = (a != k && ab xs a k)
  by_cases e : a = k
  · subst e; simp
  · simp [e]
theorem cover_has {xs : List Int} (h : ordB xs = true) (hw : Wide xs) {a : Nat} (ha : a < xs.length) (b : Nat) : MM.hasB (coverI xs a) (b : Int) = (decide (b < xs.length) && isCover xs a b) := by
  have hl := (ord_len h).2
  have h1 := up_bd hw a
  have h2 := above_bd hw (upI xs a)
  have hlt : ∀ k, st xs a k = true → k < xs.length := by
    intro k hk
    unfold st at hk
    rw [Bool.and_eq_true] at hk
    exact (ord_at h ha hk.2).1
  unfold coverI
  rw [andNot_has _ _ b h1.1 h1.2 h2.1 h2.2, up_has (by omega)]
  unfold isCover
  show (st xs a b && !MM.hasB (aboveF xs (MM.bitsOf (upI xs a))) (b : Int)) = (decide (b < xs.length) && (st xs a b && (List.range xs.length).all (coverAt xs a b)))
  cases e : st xs a b
  · simp
  · rw [decide_eq_true (hlt b e), Bool.true_and, Bool.true_and, Bool.true_and, Bool.eq_iff_iff, Bool.not_eq_true', List.all_eq_true]
    constructor
    · intro hn m _
      unfold coverAt
      by_cases e1 : m = a
      · simp [e1]
      · by_cases e2 : m = b
        · simp [e2]
        · cases e3 : ab xs a m
          · simp
          · cases e4 : ab xs m b
            · simp
            · have : MM.hasB (aboveF xs (MM.bitsOf (upI xs a))) (b : Int) = true := by
                rw [above_set hw]
                refine ⟨m, ?_, ?_⟩
                · rw [up_has (by omega)]; unfold st; rw [e3]; simp; exact fun h => e1 h.symm
                · unfold st; rw [e4]; simp; exact e2
              rw [hn] at this; cases this
    · intro ha2
      rw [Bool.eq_false_iff]
      intro hh
      rw [above_set hw] at hh
      obtain ⟨m, h3, h4⟩ := hh
      rw [up_has (by omega)] at h3
      have := ha2 m (List.mem_range.2 (hlt m h3))
      unfold coverAt at this
      unfold st at h3 h4
      rw [Bool.and_eq_true, bne_iff_ne] at h3 h4
      rw [h3.2, h4.2, beq_eq_false_iff_ne.2 (fun e => h3.1 e.symm), beq_eq_false_iff_ne.2 h4.1] at this
      cases this
theorem cover_bits {xs : List Int} (h : ordB xs = true) (hw : Wide xs) {a : Nat} (ha : a < xs.length) : (MM.bitsOf (coverI xs a)).map (fun b => (a, b)) = rowUp xs a xs.length := by
  have hl := (ord_len h).2
  unfold rowUp MM.bitsOf MM.upto
  congr 1
  obtain ⟨d, hd⟩ : ∃ d, 64 = xs.length + d := ⟨64 - xs.length, by omega⟩
  rw [hd, List.range_add, List.filter_append]
  have e2 : (List.map (fun x => xs.length + x) (List.range d)).filter (fun i : Nat => MM.hasB (coverI xs a) (i : Int)) = [] := by
    rw [List.filter_eq_nil_iff]
    intro i hi
    obtain ⟨j, _, rfl⟩ := List.mem_map.1 hi
    rw [cover_has h hw ha, decide_eq_false (by omega), Bool.false_and]
    simp
  rw [e2, List.append_nil]
  apply List.filter_congr
  intro b hb
  rw [cover_has h hw ha, decide_eq_true (List.mem_range.1 hb), Bool.true_and]
end Go.Proofs.YtkoofibhddkpiaaDoor.LL

/-! plain: putting above each level what stands above what stands above it -/
namespace Go.Proofs.YtkoofibhddkpiaaDoor.LL

/-- the row of j, when k is gone through -/
def stepR (S : List Int) (k j : Nat) : Int := if ab S j k = true then bits .or .u64 (S[j]?.getD 0) (S[k]?.getD 0) else S[j]?.getD 0
/-- the first i rows are done -/
def midL (S : List Int) (k i : Nat) : List Int := (List.range S.length).map fun j => if j < i then stepR S k j else S[j]?.getD 0
theorem mid_len (S : List Int) (k i : Nat) : (midL S k i).length = S.length := by unfold midL; simp
theorem mid_at (S : List Int) (k i : Nat) {j : Nat} (hj : j < S.length) : (midL S k i)[j]?.getD 0 = if j < i then stepR S k j else S[j]?.getD 0 := by
  unfold midL; rw [List.getElem?_map, List.getElem?_range hj]; rfl
theorem ext_getD {S T : List Int} (hl : S.length = T.length) (h : ∀ j, j < T.length → S[j]?.getD 0 = T[j]?.getD 0) : S = T := by
  apply List.ext_getElem?
  intro j
  by_cases hj : j < T.length
  · have := h j hj
    rw [List.getElem?_eq_getElem (show j < S.length by omega), List.getElem?_eq_getElem hj] at this ⊢
    simpa using this
  · rw [List.getElem?_eq_none (by omega), List.getElem?_eq_none (by omega)]
theorem mid_zero (S : List Int) (k : Nat) : midL S k 0 = S :=
  ext_getD (mid_len S k 0) fun j hj => by rw [mid_at S k 0 hj, if_neg (by omega)]
theorem or_self5 (x : Int) (h : 0 ≤ x ∧ x ≤ 18446744073709551615) : bits .or .u64 x x = x := by
  rw [or_nat x x h.1 h.2 h.1 h.2, Nat.or_self]; omega
theorem step_self {S : List Int} (hw : Wide S) (k : Nat) : stepR S k k = S[k]?.getD 0 := by
  unfold stepR
  split
  · exact or_self5 _ (hw.at k)
  · rfl
theorem mid_row {S : List Int} (hw : Wide S) {k i : Nat} (hi : i < S.length) (hk : k < S.length) : (midL S k i)[i]?.getD 0 = S[i]?.getD 0 ∧ (midL S k i)[k]?.getD 0 = S[k]?.getD 0 := by
  refine ⟨by rw [mid_at S k i hi, if_neg (by omega)], ?_⟩
  rw [mid_at S k i hk]
  split
  · exact step_self hw k
  · rfl
theorem mid_yes {S : List Int} {k i : Nat} (hi : i < S.length) (h : ab S i k = true) : (midL S k i).set i (bits .or .u64 (S[i]?.getD 0) (S[k]?.getD 0)) = midL S k (i + 1) := by
  refine ext_getD (by rw [List.length_set, mid_len, mid_len]) fun j hj => ?_
  rw [mid_len] at hj
  rw [get_set (midL S k i) i j _ (by rw [mid_len]; exact hi), mid_at S k (i + 1) hj, mid_at S k i hj]
  by_cases e : j = i
  · subst e; rw [if_pos rfl, if_pos (by omega)]; unfold stepR; rw [if_pos h]
  · rw [if_neg e]
    by_cases hlt : j < i
    · rw [if_pos hlt, if_pos (by omega)]
    · rw [if_neg hlt, if_neg (by omega)]
theorem mid_no {S : List Int} {k i : Nat} (h : ab S i k = false) : midL S k i = midL S k (i + 1) := by
  refine ext_getD (by rw [mid_len, mid_len]) fun j hj => ?_
  rw [mid_len] at hj
  rw [mid_at S k (i + 1) hj, mid_at S k i hj]
  by_cases e : j = i
  · subst e; rw [if_neg (by omega), if_pos (by omega)]; unfold stepR; rw [h]; rfl
  · by_cases hlt : j < i
    · rw [if_pos hlt, if_pos (by omega)]
    · rw [if_neg hlt, if_neg (by omega)]
theorem step_bd {S : List Int} (hw : Wide S) (k j : Nat) : 0 ≤ stepR S k j ∧ stepR S k j ≤ 18446744073709551615 := by
  unfold stepR
  split
  · exact or_bd5 _ _ (hw.at j).1 (hw.at j).2 (hw.at k).1 (hw.at k).2
  · exact hw.at j
theorem mid_wide {S : List Int} (hw : Wide S) (k i : Nat) : Wide (midL S k i) := by
  intro x hx
  unfold midL at hx
  obtain ⟨j, _, rfl⟩ := List.mem_map.1 hx
  show 0 ≤ (if j < i then stepR S k j else S[j]?.getD 0) ∧ (if j < i then stepR S k j else S[j]?.getD 0) ≤ _
  split
  · exact step_bd hw k j
  · exact hw.at j
def passL (S : List Int) (k : Nat) : List Int := midL S k S.length
theorem pass_ab {S : List Int} (hw : Wide S) (k : Nat) {i : Nat} (hi : i < S.length) (j : Nat) : ab (passL S k) i j = true ↔ ab S i j = true ∨ (ab S i k = true ∧ ab S k j = true) := by
  show MM.hasB ((passL S k)[i]?.getD 0) (j : Int) = true ↔ _
  unfold passL
  rw [mid_at S k _ hi, if_pos hi]
  unfold stepR
  by_cases h : ab S i k = true
  · rw [if_pos h, or_has _ _ j (hw.at i).1 (hw.at i).2 (hw.at k).1 (hw.at k).2, Bool.or_eq_true]
    show ab S i j = true ∨ ab S k j = true ↔ _
    simp [h]
  · rw [if_neg h]
    show ab S i j = true ↔ _
    simp [h]
/-- k levels are gone through -/
def chL (S : List Int) : Nat → List Int
  | 0 => S
  | k + 1 => passL (chL S k) k
theorem ch_len (S : List Int) (k : Nat) : (chL S k).length = S.length := by
  induction k with
  | zero => rfl
  | succ k ih => show (midL _ _ _).length = _; rw [mid_len, ih]
theorem ch_wide {S : List Int} (hw : Wide S) (k : Nat) : Wide (chL S k) := by
  induction k with
  | zero => exact hw
  | succ k ih => exact mid_wide ih _ _
theorem ch_inv {n : Nat} {ps : List (Nat × Nat)} {S : List Int} (h : Inv n ps S) (hc : Comp n ps S) : ∀ k, k ≤ n →
    Inv n ps (chL S k) ∧ Comp n ps (chL S k) ∧ ∀ c, c < k → ∀ i j, i < n → ab (chL S k) i c = true → ab (chL S k) c j = true → ab (chL S k) i j = true := by
  intro k
  induction k with
  | zero => intro _; exact ⟨h, hc, fun c hc => absurd hc (Nat.not_lt_zero _)⟩
  | succ k ih =>
    intro hk
    obtain ⟨h1, h2, h3⟩ := ih (by omega)
    have hl : (chL S k).length = n := h1.1
    have hw := h1.2.1
    have hp : ∀ i, i < n → ∀ j, ab (chL S (k + 1)) i j = true ↔ ab (chL S k) i j = true ∨ (ab (chL S k) i k = true ∧ ab (chL S k) k j = true) :=
      fun i hi j => pass_ab hw k (by rw [hl]; exact hi) j
    have hlt : ∀ i, i < n → ∀ j, ab (chL S k) i j = true → j < n := fun i hi j e => (h1.2.2 i j hi e).1
    have hkn : k < n := by omega
    refine ⟨⟨by rw [ch_len, ← h.1], ch_wide h.2.1 _, fun i j hi e => ?_⟩, ⟨fun i hi => (hp i hi i).2 (.inl (h2.1 i hi)), fun p hm => ?_⟩, fun c hck i j hi e1 e2 => ?_⟩
    · rcases (hp i hi j).1 e with g | ⟨g1, g2⟩
      · exact h1.2.2 i j hi g
      · have a1 := h1.2.2 i k hi g1
        have a2 := h1.2.2 k j hkn g2
        exact ⟨a2.1, a1.2.trans a2.2⟩
    · have := h2.2 p hm
      have hi : p.1 < n := by
        apply Classical.byContradiction
        intro hn
        have hz : (chL S k)[p.1]?.getD 0 = 0 := by rw [List.getElem?_eq_none (by omega)]; rfl
        unfold ab at this
        rw [hz, has_zero] at this
        cases this
      exact (hp p.1 hi p.2).2 (.inl this)
    · have e1' := (hp i hi c).1 e1
      have hcn : c < n := by
        rcases e1' with g | ⟨_, g⟩
        · exact hlt i hi c g
        · exact hlt k hkn c g
      have e2' := (hp c hcn j).1 e2
      rw [hp i hi j]
      by_cases e : c = k
      · subst e
        have a1 : ab (chL S c) i c = true := by rcases e1' with g | g; exact g; exact g.1
        have a2 : ab (chL S c) c j = true := by rcases e2' with g | g; exact g; exact g.2
        exact .inr ⟨a1, a2⟩
      · have hc' : c < k := by omega
        rcases e1' with g | ⟨g1, g2⟩
        · rcases e2' with f | ⟨f1, f2⟩
          · exact .inl (h3 c hc' i j hi g f)
          · exact .inr ⟨h3 c hc' i k hi g f1, f2⟩
        · rcases e2' with f | ⟨f1, f2⟩
          · exact .inr ⟨g1, h3 c hc' k j hkn g2 f⟩
          · exact .inr ⟨g1, f2⟩
theorem ch_close {n : Nat} {ps : List (Nat × Nat)} {S : List Int} (h : Inv n ps S) (hc : Comp n ps S) : IsClose n ps (chL S n) := by
  obtain ⟨h1, h2, h3⟩ := ch_inv h hc n (Nat.le_refl _)
  refine close_of h1 h2 fun i hi k hk => ?_
  unfold closedAt
  cases e : ab (chL S n) i k
  · rfl
  · have bi := h1.2.1.at i
    have bk := h1.2.1.at k
    rw [Bool.not_true, Bool.false_or, beq_iff_eq]
    have bo := or_bd5 _ _ bi.1 bi.2 bk.1 bk.2
    refine mask_ext _ _ bo.1 bo.2 bi.1 bi.2 fun m => ?_
    rw [or_has _ _ m bi.1 bi.2 bk.1 bk.2]
    cases e2 : MM.hasB ((chL S n)[k]?.getD 0) (m : Int)
    · rw [Bool.or_false]
    · have : MM.hasB ((chL S n)[i]?.getD 0) (m : Int) = true := h3 k hk i m hi e e2
      rw [this]; rfl
end Go.Proofs.YtkoofibhddkpiaaDoor.LL

/-! the walks of layer 5's level, way, end -/
namespace Go.Proofs.YtkoofibhddkpiaaDoor
open Go.RowKit

/-- the boxes of a way: whether it is turned, and the masks -/
def wayBoxes (w : World) (v : Value) (t : Bool) : World := (w.alloc (.cells #[v] 22)).alloc (.cells #[.bool t] 4)
def wayF (Bt Bu : Nat) : Value := .func (.func 35) #[] #[.pointer (some ⟨Bt, 0, none⟩), .pointer (some ⟨Bu, 0, none⟩)]
set_option maxHeartbeats 400000 in
theorem way_any (a : Option Addr) (len cap : Nat) (t : Bool) (w : World) :
    Calls Tryd.prog 25 #[.slice a len cap, .bool t] w fun e w' => e = .returned (wayF (w.heap.size + 1) w.heap.size) ∧ w' = wayBoxes w (.slice a len cap) t := by
  go_enter Tryd.func25, Tryd.ntmps25
  go_wp2_with fail
  go_ret
  exact ⟨rfl, rfl⟩

/-- the masks one way round -/
def beyL (xs : List Int) (t : Bool) : List Int := if t = true then LL.dualL xs else xs
theorem bey_len (xs : List Int) (t : Bool) : (beyL xs t).length = xs.length := by
  cases t
  · rfl
  · exact LL.dual_len xs
theorem bey_wide {xs : List Int} (hx : Wide xs) (t : Bool) : Wide (beyL xs t) := by
  cases t
  · exact hx
  · exact LL.dual_wide xs
theorem bey_ord {xs : List Int} (h : LL.ordB xs = true) (hx : Wide xs) (t : Bool) : LL.ordB (beyL xs t) = true := by
  cases t
  · exact h
  · exact LL.dual_ord h hx
/-- a way: its boxes hold the masks xs, and which way round -/
def Way (n₀ : Nat) (w : World) (Bt Bu : Nat) (xs : List Int) (t : Bool) : Prop :=
  Bt < n₀ ∧ Bu < n₀ ∧ w.cell? ⟨Bt, 0, none⟩ = some (.bool t) ∧ ∃ v, w.cell? ⟨Bu, 0, none⟩ = some v ∧ Nums .u64 n₀ w v xs
theorem Way.below {n₀ : Nat} {w w' : World} {Bt Bu : Nat} {xs : List Int} {t : Bool} (h : Way n₀ w Bt Bu xs t) (hb : Below n₀ w w') : Way n₀ w' Bt Bu xs t := by
  obtain ⟨h1, h2, h3, v, h4, h5⟩ := h
  exact ⟨h1, h2, (hb.cell (p := ⟨Bt, 0, none⟩) h1).trans h3, v, (hb.cell (p := ⟨Bu, 0, none⟩) h2).trans h4, h5.below hb⟩
theorem Way.mono {n₀ n₁ : Nat} {w : World} {Bt Bu : Nat} {xs : List Int} {t : Bool} (h : Way n₀ w Bt Bu xs t) (hn : n₀ ≤ n₁) : Way n₁ w Bt Bu xs t := by
  obtain ⟨h1, h2, h3, v, h4, h5⟩ := h
  exact ⟨by omega, by omega, h3, v, h4, h5.mono hn⟩
theorem Way.drew {n₀ : Nat} {w : World} {Bt Bu : Nat} {xs : List Int} {t : Bool} (h : Way n₀ w Bt Bu xs t) : Way n₀ w.drew Bt Bu xs t := h.below ⟨rfl, rfl, rfl, Nat.le_refl _, fun _ _ => rfl⟩
theorem Way.made {n₀ : Nat} {w : World} {v : Value} {xs : List Int} (t : Bool) (h : Nums .u64 n₀ w v xs) (hn : n₀ ≤ w.heap.size) : Way (w.heap.size + 2) (wayBoxes w v t) (w.heap.size + 1) w.heap.size xs t := by
  have e1 : (wayBoxes w v t).heap[w.heap.size + 1]? = some (.cells #[.bool t] 4) := by
    have := World.alloc_heap_new (w.alloc (.cells #[v] 22)) (.cells #[.bool t] 4)
    rw [World.size_alloc] at this; exact this
  have e2 : (wayBoxes w v t).heap[w.heap.size]? = some (.cells #[v] 22) :=
    (Below.heap_alloc (w.alloc (.cells #[v] 22)) _ _ (by simp)).trans (World.alloc_heap_new w _)
  refine ⟨by omega, by omega, by simp [World.cell?, e1], v, by simp [World.cell?, e2], ?_⟩
  exact (h.below (((Below.refl n₀ w).alloc hn _).alloc (by simp; omega) _)).mono (by omega)

set_option maxHeartbeats 800000 in
theorem way1_any (Bt Bu i n₀ : Nat) (xs : List Int) (t : Bool) (w : World) (h : Way n₀ w Bt Bu xs t) (hx : Wide xs) (hl : xs.length ≤ 64) (hi : i < xs.length) :
    Calls Tryd.prog 35 #[.int .i64 i, .pointer (some ⟨Bt, 0, none⟩), .pointer (some ⟨Bu, 0, none⟩)] w fun e w' => e = .returned (.int .u64 ((beyL xs t)[i]?.getD 0)) ∧ w' = w := by
  obtain ⟨_, _, ht, v, hu, hv⟩ := h
  obtain ⟨bk, off, cap, rfl, hbk, hc⟩ := hv.at (by omega)
  have HX := Lib.hid hx
  have i1 : (0 : Int) ≤ i ∧ (i : Int) < xs.length := by omega
  cases t
  · have hci := hc i hi
    have HB := Lib.hid (show xs[i]?.getD 0 = (beyL xs false)[i]?.getD 0 from rfl)
    clear hc hv hx
    generalize xs[i]?.getD 0 = x at hci HB
    go_enter Tryd.func35, Tryd.ntmps35
    go_wp2_with fail
    go_ret
    exact ⟨ret_int HB.out, rfl⟩
  · have HC := Lib.hid hc
    have HD := Lib.hid (show LL.dnI xs i xs.length = (beyL xs true)[i]?.getD 0 from (LL.dual_at xs hi).symm)
    clear hc hv hx
    go_enter Tryd.func35, Tryd.ntmps35
    go_wp2_with fail
    go_loop [5, 15] (fun m k => ∃ j : Nat, j ≤ xs.length ∧ k = .int .i64 (j : Int) ∧ m = .int .u64 (LL.dnI xs i j)) (fun _ k => xs.length - (intOf k).toNat)
    case atStart => exact ⟨0, Nat.zero_le _, rfl, rfl⟩
    case round =>
      obtain ⟨j, hj, rfl, rfl⟩ := hrel
      by_cases hlt : j < xs.length
      · have hcj := HC.out j hlt
        have hxj := HX.out.at j
        have HXJ := Lib.hid hxj
        have hd := LL.dn_bd xs i j
        have HDB := Lib.hid hd
        have i2 : (0 : Int) ≤ j ∧ (j : Int) < xs.length := by omega
        cases hab : LL.ab xs j i
        · have HN := Lib.hid (show LL.dnI xs i j = LL.dnI xs i (j + 1) by show _ = if _ then _ else _; rw [hab]; rfl)
          have HA := Lib.hid (show MM.hasB (xs[j]?.getD 0) (i : Int) = false from hab)
          clear hab hxj hd
          generalize xs[j]?.getD 0 = xj at hcj HA HXJ
          go_wp2_with (go_at_call 32; refine (has_any _ _ _ HXJ.out.1 HXJ.out.2).mono ?_; rintro e w' ⟨rfl, rfl⟩; rw [HA.out])
          go_round
          case rel => exact ⟨j + 1, by omega, by go_num, by rw [HN.out]⟩
          case measure => simp [intOf]; omega
        · have HN := Lib.hid (show MM.withI (LL.dnI xs i j) (j : Int) = LL.dnI xs i (j + 1) by show _ = if _ then _ else _; rw [hab]; rfl)
          have HA := Lib.hid (show MM.hasB (xs[j]?.getD 0) (i : Int) = true from hab)
          clear hab hxj hd
          generalize xs[j]?.getD 0 = xj at hcj HA HXJ
          go_wp2_with (first | (go_at_call 32; refine (has_any _ _ _ HXJ.out.1 HXJ.out.2).mono ?_; rintro e w' ⟨rfl, rfl⟩; rw [HA.out]) | (go_at_call 36; refine (with_any _ _ _ HDB.out.1 HDB.out.2).mono ?_; rintro e w' ⟨rfl, rfl⟩))
          go_round
          case rel => exact ⟨j + 1, by omega, by go_num, by rw [HN.out]⟩
          case measure => simp [intOf]; omega
      · obtain rfl : j = xs.length := by omega
        go_wp2_with fail
        go_ret
        exact ⟨ret_int HD.out, rfl⟩

/-- what is told of a number that may be none (-1) -/
def nearE (k : Int) : Ending := .returned (.tuple #[.int .i64 (if 0 ≤ k then k else 0), .bool (decide (0 ≤ k))])
theorem nearE_yes (j : Nat) : Ending.returned (.tuple #[.int .i64 (j : Int), .bool true]) = nearE (j : Int) := by
  unfold nearE; rw [if_pos (by omega), decide_eq_true (by omega)]
theorem nearE_no : Ending.returned (.tuple #[.int .i64 0, .bool false]) = nearE (-1) := rfl
set_option maxHeartbeats 800000 in
theorem end_any (Bt Bu n n₀ : Nat) (xs : List Int) (t : Bool) (w : World) (h : Way n₀ w Bt Bu xs t) (hx : Wide xs) (ho : LL.ordB xs = true) (hn : n = xs.length) :
    Calls Tryd.prog 26 #[.int .i64 n, wayF Bt Bu] w fun e w' => e = nearE (LL.endI (beyL xs t)) ∧ w' = w := by
  subst hn
  have HW := Lib.hid h
  have HX := Lib.hid hx
  have HO := Lib.hid (bey_ord ho hx t)
  have HBx := Lib.hid (bey_wide hx t)
  have hl := (LL.ord_len ho).2
  have bb := LL.below_bd xs.length hl
  have HL := Lib.hid (bey_len xs t)
  clear h hx ho
  unfold wayF
  go_enter Tryd.func26, Tryd.ntmps26
  go_wp2_with (go_at_call 31; refine (below_any _ _ (by omega) (by omega)).mono ?_; rintro e w' ⟨rfl, rfl⟩)
  obtain ⟨B, hB⟩ : ∃ B, MM.belowI (xs.length : Int) = B := ⟨_, rfl⟩
  rw [hB]
  have HB := Lib.hid hB
  clear hB bb
  go_loop [11] (fun k => ∃ j : Nat, j ≤ xs.length ∧ k = .int .i64 (j : Int) ∧ RowKit.Hid (∀ i, i < j → LL.isEnd (beyL xs t) i = false)) (fun k => xs.length - (intOf k).toNat)
  case atStart => exact ⟨0, Nat.zero_le _, rfl, Lib.hid (fun i hi => absurd hi (Nat.not_lt_zero _))⟩
  case round =>
    obtain ⟨j, hj, rfl, HN⟩ := hrel
    by_cases hlt : j < xs.length
    · have HE := Lib.hid (show ((beyL xs t)[j]?.getD 0 == B) = LL.isEnd (beyL xs t) j by
        rw [← HB.out, ← HL.out]; exact LL.end_eq HO.out HBx.out (by rw [HL.out]; exact hlt))
      cases he : LL.isEnd (beyL xs t) j
      · have hE : ((beyL xs t)[j]?.getD 0 == B) = false := by rw [HE.out, he]
        have HS := Lib.hid (LL.none_step HN.out he)
        clear he HE
        generalize hbj : (beyL xs t)[j]?.getD 0 = y at hE
        have HBJ := Lib.hid hbj
        clear hbj
        go_wp2_with (go_at_call 35; refine (way1_any Bt Bu j n₀ xs t _ HW.out HX.out hl hlt).mono ?_; rintro e w' ⟨rfl, rfl⟩; rw [HBJ.out])
        go_round
        case rel => exact ⟨j + 1, by omega, by go_num, HS⟩
        case measure => simp [intOf]; omega
      · have hE : ((beyL xs t)[j]?.getD 0 == B) = true := by rw [HE.out, he]
        have HR := Lib.hid (show LL.endI (beyL xs t) = (j : Int) from LL.firstI_hit (by rw [HL.out]; exact hlt) he HN.out)
        clear he HE
        generalize hbj : (beyL xs t)[j]?.getD 0 = y at hE
        have HBJ := Lib.hid hbj
        clear hbj
        go_wp2_with (go_at_call 35; refine (way1_any Bt Bu j n₀ xs t _ HW.out HX.out hl hlt).mono ?_; rintro e w' ⟨rfl, rfl⟩; rw [HBJ.out])
        go_ret2
        exact ⟨by rw [HR.out]; exact nearE_yes j, rfl⟩
    · have HR := Lib.hid (show LL.endI (beyL xs t) = -1 from LL.firstI_none (fun i hi => HN.out i (by rw [HL.out] at hi; omega)))
      go_wp2_with fail
      go_ret2
      exact ⟨by rw [HR.out]; exact nearE_no, rfl⟩
end Go.Proofs.YtkoofibhddkpiaaDoor
