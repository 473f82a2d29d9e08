import Derived.Test.YtgfjdnmnjabbbaaDoorPlatN
import Derived.Test.YtgfjdnmnjabbbaaDoorLatAll
set_option linter.unusedSimpArgs false
set_option linter.unusedVariables false
/-! plain: what stands above a set; the height by rounds; what stands right above -/
namespace Go.Proofs.YtgfjdnmnjabbbaaDoor.LL

/-- what stands above one of l, and is not that one -/
def aboveF (xs : List Int) (l : List Nat) : Int := l.foldl (fun m (i : Nat) => bits .or .u64 m (MM.withoutI (xs[i]?.getD 0) (i : Int))) 0
theorem aboveF_snoc (xs : List Int) (l : List Nat) (i : Nat) : aboveF xs (l ++ [i]) = bits .or .u64 (aboveF xs l) (MM.withoutI (xs[i]?.getD 0) (i : Int)) := by
  unfold aboveF; rw [List.foldl_append]; rfl
theorem aboveF_all {xs : List Int} (hw : Wide xs) (l : List Nat) (hl : ∀ i ∈ l, i < 64) :
    (0 ≤ aboveF xs l ∧ aboveF xs l ≤ 18446744073709551615) ∧ ∀ k : Nat, MM.hasB (aboveF xs l) (k : Int) = l.any fun i => st xs i k := by
  have key : ∀ (l : List Nat) (m : Int), (∀ i ∈ l, i < 64) → 0 ≤ m ∧ m ≤ 18446744073709551615 →
      (0 ≤ l.foldl (fun m (i : Nat) => bits .or .u64 m (MM.withoutI (xs[i]?.getD 0) (i : Int))) m ∧ l.foldl (fun m (i : Nat) => bits .or .u64 m (MM.withoutI (xs[i]?.getD 0) (i : Int))) m ≤ 18446744073709551615) ∧
      ∀ k : Nat, MM.hasB (l.foldl (fun m (i : Nat) => bits .or .u64 m (MM.withoutI (xs[i]?.getD 0) (i : Int))) m) (k : Int) = (MM.hasB m (k : Int) || l.any fun i => st xs i k) := by
    intro l
    induction l with
    | nil => intro m _ hm; exact ⟨hm, fun k => by simp⟩
    | cons i l ih =>
      intro m hl hm
      have hi := hl i (by simp)
      have hb := MM.withoutI_bd (xs[i]?.getD 0) (i : Int) (hw.at i).1 (hw.at i).2
      have ho := or_bd5 m _ hm.1 hm.2 hb.1 hb.2
      obtain ⟨h1, h2⟩ := ih _ (fun j hj => hl j (by simp [hj])) ho
      refine ⟨h1, fun k => ?_⟩
      have := h2 k
      rw [List.foldl_cons, this, or_has _ _ k hm.1 hm.2 hb.1 hb.2, has_withoutI _ _ _ hi, List.any_cons, Bool.or_assoc]
      congr 2
      unfold st
      show (ab xs i k && !decide (i = k)) = (i != k && ab xs i k)
      by_cases e : i = k
      · subst e; simp
      · simp [e]
  obtain ⟨h1, h2⟩ := key l 0 hl (by omega)
  refine ⟨h1, fun k => ?_⟩
  have := h2 k
  rw [has_zero, Bool.false_or] at this
  exact this
theorem bits_lt' (m : Int) : ∀ i ∈ MM.bitsOf m, i < 64 := fun i hi => MM.bits_lt m i hi
theorem above_set {xs : List Int} (hw : Wide xs) (m : Int) (k : Nat) : MM.hasB (aboveF xs (MM.bitsOf m)) (k : Int) = true ↔ ∃ i : Nat, MM.hasB m (i : Int) = true ∧ st xs i k = true := by
  rw [(aboveF_all hw _ (bits_lt' m)).2 k, List.any_eq_true]
  constructor
  · rintro ⟨i, hi, h⟩; exact ⟨i, mem_bits.1 hi, h⟩
  · rintro ⟨i, hi, h⟩; exact ⟨i, mem_bits.2 hi, h⟩
theorem above_bd {xs : List Int} (hw : Wide xs) (m : Int) : 0 ≤ aboveF xs (MM.bitsOf m) ∧ aboveF xs (MM.bitsOf m) ≤ 18446744073709551615 := (aboveF_all hw _ (bits_lt' m)).1

/-- the levels above a chain of r steps -/
def lev (xs : List Int) : Nat → Int
  | 0 => MM.belowI xs.length
  | r + 1 => aboveF xs (MM.bitsOf (lev xs r))
theorem lev_bd {xs : List Int} (hw : Wide xs) (hl : xs.length ≤ 64) (r : Nat) : 0 ≤ lev xs r ∧ lev xs r ≤ 18446744073709551615 := by
  cases r with
  | zero => exact below_bd xs.length hl
  | succ r => exact above_bd hw _
def Chain (xs : List Int) : Nat → Nat → Nat → Prop
  | 0, a, b => a = b
  | r + 1, a, b => ∃ m, Chain xs r a m ∧ st xs m b = true
theorem chain_lt {xs : List Int} (h : ordB xs = true) : ∀ r a b, a < xs.length → Chain xs r a b → b < xs.length := by
  intro r
  induction r with
  | zero => rintro a b ha rfl; exact ha
  | succ r ih =>
    rintro a b ha ⟨m, hm, hs⟩
    unfold st at hs
    rw [Bool.and_eq_true] at hs
    exact (ord_at h (ih a m ha hm) hs.2).1
theorem lev_iff {xs : List Int} (h : ordB xs = true) (hw : Wide xs) : ∀ r (k : Nat), MM.hasB (lev xs r) (k : Int) = true ↔ ∃ a, a < xs.length ∧ Chain xs r a k := by
  intro r
  induction r with
  | zero =>
    intro k
    show MM.hasB (MM.belowI xs.length) (k : Int) = true ↔ _
    rw [has_below _ _ (ord_len h).2, decide_eq_true_eq]
    exact ⟨fun hk => ⟨k, hk, rfl⟩, fun ⟨a, ha, e⟩ => by have : a = k := e; omega⟩
  | succ r ih =>
    intro k
    show MM.hasB (aboveF xs (MM.bitsOf (lev xs r))) (k : Int) = true ↔ _
    rw [above_set hw]
    constructor
    · rintro ⟨i, hi, hs⟩
      obtain ⟨a, ha, hc⟩ := (ih i).1 hi
      exact ⟨a, ha, i, hc, hs⟩
    · rintro ⟨a, ha, i, hc, hs⟩
      exact ⟨i, (ih i).2 ⟨a, ha, hc⟩, hs⟩
theorem chain_long {xs : List Int} (h : ordB xs = true) (hw : Wide xs) : ∀ r a b, a < xs.length → Chain xs r a b → r + longL xs b ≤ longL xs a := by
  intro r
  induction r with
  | zero => rintro a b _ rfl; omega
  | succ r ih =>
    rintro a b ha ⟨m, hm, hs⟩
    have h1 := ih a m ha hm
    have h2 := long_le h hw (chain_lt h r a m ha hm) hs
    omega
theorem long_chain {xs : List Int} (h : ordB xs = true) (hw : Wide xs) (a : Nat) (ha : a < xs.length) : ∀ r, r ≤ longL xs a → ∃ b, b < xs.length ∧ Chain xs r a b ∧ longL xs b + r = longL xs a := by
  intro r
  induction r with
  | zero => intro _; exact ⟨a, ha, rfl, rfl⟩
  | succ r ih =>
    intro hr
    obtain ⟨b, hb, hc, e⟩ := ih (by omega)
    rcases long_hit h hw hb with h0 | ⟨c, hcl, hs, e2⟩
    · omega
    · exact ⟨c, hcl, ⟨b, hc, hs⟩, by omega⟩
theorem lev_some {xs : List Int} (h : ordB xs = true) (hw : Wide xs) {r : Nat} (hne : lev xs r ≠ 0) : r ≤ heightN xs := by
  have hb := lev_bd hw (ord_len h).2 r
  have : ∃ k : Nat, MM.hasB (lev xs r) (k : Int) = true := by
    apply Classical.byContradiction
    intro hn
    refine hne (mask_ext _ _ hb.1 hb.2 (by omega) (by omega) fun k => ?_)
    rw [has_zero]
    cases e : MM.hasB (lev xs r) (k : Int)
    · rfl
    · exact absurd ⟨k, e⟩ hn
  obtain ⟨k, hk⟩ := this
  obtain ⟨a, ha, hc⟩ := (lev_iff h hw r k).1 hk
  have h1 := chain_long h hw r a k ha hc
  have h2 : longL xs a ≤ heightN xs := maxUp_le ha
  omega
theorem lev_none {xs : List Int} (h : ordB xs = true) (hw : Wide xs) {r : Nat} (he : lev xs r = 0) : heightN xs < r := by
  have hl := (ord_len h).1
  apply Classical.byContradiction
  intro hn
  have : ∃ a, a < xs.length ∧ r ≤ longL xs a := by
    rcases maxUp_hit (longL xs) xs.length with e | ⟨k, hk, e⟩
    · refine ⟨0, by omega, ?_⟩
      have : heightN xs = 0 := e
      omega
    · refine ⟨k, hk, ?_⟩
      have : heightN xs = longL xs k := e
      omega
  obtain ⟨a, ha, hr⟩ := this
  obtain ⟨b, _, hc, _⟩ := long_chain h hw a ha r hr
  have := (lev_iff h hw r b).2 ⟨a, ha, hc⟩
  rw [he, has_zero] at this
  cases this

/-- what stands right above a -/
def upI (xs : List Int) (a : Nat) : Int := MM.withoutI (xs[a]?.getD 0) (a : Int)
def coverI (xs : List Int) (a : Nat) : Int := bits .andNot .u64 (upI xs a) (aboveF xs (MM.bitsOf (upI xs a)))
theorem up_bd {xs : List Int} (hw : Wide xs) (a : Nat) : 0 ≤ upI xs a ∧ upI xs a ≤ 18446744073709551615 := MM.withoutI_bd _ _ (hw.at a).1 (hw.at a).2
theorem cover_bd {xs : List Int} (hw : Wide xs) (a : Nat) : 0 ≤ coverI xs a ∧ coverI xs a ≤ 18446744073709551615 := by
  have h1 := up_bd hw a
  have h2 := above_bd hw (upI xs a)
  exact andNot_bd _ _ h1.1 h1.2 h2.1 h2.2
theorem up_has {xs : List Int} {a : Nat} (ha : a < 64) (k : Nat) : MM.hasB (upI xs a) (k : Int) = st xs a k := by
  unfold upI st
  rw [has_withoutI _ _ _ ha]
  show (ab xs a k && !decide (a = k)) = (a != k && ab xs a k)
  by_cases e : a = k
  · subst e; simp
  · simp [e]
theorem cover_has {xs : List Int} (h : ordB xs = true) (hw : Wide xs) {a : Nat} (ha : a < xs.length) (b : Nat) : MM.hasB (coverI xs a) (b : Int) = (decide (b < xs.length) && isCover xs a b) := by
  have hl := (ord_len h).2
  have h1 := up_bd hw a
  have h2 := above_bd hw (upI xs a)
  have hlt : ∀ k, st xs a k = true → k < xs.length := by
    intro k hk
    unfold st at hk
    rw [Bool.and_eq_true] at hk
    exact (ord_at h ha hk.2).1
  unfold coverI
  rw [andNot_has _ _ b h1.1 h1.2 h2.1 h2.2, up_has (by omega)]
  unfold isCover
  show (st xs a b && !MM.hasB (aboveF xs (MM.bitsOf (upI xs a))) (b : Int)) = (decide (b < xs.length) && (st xs a b && (List.range xs.length).all (coverAt xs a b)))
  cases e : st xs a b
  · simp
  · rw [decide_eq_true (hlt b e), Bool.true_and, Bool.true_and, Bool.true_and, Bool.eq_iff_iff, Bool.not_eq_true', List.all_eq_true]
    constructor
    · intro hn m _
      unfold coverAt
      by_cases e1 : m = a
      · simp [e1]
      · by_cases e2 : m = b
        · simp [e2]
        · cases e3 : ab xs a m
          · simp
          · cases e4 : ab xs m b
            · simp
            · have : MM.hasB (aboveF xs (MM.bitsOf (upI xs a))) (b : Int) = true := by
                rw [above_set hw]
                refine ⟨m, ?_, ?_⟩
                · rw [up_has (by omega)]; unfold st; rw [e3]; simp; exact fun h => e1 h.symm
                · unfold st; rw [e4]; simp; exact e2
              rw [hn] at this; cases this
    · intro ha2
      rw [Bool.eq_false_iff]
      intro hh
      rw [above_set hw] at hh
      obtain ⟨m, h3, h4⟩ := hh
      rw [up_has (by omega)] at h3
      have := ha2 m (List.mem_range.2 (hlt m h3))
      unfold coverAt at this
      unfold st at h3 h4
      rw [Bool.and_eq_true, bne_iff_ne] at h3 h4
      rw [h3.2, h4.2, beq_eq_false_iff_ne.2 (fun e => h3.1 e.symm), beq_eq_false_iff_ne.2 h4.1] at this
      cases this
theorem cover_bits {xs : List Int} (h : ordB xs = true) (hw : Wide xs) {a : Nat} (ha : a < xs.length) : (MM.bitsOf (coverI xs a)).map (fun b => (a, b)) = rowUp xs a xs.length := by
  have hl := (ord_len h).2
  unfold rowUp MM.bitsOf MM.upto
  congr 1
  obtain ⟨d, hd⟩ : ∃ d, 64 = xs.length + d := ⟨64 - xs.length, by omega⟩
  rw [hd, List.range_add, List.filter_append]
  have e2 : (List.map (fun x => xs.length + x) (List.range d)).filter (fun i : Nat => MM.hasB (coverI xs a) (i : Int)) = [] := by
    rw [List.filter_eq_nil_iff]
    intro i hi
    obtain ⟨j, _, rfl⟩ := List.mem_map.1 hi
    rw [cover_has h hw ha, decide_eq_false (by omega), Bool.false_and]
    simp
  rw [e2, List.append_nil]
  apply List.filter_congr
  intro b hb
  rw [cover_has h hw ha, decide_eq_true (List.mem_range.1 hb), Bool.true_and]
end Go.Proofs.YtgfjdnmnjabbbaaDoor.LL
