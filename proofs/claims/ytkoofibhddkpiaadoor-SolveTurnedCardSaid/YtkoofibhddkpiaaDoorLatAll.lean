import Derived.Test.YtkoofibhddkpiaaDoorMaskG
import Derived.Deep.QuietTactic
import Derived.BigQuiet
import Derived.Deep.OwnRows
import Derived.Deep.LoopGhost
import Derived.StillTailTactics
set_option linter.unusedSimpArgs false
set_option linter.unusedVariables false
/-! plain: orders told by masks -/
namespace Go.Proofs.YtkoofibhddkpiaaDoor.LL

/-- does k stand at or above i? -/
def ab (xs : List Int) (i k : Nat) : Bool := MM.hasB (xs[i]?.getD 0) (k : Int)
/-- what stands above what stands above i stands above i; nothing stands above beyond the last; no two stand each above the other -/
def ordAt (xs : List Int) (i k : Nat) : Bool :=
  !ab xs i k || (decide (k < xs.length) && ((k == i || !ab xs k i) && (bits .or .u64 (xs[k]?.getD 0) (xs[i]?.getD 0) == xs[i]?.getD 0)))
def ordRow (xs : List Int) (i : Nat) : Bool := ab xs i i && (List.range 64).all (ordAt xs i)
/-- may an order be? -/
def ordB (xs : List Int) : Bool := decide (1 ≤ xs.length ∧ xs.length ≤ 64) && (List.range xs.length).all (ordRow xs)

def joinAt (xs : List Int) (a b k m : Nat) : Bool := !ab xs a m || (!ab xs b m || ab xs k m)
def isJoin (xs : List Int) (a b k : Nat) : Bool := ab xs a k && (ab xs b k && (List.range xs.length).all (joinAt xs a b k))
def meetAt (xs : List Int) (a b k m : Nat) : Bool := !ab xs m a || (!ab xs m b || ab xs m k)
def isMeet (xs : List Int) (a b k : Nat) : Bool := ab xs k a && (ab xs k b && (List.range xs.length).all (meetAt xs a b k))
def isEnd (xs : List Int) (k : Nat) : Bool := (List.range xs.length).all (fun m => ab xs k m)
def isFar (xs : List Int) (k : Nat) : Bool := (List.range xs.length).all (fun m => ab xs m k)
/-- the first below n; -1: there is none -/
def firstI (n : Nat) (p : Nat → Bool) : Int := match (List.range n).find? p with | some k => (k : Int) | none => -1
def joinI (xs : List Int) (a b : Nat) : Int := firstI xs.length (isJoin xs a b)
def meetI (xs : List Int) (a b : Nat) : Int := firstI xs.length (isMeet xs a b)
def endI (xs : List Int) : Int := firstI xs.length (isEnd xs)
def farI (xs : List Int) : Int := firstI xs.length (isFar xs)
def pairB (xs : List Int) (a b : Nat) : Bool := decide (0 ≤ joinI xs a b) && decide (0 ≤ meetI xs a b)
def rightB (xs : List Int) : Bool := ordB xs && (List.range xs.length).all (fun a => (List.range a).all (pairB xs a))

theorem all_no {n : Nat} {p : Nat → Bool} {i : Nat} (hi : i < n) (h : p i = false) : (List.range n).all p = false := by
  rw [Bool.eq_false_iff]
  intro ha
  rw [List.all_eq_true] at ha
  rw [ha i (List.mem_range.2 hi)] at h
  cases h
theorem all_yes {n : Nat} {p : Nat → Bool} (h : ∀ j, j < n → p j = true) : (List.range n).all p = true :=
  List.all_eq_true.2 fun j hj => h j (List.mem_range.1 hj)
theorem firstI_hit {n : Nat} {p : Nat → Bool} {k : Nat} (hk : k < n) (hp : p k = true) (hno : ∀ j, j < k → p j = false) : firstI n p = (k : Int) := by
  have e : (List.range n).find? p = some k := by
    rw [List.find?_eq_some_iff_append]
    refine ⟨hp, List.range k, (List.range' (k + 1) (n - k - 1)), ?_, fun j hj => by rw [hno j (List.mem_range.1 hj)]; rfl⟩
    rw [List.range_eq_range', List.range_eq_range', show n = k + (n - k - 1 + 1) by omega, ← List.range'_append_1, List.range'_succ]
    simp
  unfold firstI; rw [e]
theorem firstI_none {n : Nat} {p : Nat → Bool} (hno : ∀ j, j < n → p j = false) : firstI n p = -1 := by
  have e : (List.range n).find? p = none := by
    rw [List.find?_eq_none]
    intro j hj h
    rw [hno j (List.mem_range.1 hj)] at h
    cases h
  unfold firstI; rw [e]
theorem firstI_bd (n : Nat) (p : Nat → Bool) : -1 ≤ firstI n p ∧ firstI n p < n := by
  unfold firstI
  split
  · rename_i k h
    have := List.mem_range.1 (List.mem_of_find?_eq_some h)
    omega
  · omega
theorem firstI_at {n : Nat} {p : Nat → Bool} (h : 0 ≤ firstI n p) : ∃ k : Nat, firstI n p = (k : Int) ∧ k < n ∧ p k = true := by
  unfold firstI at *
  split at h
  · rename_i k e
    exact ⟨k, rfl, List.mem_range.1 (List.mem_of_find?_eq_some e), by simpa using List.find?_some e⟩
  · omega
theorem all_step {n : Nat} {p : Nat → Bool} (h : ∀ j, j < n → p j = true) (hn : p n = true) : ∀ j, j < n + 1 → p j = true := by
  intro j hj
  by_cases e : j = n
  · subst e; exact hn
  · exact h j (by omega)
theorem none_step {n : Nat} {p : Nat → Bool} (h : ∀ j, j < n → p j = false) (hn : p n = false) : ∀ j, j < n + 1 → p j = false := by
  intro j hj
  by_cases e : j = n
  · subst e; exact hn
  · exact h j (by omega)
end Go.Proofs.YtkoofibhddkpiaaDoor.LL

/-! the walks of layer 5's reference: Above -/
namespace Go.Proofs.YtkoofibhddkpiaaDoor
open Go.RowKit

/-- masks: numbers of 64 bits -/
def Wide (xs : List Int) : Prop := ∀ x ∈ xs, 0 ≤ x ∧ x ≤ 18446744073709551615
theorem Wide.at {xs : List Int} (h : Wide xs) (i : Nat) : 0 ≤ xs[i]?.getD 0 ∧ xs[i]?.getD 0 ≤ 18446744073709551615 := by
  cases e : xs[i]? with
  | none => simp
  | some x => exact h x (List.mem_of_getElem? e)

end Go.Proofs.YtkoofibhddkpiaaDoor

/-! the walks of layer 5's reference: Join, Meet -/
namespace Go.Proofs.YtkoofibhddkpiaaDoor
open Go.RowKit

end Go.Proofs.YtkoofibhddkpiaaDoor

/-! the walks of layer 5's reference: End, Far, Order, Right -/
namespace Go.Proofs.YtkoofibhddkpiaaDoor
open Go.RowKit
end Go.Proofs.YtkoofibhddkpiaaDoor

/-! the walks of layer 5's reference: Right, Same -/
namespace Go.Proofs.YtkoofibhddkpiaaDoor
open Go.RowKit

theorem take_snoc_num (l : List Int) (k : Nat) (h : k < l.length) : l.take (k + 1) = l.take k ++ [l[k]?.getD 0] := by
  rw [List.take_succ_eq_append_getElem h, List.getElem?_eq_getElem h]; rfl
end Go.Proofs.YtkoofibhddkpiaaDoor

/-! plain: the least order in which pairs stand above one another -/
namespace Go.Proofs.YtkoofibhddkpiaaDoor.LL

/-- b stands above a by some pairs, one behind the other -/
inductive Reach (ps : List (Nat × Nat)) (i : Nat) : Nat → Prop where
  | refl : Reach ps i i
  | tail {k m : Nat} (h : Reach ps i k) (hp : (k, m) ∈ ps) : Reach ps i m
theorem Reach.trans {ps : List (Nat × Nat)} {i k m : Nat} (h : Reach ps i k) (g : Reach ps k m) : Reach ps i m := by
  induction g with
  | refl => exact h
  | tail _ hp ih => exact ih.tail hp
theorem Reach.one {ps : List (Nat × Nat)} {k m : Nat} (hp : (k, m) ∈ ps) : Reach ps k m := Reach.refl.tail hp

theorem or_nat (x y : Int) (x0 : 0 ≤ x) (x1 : x ≤ 18446744073709551615) (y0 : 0 ≤ y) (y1 : y ≤ 18446744073709551615) : bits .or .u64 x y = ((x.toNat ||| y.toNat : Nat) : Int) := by
  obtain ⟨a, rfl⟩ : ∃ a : Nat, x = a := ⟨x.toNat, by omega⟩
  obtain ⟨b, rfl⟩ : ∃ b : Nat, y = b := ⟨y.toNat, by omega⟩
  rw [u64_or_nat _ _ (by omega) (by omega)]
  simp
theorem or_has (x y : Int) (k : Nat) (x0 : 0 ≤ x) (x1 : x ≤ 18446744073709551615) (y0 : 0 ≤ y) (y1 : y ≤ 18446744073709551615) : MM.hasB (bits .or .u64 x y) k = (MM.hasB x k || MM.hasB y k) := by
  rw [or_nat x y x0 x1 y0 y1]
  unfold MM.hasB
  rw [Int.toNat_natCast, Nat.testBit_or]
  cases decide (0 ≤ (k : Int) ∧ (k : Int) < 64) <;> simp
theorem or_bd5 (x y : Int) (x0 : 0 ≤ x) (x1 : x ≤ 18446744073709551615) (y0 : 0 ≤ y) (y1 : y ≤ 18446744073709551615) : 0 ≤ bits .or .u64 x y ∧ bits .or .u64 x y ≤ 18446744073709551615 := by
  rw [or_nat x y x0 x1 y0 y1]
  have : x.toNat ||| y.toNat < 2 ^ 64 := Nat.or_lt_two_pow (by omega) (by omega)
  omega
theorem or_ge (x y : Int) (x0 : 0 ≤ x) (x1 : x ≤ 18446744073709551615) (y0 : 0 ≤ y) (y1 : y ≤ 18446744073709551615) : x ≤ bits .or .u64 x y := by
  rw [or_nat x y x0 x1 y0 y1]
  have : x.toNat ≤ x.toNat ||| y.toNat := Nat.left_le_or
  omega
theorem mask_ext (x y : Int) (x0 : 0 ≤ x) (x1 : x ≤ 18446744073709551615) (y0 : 0 ≤ y) (y1 : y ≤ 18446744073709551615) (h : ∀ k : Nat, MM.hasB x k = MM.hasB y k) : x = y := by
  have e : x.toNat = y.toNat := by
    apply Nat.eq_of_testBit_eq
    intro j
    by_cases hj : j < 64
    · have := h j
      unfold MM.hasB at this
      rw [decide_eq_true (show 0 ≤ (j : Int) ∧ (j : Int) < 64 by omega), Bool.true_and, Bool.true_and, Int.toNat_natCast] at this
      exact this
    · have hp : (2 : Nat) ^ 64 ≤ 2 ^ j := Nat.pow_le_pow_right (by decide) (by omega)
      have h64 : (2 : Nat) ^ 64 = 18446744073709551616 := by decide
      rw [Nat.testBit_lt_two_pow (Nat.lt_of_lt_of_le (show x.toNat < 2 ^ 64 by omega) hp), Nat.testBit_lt_two_pow (Nat.lt_of_lt_of_le (show y.toNat < 2 ^ 64 by omega) hp)]
  omega

/-- masks that tell of nothing but what pairs lead to -/
def Inv (n : Nat) (ps : List (Nat × Nat)) (S : List Int) : Prop := S.length = n ∧ Wide S ∧ ∀ i k, i < n → ab S i k = true → k < n ∧ Reach ps i k
/-- .. of each level itself, and of the pairs -/
def Comp (n : Nat) (ps : List (Nat × Nat)) (S : List Int) : Prop := (∀ i, i < n → ab S i i = true) ∧ ∀ p ∈ ps, ab S p.1 p.2 = true
def closedAt (S : List Int) (i k : Nat) : Bool := !ab S i k || (bits .or .u64 (S[i]?.getD 0) (S[k]?.getD 0) == S[i]?.getD 0)
def Closed (n : Nat) (S : List Int) : Prop := ∀ i, i < n → ∀ k, k < n → closedAt S i k = true
/-- the least order with the pairs -/
def IsClose (n : Nat) (ps : List (Nat × Nat)) (S : List Int) : Prop := S.length = n ∧ Wide S ∧ ∀ i k, i < n → (ab S i k = true ↔ Reach ps i k)
theorem close_one {n : Nat} {ps : List (Nat × Nat)} {S T : List Int} (h : IsClose n ps S) (g : IsClose n ps T) : S = T := by
  apply List.ext_getElem?
  intro i
  by_cases hi : i < n
  · have e : S[i]?.getD 0 = T[i]?.getD 0 := by
      refine mask_ext _ _ (h.2.1.at i).1 (h.2.1.at i).2 (g.2.1.at i).1 (g.2.1.at i).2 fun k => ?_
      have := (h.2.2 i k hi).trans (g.2.2 i k hi).symm
      unfold ab at this
      rw [Bool.eq_iff_iff]; exact this
    rw [List.getElem?_eq_getElem (by rw [h.1]; exact hi), List.getElem?_eq_getElem (by rw [g.1]; exact hi)] at e ⊢
    simpa using e
  · rw [List.getElem?_eq_none (by rw [h.1]; omega), List.getElem?_eq_none (by rw [g.1]; omega)]
theorem close_of {n : Nat} {ps : List (Nat × Nat)} {S : List Int} (h : Inv n ps S) (hc : Comp n ps S) (hd : Closed n S) : IsClose n ps S := by
  refine ⟨h.1, h.2.1, fun i k hi => ⟨fun e => (h.2.2 i k hi e).2, fun r => ?_⟩⟩
  induction r with
  | refl => exact hc.1 i hi
  | tail r hp ih =>
    rename_i k m
    have hk := (h.2.2 i k hi ih).1
    have h1 := hc.2 _ hp
    have h2 := hd i hi k hk
    unfold closedAt at h2
    rw [ih] at h2
    have h3 : bits .or .u64 (S[i]?.getD 0) (S[k]?.getD 0) = S[i]?.getD 0 := by simpa using h2
    have h4 := or_has (S[i]?.getD 0) (S[k]?.getD 0) m (h.2.1.at i).1 (h.2.1.at i).2 (h.2.1.at k).1 (h.2.1.at k).2
    rw [h3] at h4
    unfold ab at h1 ⊢
    rw [h4]
    simp only at h1
    rw [h1, Bool.or_true]

/-- how far masks are from being full -/
def far : List Int → Nat
  | [] => 0
  | x :: l => (18446744073709551615 - x).toNat + far l
theorem far_set (S : List Int) (i : Nat) (y : Int) (hi : i < S.length) (h : S[i]?.getD 0 < y) (hy : y ≤ 18446744073709551615) : far (S.set i y) < far S := by
  induction S generalizing i with
  | nil => simp at hi
  | cons x l ih =>
    cases i with
    | zero => simp [far] at h ⊢; omega
    | succ i =>
      have := ih i (by simpa using hi) (by simpa using h)
      simp [far]; omega
theorem get_set (S : List Int) (i j : Nat) (y : Int) (hi : i < S.length) : (S.set i y)[j]?.getD 0 = if j = i then y else S[j]?.getD 0 := by
  rw [List.getElem?_set]
  by_cases e : j = i
  · subst e; simp [hi]
  · rw [if_neg (fun h => e h.symm), if_neg e]
theorem wide_set {S : List Int} (h : Wide S) (i : Nat) (y : Int) (y0 : 0 ≤ y) (y1 : y ≤ 18446744073709551615) : Wide (S.set i y) := by
  intro x hx
  rcases List.mem_or_eq_of_mem_set hx with h' | rfl
  · exact h x h'
  · exact ⟨y0, y1⟩
/-- what a mask takes over from one that stands above it -/
theorem inv_or {n : Nat} {ps : List (Nat × Nat)} {S : List Int} (h : Inv n ps S) {i k : Nat} (hi : i < n) (hk : ab S i k = true) :
    Inv n ps (S.set i (bits .or .u64 (S[i]?.getD 0) (S[k]?.getD 0))) := by
  have bi := h.2.1.at i
  have bk := h.2.1.at k
  have bo := or_bd5 _ _ bi.1 bi.2 bk.1 bk.2
  refine ⟨by rw [List.length_set]; exact h.1, wide_set h.2.1 i _ bo.1 bo.2, fun j m hj e => ?_⟩
  unfold ab at e
  rw [get_set _ _ _ _ (by rw [h.1]; exact hi)] at e
  by_cases hji : j = i
  · subst hji
    rw [if_pos rfl, or_has _ _ m bi.1 bi.2 bk.1 bk.2, Bool.or_eq_true] at e
    rcases e with e | e
    · exact h.2.2 j m hj e
    · have hk' := h.2.2 j k hj hk
      have hm := h.2.2 k m hk'.1 e
      exact ⟨hm.1, hk'.2.trans hm.2⟩
  · rw [if_neg hji] at e
    exact h.2.2 j m hj e
theorem ab_or {S : List Int} (hw : Wide S) {i k : Nat} (hi : i < S.length) {j m : Nat} (e : ab S j m = true) : ab (S.set i (bits .or .u64 (S[i]?.getD 0) (S[k]?.getD 0))) j m = true := by
  unfold ab at *
  rw [get_set _ _ _ _ hi]
  by_cases hji : j = i
  · subst hji
    rw [if_pos rfl, or_has _ _ m (hw.at j).1 (hw.at j).2 (hw.at k).1 (hw.at k).2, e, Bool.true_or]
  · rw [if_neg hji]; exact e
theorem comp_or {n : Nat} {ps : List (Nat × Nat)} {S : List Int} (h : Inv n ps S) (hc : Comp n ps S) {i k : Nat} (hi : i < n) :
    Comp n ps (S.set i (bits .or .u64 (S[i]?.getD 0) (S[k]?.getD 0))) :=
  ⟨fun j hj => ab_or h.2.1 (by rw [h.1]; exact hi) (hc.1 j hj), fun p hp => ab_or h.2.1 (by rw [h.1]; exact hi) (hc.2 p hp)⟩
theorem all_row {n k : Nat} {f : Nat → Nat → Bool} (h : ∀ i, i < k → ∀ j, j < n → f i j = true) (hk : ∀ j, j < n → f k j = true) : ∀ i, i < k + 1 → ∀ j, j < n → f i j = true := by
  intro i hi j hj
  by_cases e : i = k
  · subst e; exact hk j hj
  · exact h i (by omega) j hj
/-- one look more that finds nothing to do -/
theorem next_closed {n : Nat} {ps : List (Nat × Nat)} {S Sr : List Int} {t : Bool} {k q : Nat}
    (h : Inv n ps S ∧ Comp n ps S ∧ ((t = false ∧ S = Sr ∧ (∀ i', i' < k → ∀ j, j < n → closedAt Sr i' j = true) ∧ ∀ j, j < q → closedAt Sr k j = true) ∨ (t = true ∧ far S < far Sr)))
    (hc : closedAt S k q = true) :
    Inv n ps S ∧ Comp n ps S ∧ ((t = false ∧ S = Sr ∧ (∀ i', i' < k → ∀ j, j < n → closedAt Sr i' j = true) ∧ ∀ j, j < q + 1 → closedAt Sr k j = true) ∨ (t = true ∧ far S < far Sr)) := by
  obtain ⟨h1, h2, ⟨h3, h4, h5, h6⟩ | h3⟩ := h
  · refine ⟨h1, h2, .inl ⟨h3, h4, h5, ?_⟩⟩
    rw [h4] at hc
    exact all_step h6 hc
  · exact ⟨h1, h2, .inr h3⟩
/-- one that takes over -/
theorem next_or {n : Nat} {ps : List (Nat × Nat)} {S Sr : List Int} {t : Bool} {k q : Nat} (hk : k < n)
    (h : Inv n ps S ∧ Comp n ps S ∧ ((t = false ∧ S = Sr ∧ (∀ i', i' < k → ∀ j, j < n → closedAt Sr i' j = true) ∧ ∀ j, j < q → closedAt Sr k j = true) ∨ (t = true ∧ far S < far Sr)))
    (hab : ab S k q = true) (hne : (bits .or .u64 (S[k]?.getD 0) (S[q]?.getD 0) == S[k]?.getD 0) = false) :
    Inv n ps (S.set k (bits .or .u64 (S[k]?.getD 0) (S[q]?.getD 0))) ∧ Comp n ps (S.set k (bits .or .u64 (S[k]?.getD 0) (S[q]?.getD 0))) ∧ far (S.set k (bits .or .u64 (S[k]?.getD 0) (S[q]?.getD 0))) < far Sr := by
  obtain ⟨h1, h2, h3⟩ := h
  refine ⟨inv_or h1 hk hab, comp_or h1 h2 hk, ?_⟩
  have bk := h1.2.1.at k
  have bq := h1.2.1.at q
  have hge := or_ge _ _ bk.1 bk.2 bq.1 bq.2
  have hbd := or_bd5 _ _ bk.1 bk.2 bq.1 bq.2
  rw [beq_eq_false_iff_ne] at hne
  have hlt := far_set S k (bits .or .u64 (S[k]?.getD 0) (S[q]?.getD 0)) (by rw [h1.1]; exact hk) (by omega) hbd.2
  rcases h3 with ⟨_, rfl, _⟩ | ⟨_, h4⟩
  · exact hlt
  · omega
end Go.Proofs.YtkoofibhddkpiaaDoor.LL

/-! plain: how long the chains of an order are -/
namespace Go.Proofs.YtkoofibhddkpiaaDoor.LL

/-- b stands above a, and is another level -/
def st (xs : List Int) (a b : Nat) : Bool := a != b && ab xs a b
def maxUp (f : Nat → Nat) : Nat → Nat
  | 0 => 0
  | k + 1 => max (maxUp f k) (f k)
theorem maxUp_le {f : Nat → Nat} {n k : Nat} (h : k < n) : f k ≤ maxUp f n := by
  induction n with
  | zero => omega
  | succ n ih =>
    by_cases e : k = n
    · subst e; exact Nat.le_max_right _ _
    · exact Nat.le_trans (ih (by omega)) (Nat.le_max_left _ _)
theorem maxUp_hit (f : Nat → Nat) (n : Nat) : maxUp f n = 0 ∨ ∃ k, k < n ∧ maxUp f n = f k := by
  induction n with
  | zero => exact .inl rfl
  | succ n ih =>
    show max (maxUp f n) (f n) = 0 ∨ ∃ k, k < n + 1 ∧ max (maxUp f n) (f n) = f k
    by_cases h : maxUp f n ≤ f n
    · exact .inr ⟨n, by omega, Nat.max_eq_right h⟩
    · rw [Nat.max_eq_left (by omega)]
      rcases ih with h0 | ⟨k, hk, e⟩
      · exact .inl h0
      · exact .inr ⟨k, by omega, e⟩
theorem maxUp_congr {f g : Nat → Nat} {n : Nat} (h : ∀ k, k < n → f k = g k) : maxUp f n = maxUp g n := by
  induction n with
  | zero => rfl
  | succ n ih => show max (maxUp f n) (f n) = max (maxUp g n) (g n); rw [ih (fun k hk => h k (by omega)), h n (by omega)]
/-- the longest chain from a on, of f steps at most -/
def dep (xs : List Int) : Nat → Nat → Nat
  | 0, _ => 0
  | f + 1, a => maxUp (fun b => if st xs a b = true then dep xs f b + 1 else 0) xs.length
def longL (xs : List Int) (a : Nat) : Nat := dep xs xs.length a
/-- how many levels the longest chain has, less one -/
def heightN (xs : List Int) : Nat := maxUp (longL xs) xs.length
def cnt (xs : List Int) (a : Nat) : Nat := ((List.range xs.length).filter (ab xs a)).length

theorem ord_refl {xs : List Int} (h : ordB xs = true) {i : Nat} (hi : i < xs.length) : ab xs i i = true := by
  unfold ordB at h
  rw [Bool.and_eq_true, List.all_eq_true] at h
  have := h.2 i (List.mem_range.2 hi)
  unfold ordRow at this
  rw [Bool.and_eq_true] at this
  exact this.1
theorem ord_at {xs : List Int} (h : ordB xs = true) {i k : Nat} (hi : i < xs.length) (hk : ab xs i k = true) :
    k < xs.length ∧ (k = i ∨ ab xs k i = false) ∧ (bits .or .u64 (xs[k]?.getD 0) (xs[i]?.getD 0) == xs[i]?.getD 0) = true := by
  have hk64 : k < 64 := by
    unfold ab MM.hasB at hk
    rw [Bool.and_eq_true, decide_eq_true_eq] at hk
    omega
  unfold ordB at h
  rw [Bool.and_eq_true, List.all_eq_true] at h
  have := h.2 i (List.mem_range.2 hi)
  unfold ordRow at this
  rw [Bool.and_eq_true, List.all_eq_true] at this
  have := this.2 k (List.mem_range.2 hk64)
  unfold ordAt at this
  rw [hk] at this
  simp only [Bool.not_true, Bool.false_or, Bool.and_eq_true, decide_eq_true_eq, Bool.or_eq_true, beq_iff_eq, Bool.not_eq_true'] at this
  exact ⟨this.1, this.2.1, by rw [beq_iff_eq]; exact this.2.2⟩
theorem ord_len {xs : List Int} (h : ordB xs = true) : 1 ≤ xs.length ∧ xs.length ≤ 64 := by
  unfold ordB at h
  rw [Bool.and_eq_true, decide_eq_true_eq] at h
  exact h.1
/-- what stands above what stands above i stands above i -/
theorem ord_trans {xs : List Int} (h : ordB xs = true) (hw : Wide xs) {i k m : Nat} (hi : i < xs.length) (hk : ab xs i k = true) (hm : ab xs k m = true) : ab xs i m = true := by
  have e := (ord_at h hi hk).2.2
  rw [beq_iff_eq] at e
  have h4 := or_has (xs[k]?.getD 0) (xs[i]?.getD 0) m (hw.at k).1 (hw.at k).2 (hw.at i).1 (hw.at i).2
  rw [e] at h4
  unfold ab at *
  rw [h4, hm, Bool.true_or]
theorem filter_lt {l : List Nat} {p q : Nat → Bool} (h : ∀ x ∈ l, q x = true → p x = true) {a : Nat} (ha : a ∈ l) (hp : p a = true) (hq : q a = false) : (l.filter q).length < (l.filter p).length := by
  induction l with
  | nil => simp at ha
  | cons x l ih =>
    have hle : (l.filter q).length ≤ (l.filter p).length := by
      clear ih ha
      induction l with
      | nil => simp
      | cons y l ih2 =>
        have h2 := ih2 (fun z hz => h z (by rcases List.mem_cons.1 hz with rfl | hz <;> simp_all))
        by_cases hy : q y = true
        · have := h y (by simp) hy
          simp [List.filter_cons, hy, this]; exact h2
        · by_cases hy2 : p y = true
          · simp [List.filter_cons, hy, hy2]; omega
          · simp [List.filter_cons, hy, hy2]; exact h2
    rcases List.mem_cons.1 ha with rfl | ha
    · simp [List.filter_cons, hp, hq]; omega
    · have h2 := ih (fun z hz => h z (by simp [hz])) ha
      by_cases hx : q x = true
      · have := h x (by simp) hx
        simp [List.filter_cons, hx, this]; exact h2
      · by_cases hx2 : p x = true
        · simp [List.filter_cons, hx, hx2]; omega
        · simp [List.filter_cons, hx, hx2]; exact h2
theorem cnt_lt {xs : List Int} (h : ordB xs = true) (hw : Wide xs) {a b : Nat} (ha : a < xs.length) (hs : st xs a b = true) : b < xs.length ∧ cnt xs b < cnt xs a := by
  unfold st at hs
  rw [Bool.and_eq_true, bne_iff_ne] at hs
  have h1 := ord_at h ha hs.2
  refine ⟨h1.1, filter_lt (fun m _ hm => ord_trans h hw ha hs.2 hm) (List.mem_range.2 ha) (ord_refl h ha) ?_⟩
  rcases h1.2.1 with e | e
  · exact absurd e.symm hs.1
  · exact e
theorem cnt_pos {xs : List Int} (h : ordB xs = true) {a : Nat} (ha : a < xs.length) : 1 ≤ cnt xs a := by
  unfold cnt
  have : a ∈ (List.range xs.length).filter (ab xs a) := List.mem_filter.2 ⟨List.mem_range.2 ha, ord_refl h ha⟩
  exact List.length_pos_of_mem this
theorem cnt_le (xs : List Int) (a : Nat) : cnt xs a ≤ xs.length := by
  unfold cnt; exact Nat.le_trans (List.length_filter_le _ _) (by simp)
theorem dep_succ (xs : List Int) (f a : Nat) : dep xs (f + 1) a = maxUp (fun b => if st xs a b = true then dep xs f b + 1 else 0) xs.length := rfl
theorem dep_lt {xs : List Int} (h : ordB xs = true) (hw : Wide xs) : ∀ f a, a < xs.length → dep xs f a < cnt xs a := by
  intro f
  induction f with
  | zero => intro a ha; exact cnt_pos h ha
  | succ f ih =>
    intro a ha
    rw [dep_succ]
    rcases maxUp_hit (fun b => if st xs a b = true then dep xs f b + 1 else 0) xs.length with e | ⟨b, hb, e⟩
    · rw [e]; exact cnt_pos h ha
    · rw [e]
      by_cases hs : st xs a b = true
      · have := (cnt_lt h hw ha hs).2
        have := ih b hb
        simp only [if_pos hs]; omega
      · simp only [if_neg hs]; exact cnt_pos h ha
theorem dep_stable {xs : List Int} (h : ordB xs = true) (hw : Wide xs) : ∀ f a, a < xs.length → cnt xs a ≤ f + 1 → dep xs (f + 1) a = dep xs f a := by
  intro f
  induction f with
  | zero =>
    intro a ha hc
    rw [dep_succ]
    show maxUp _ _ = 0
    rcases maxUp_hit (fun b => if st xs a b = true then dep xs 0 b + 1 else 0) xs.length with e | ⟨b, hb, e⟩
    · exact e
    · by_cases hs : st xs a b = true
      · have h1 := (cnt_lt h hw ha hs).2
        have h2 := cnt_pos h hb
        omega
      · rw [e]; simp only [if_neg hs]
  | succ f ih =>
    intro a ha hc
    rw [dep_succ, dep_succ xs f a]
    refine maxUp_congr fun b hb => ?_
    by_cases hs : st xs a b = true
    · have h1 := (cnt_lt h hw ha hs).2
      simp only [if_pos hs]
      rw [ih b hb (by omega)]
    · simp only [if_neg hs]
/-- the two laws of longest chains -/
theorem long_le {xs : List Int} (h : ordB xs = true) (hw : Wide xs) {a b : Nat} (ha : a < xs.length) (hs : st xs a b = true) : longL xs b + 1 ≤ longL xs a := by
  have hl := (ord_len h).1
  have hb := cnt_lt h hw ha hs
  obtain ⟨n, hn⟩ : ∃ n, xs.length = n + 1 := ⟨xs.length - 1, by omega⟩
  have hc := cnt_le xs a
  have e : dep xs (n + 1) b = dep xs n b := dep_stable h hw n b hb.1 (by omega)
  unfold longL
  rw [hn, e, dep_succ]
  have := maxUp_le (f := fun b => if st xs a b = true then dep xs n b + 1 else 0) hb.1
  simp only [if_pos hs] at this
  exact this
theorem long_hit {xs : List Int} (h : ordB xs = true) (hw : Wide xs) {a : Nat} (ha : a < xs.length) : longL xs a = 0 ∨ ∃ b, b < xs.length ∧ st xs a b = true ∧ longL xs a = longL xs b + 1 := by
  have hl := (ord_len h).1
  obtain ⟨n, hn⟩ : ∃ n, xs.length = n + 1 := ⟨xs.length - 1, by omega⟩
  have hc := cnt_le xs a
  unfold longL
  rw [hn, dep_succ]
  rcases maxUp_hit (fun b => if st xs a b = true then dep xs n b + 1 else 0) xs.length with e | ⟨b, hb, e⟩
  · exact .inl e
  · by_cases hs : st xs a b = true
    · have hb2 := cnt_lt h hw ha hs
      refine .inr ⟨b, by omega, hs, ?_⟩
      rw [e]
      simp only [if_pos hs]
      rw [dep_stable h hw n b hb (by omega)]
    · rw [e]; simp only [if_neg hs]; exact .inl trivial
theorem long_bd {xs : List Int} (h : ordB xs = true) (hw : Wide xs) {a : Nat} (ha : a < xs.length) : longL xs a < xs.length := by
  have := dep_lt h hw xs.length a ha
  have := cnt_le xs a
  unfold longL; omega
/-- whoever keeps the two laws tells the longest chains -/
theorem long_one {xs : List Int} (h : ordB xs = true) (hw : Wide xs) {L : Nat → Nat} (h1 : ∀ a b, a < xs.length → st xs a b = true → L b + 1 ≤ L a)
    (h2 : ∀ a, a < xs.length → L a = 0 ∨ ∃ b, b < xs.length ∧ st xs a b = true ∧ L a = L b + 1) : ∀ a, a < xs.length → L a = longL xs a := by
  have key : ∀ c a, a < xs.length → cnt xs a ≤ c → L a = longL xs a := by
    intro c
    induction c with
    | zero => intro a ha hc; have := cnt_pos h ha; omega
    | succ c ih =>
      intro a ha hc
      have le1 : L a ≤ longL xs a := by
        rcases h2 a ha with e | ⟨b, hb, hs, e⟩
        · omega
        · have := (cnt_lt h hw ha hs).2
          rw [e, ih b hb (by omega)]
          exact long_le h hw ha hs
      have le2 : longL xs a ≤ L a := by
        rcases long_hit h hw ha with e | ⟨b, hb, hs, e⟩
        · omega
        · have := (cnt_lt h hw ha hs).2
          rw [e, ← ih b hb (by omega)]
          exact h1 a b ha hs
      omega
  exact fun a ha => key _ a ha (Nat.le_refl _)

/-- r rounds of the reference are done: nothing is told too long, what is not longer than r is told right -/
def HInv (xs : List Int) (r : Nat) (M : List Nat) : Prop := M.length = xs.length ∧ (∀ a, a < xs.length → M[a]?.getD 0 ≤ longL xs a) ∧ ∀ a, a < xs.length → longL xs a ≤ r → M[a]?.getD 0 = longL xs a
def HInvA (xs : List Int) (r a : Nat) (M : List Nat) : Prop := HInv xs r M ∧ ∀ i, i < a → longL xs i ≤ r + 1 → M[i]?.getD 0 = longL xs i
def HInvB (xs : List Int) (r a b : Nat) (M : List Nat) : Prop := HInvA xs r a M ∧ ∀ j, j < b → st xs a j = true → longL xs j ≤ r → longL xs j + 1 ≤ M[a]?.getD 0
theorem get_setN (S : List Nat) (i j : Nat) (y : Nat) (hi : i < S.length) : (S.set i y)[j]?.getD 0 = if j = i then y else S[j]?.getD 0 := by
  rw [List.getElem?_set]
  by_cases e : j = i
  · subst e; simp [hi]
  · rw [if_neg (fun h => e h.symm), if_neg e]
theorem hinv_start (xs : List Int) : HInv xs 0 (List.replicate xs.length 0) := by
  refine ⟨by simp, fun a ha => ?_, fun a ha h => ?_⟩
  · simp [List.getElem?_replicate, ha]
  · simp [List.getElem?_replicate, ha]; omega
theorem hinvB_same {xs : List Int} {r a b : Nat} {M : List Nat} (h : HInvB xs r a b M) (hn : st xs a b = false ∨ ¬ M[a]?.getD 0 < M[b]?.getD 0 + 1) (hb : b < xs.length) : HInvB xs r a (b + 1) M := by
  refine ⟨h.1, fun j hj hs hl => ?_⟩
  by_cases e : j = b
  · subst e
    rcases hn with hn | hn
    · rw [hn] at hs; cases hs
    · have := h.1.1.2.2 j hb hl; omega
  · exact h.2 j (by omega) hs hl
theorem hinvB_set {xs : List Int} (ho : ordB xs = true) (hw : Wide xs) {r a b : Nat} {M : List Nat} (h : HInvB xs r a b M) (ha : a < xs.length) (hb : b < xs.length) (hs : st xs a b = true) (hlt : M[a]?.getD 0 < M[b]?.getD 0 + 1) :
    HInvB xs r a (b + 1) (M.set a (M[b]?.getD 0 + 1)) := by
  obtain ⟨⟨⟨h1, h2, h3⟩, h4⟩, h5⟩ := h
  have hab := long_le ho hw ha hs
  have hMb := h2 b hb
  have hg := fun j => get_setN M a j (M[b]?.getD 0 + 1) (by omega)
  have hra : ¬ longL xs a ≤ r := fun hr => by have := h3 a ha hr; omega
  refine ⟨⟨⟨by rw [List.length_set]; exact h1, fun i hi => ?_, fun i hi hr => ?_⟩, fun i hi hr => ?_⟩, fun j hj hsj hr => ?_⟩
  · rw [hg]; by_cases e : i = a
    · subst e; rw [if_pos rfl]; omega
    · rw [if_neg e]; exact h2 i hi
  · rw [hg]; by_cases e : i = a
    · subst e; exact absurd hr hra
    · rw [if_neg e]; exact h3 i hi hr
  · rw [hg, if_neg (by omega)]; exact h4 i hi hr
  · rw [hg, if_pos rfl]
    by_cases e : j = b
    · subst e; have := h3 j hb hr; omega
    · have := h5 j (by omega) hsj hr; omega
theorem hinvA_next {xs : List Int} (ho : ordB xs = true) (hw : Wide xs) {r a : Nat} {M : List Nat} (h : HInvB xs r a xs.length M) (ha : a < xs.length) : HInvA xs r (a + 1) M := by
  refine ⟨h.1.1, fun i hi hr => ?_⟩
  by_cases e : i = a
  · subst e
    have hle := h.1.1.2.1 i ha
    rcases long_hit ho hw ha with e | ⟨b, hb, hs, e⟩
    · omega
    · have := h.2 b hb hs (by omega)
      omega
  · exact h.1.2 i (by omega) hr
theorem hinv_next {xs : List Int} {r : Nat} {M : List Nat} (h : HInvA xs r xs.length M) : HInv xs (r + 1) M := ⟨h.1.1, h.1.2.1, fun a ha hr => h.2 a ha hr⟩
theorem hinv_end {xs : List Int} (ho : ordB xs = true) (hw : Wide xs) {M : List Nat} (h : HInv xs xs.length M) : ∀ a, a < xs.length → M[a]?.getD 0 = longL xs a :=
  fun a ha => h.2.2 a ha (Nat.le_of_lt (long_bd ho hw ha))
end Go.Proofs.YtkoofibhddkpiaaDoor.LL

/-! plain: joins and meets of a lattice -/
namespace Go.Proofs.YtkoofibhddkpiaaDoor.LL

theorem right_ord {xs : List Int} (h : rightB xs = true) : ordB xs = true := by
  unfold rightB at h; rw [Bool.and_eq_true] at h; exact h.1
theorem le_refl5 {xs : List Int} (h : rightB xs = true) {a : Nat} (ha : a < xs.length) : ab xs a a = true := ord_refl (right_ord h) ha
theorem le_anti {xs : List Int} (h : rightB xs = true) {a b : Nat} (ha : a < xs.length) (h1 : ab xs a b = true) (h2 : ab xs b a = true) : a = b := by
  rcases (ord_at (right_ord h) ha h1).2.1 with e | e
  · exact e.symm
  · rw [h2] at e; cases e
theorem le_trans5 {xs : List Int} (h : rightB xs = true) (hw : Wide xs) {a b c : Nat} (ha : a < xs.length) (h1 : ab xs a b = true) (h2 : ab xs b c = true) : ab xs a c = true := ord_trans (right_ord h) hw ha h1 h2
theorem le_lt5 {xs : List Int} (h : rightB xs = true) {a b : Nat} (ha : a < xs.length) (h1 : ab xs a b = true) : b < xs.length := (ord_at (right_ord h) ha h1).1

/-- the join of two, as a level -/
def IsJ (xs : List Int) (a b j : Nat) : Prop := j < xs.length ∧ ab xs a j = true ∧ ab xs b j = true ∧ ∀ m, m < xs.length → ab xs a m = true → ab xs b m = true → ab xs j m = true
def IsM (xs : List Int) (a b j : Nat) : Prop := j < xs.length ∧ ab xs j a = true ∧ ab xs j b = true ∧ ∀ m, m < xs.length → ab xs m a = true → ab xs m b = true → ab xs m j = true
theorem isJoin_iff {xs : List Int} {a b j : Nat} (hj : j < xs.length) : isJoin xs a b j = true ↔ IsJ xs a b j := by
  unfold isJoin IsJ joinAt
  simp only [Bool.and_eq_true, List.all_eq_true, List.mem_range, Bool.or_eq_true, Bool.not_eq_true']
  constructor
  · rintro ⟨h1, h2, h3⟩
    refine ⟨hj, h1, h2, fun m hm e1 e2 => ?_⟩
    rcases h3 m hm with h | h | h
    · rw [e1] at h; cases h
    · rw [e2] at h; cases h
    · exact h
  · rintro ⟨_, h1, h2, h3⟩
    refine ⟨h1, h2, fun m hm => ?_⟩
    cases e1 : ab xs a m
    · exact .inl rfl
    · cases e2 : ab xs b m
      · exact .inr (.inl rfl)
      · exact .inr (.inr (h3 m hm e1 e2))
theorem isMeet_iff {xs : List Int} {a b j : Nat} (hj : j < xs.length) : isMeet xs a b j = true ↔ IsM xs a b j := by
  unfold isMeet IsM meetAt
  simp only [Bool.and_eq_true, List.all_eq_true, List.mem_range, Bool.or_eq_true, Bool.not_eq_true']
  constructor
  · rintro ⟨h1, h2, h3⟩
    refine ⟨hj, h1, h2, fun m hm e1 e2 => ?_⟩
    rcases h3 m hm with h | h | h
    · rw [e1] at h; cases h
    · rw [e2] at h; cases h
    · exact h
  · rintro ⟨_, h1, h2, h3⟩
    refine ⟨h1, h2, fun m hm => ?_⟩
    cases e1 : ab xs m a
    · exact .inl rfl
    · cases e2 : ab xs m b
      · exact .inr (.inl rfl)
      · exact .inr (.inr (h3 m hm e1 e2))
theorem IsJ.symm {xs : List Int} {a b j : Nat} (h : IsJ xs a b j) : IsJ xs b a j := ⟨h.1, h.2.2.1, h.2.1, fun m hm e1 e2 => h.2.2.2 m hm e2 e1⟩
theorem IsM.symm {xs : List Int} {a b j : Nat} (h : IsM xs a b j) : IsM xs b a j := ⟨h.1, h.2.2.1, h.2.1, fun m hm e1 e2 => h.2.2.2 m hm e2 e1⟩
theorem pair_at {xs : List Int} (h : rightB xs = true) {a b : Nat} (ha : a < xs.length) (hb : b < a) : pairB xs a b = true := by
  unfold rightB at h
  rw [Bool.and_eq_true, List.all_eq_true] at h
  have := h.2 a (List.mem_range.2 ha)
  rw [List.all_eq_true] at this
  exact this b (List.mem_range.2 hb)
theorem ex_join {xs : List Int} (h : rightB xs = true) {a b : Nat} (ha : a < xs.length) (hb : b < xs.length) : ∃ j, IsJ xs a b j := by
  have key : ∀ a b, a < xs.length → b < a → ∃ j, IsJ xs a b j := by
    intro a b ha hb
    have hp := pair_at h ha hb
    unfold pairB at hp
    rw [Bool.and_eq_true, decide_eq_true_eq, decide_eq_true_eq] at hp
    obtain ⟨j, _, hj, hi⟩ := firstI_at hp.1
    exact ⟨j, (isJoin_iff hj).1 hi⟩
  rcases Nat.lt_trichotomy a b with e | e | e
  · obtain ⟨j, hj⟩ := key b a hb e; exact ⟨j, hj.symm⟩
  · subst e; exact ⟨a, ha, le_refl5 h ha, le_refl5 h ha, fun m _ e1 _ => e1⟩
  · exact key a b ha e
theorem ex_meet {xs : List Int} (h : rightB xs = true) {a b : Nat} (ha : a < xs.length) (hb : b < xs.length) : ∃ j, IsM xs a b j := by
  have key : ∀ a b, a < xs.length → b < a → ∃ j, IsM xs a b j := by
    intro a b ha hb
    have hp := pair_at h ha hb
    unfold pairB at hp
    rw [Bool.and_eq_true, decide_eq_true_eq, decide_eq_true_eq] at hp
    obtain ⟨j, _, hj, hi⟩ := firstI_at hp.2
    exact ⟨j, (isMeet_iff hj).1 hi⟩
  rcases Nat.lt_trichotomy a b with e | e | e
  · obtain ⟨j, hj⟩ := key b a hb e; exact ⟨j, hj.symm⟩
  · subst e; exact ⟨a, ha, le_refl5 h ha, le_refl5 h ha, fun m _ e1 _ => e1⟩
  · exact key a b ha e
theorem one_join {xs : List Int} (h : rightB xs = true) {a b j k : Nat} (hj : IsJ xs a b j) (hk : IsJ xs a b k) : j = k :=
  le_anti h hj.1 (hj.2.2.2 k hk.1 hk.2.1 hk.2.2.1) (hk.2.2.2 j hj.1 hj.2.1 hj.2.2.1)
theorem one_meet {xs : List Int} (h : rightB xs = true) {a b j k : Nat} (hj : IsM xs a b j) (hk : IsM xs a b k) : j = k :=
  le_anti h hj.1 (hk.2.2.2 j hj.1 hj.2.1 hj.2.2.1) (hj.2.2.2 k hk.1 hk.2.1 hk.2.2.1)
/-- what the reference answers is the join, the meet -/
theorem joinI_is {xs : List Int} (h : rightB xs = true) {a b j : Nat} (hj : IsJ xs a b j) : joinI xs a b = (j : Int) := by
  have hp : isJoin xs a b j = true := (isJoin_iff hj.1).2 hj
  have h0 : 0 ≤ joinI xs a b := by
    apply Classical.byContradiction; intro hn
    have e : ∀ i, i < xs.length → isJoin xs a b i = false := by
      unfold joinI firstI at hn
      split at hn
      · omega
      · rename_i e
        rw [List.find?_eq_none] at e
        intro i hi
        have := e i (List.mem_range.2 hi)
        simpa using this
    rw [e j hj.1] at hp; cases hp
  obtain ⟨k, e, hk, hi⟩ := firstI_at h0
  unfold joinI
  rw [e, one_join h ((isJoin_iff hk).1 hi) hj]
theorem meetI_is {xs : List Int} (h : rightB xs = true) {a b j : Nat} (hj : IsM xs a b j) : meetI xs a b = (j : Int) := by
  have hp : isMeet xs a b j = true := (isMeet_iff hj.1).2 hj
  have h0 : 0 ≤ meetI xs a b := by
    apply Classical.byContradiction; intro hn
    have e : ∀ i, i < xs.length → isMeet xs a b i = false := by
      unfold meetI firstI at hn
      split at hn
      · omega
      · rename_i e
        rw [List.find?_eq_none] at e
        intro i hi
        have := e i (List.mem_range.2 hi)
        simpa using this
    rw [e j hj.1] at hp; cases hp
  obtain ⟨k, e, hk, hi⟩ := firstI_at h0
  unfold meetI
  rw [e, one_meet h ((isMeet_iff hk).1 hi) hj]
def joinN (xs : List Int) (a b : Nat) : Nat := (joinI xs a b).toNat
def meetN (xs : List Int) (a b : Nat) : Nat := (meetI xs a b).toNat
theorem joinN_is {xs : List Int} (h : rightB xs = true) {a b : Nat} (ha : a < xs.length) (hb : b < xs.length) : IsJ xs a b (joinN xs a b) ∧ joinI xs a b = (joinN xs a b : Int) := by
  obtain ⟨j, hj⟩ := ex_join h ha hb
  unfold joinN
  rw [joinI_is h hj, Int.toNat_natCast]
  exact ⟨hj, rfl⟩
theorem meetN_is {xs : List Int} (h : rightB xs = true) {a b : Nat} (ha : a < xs.length) (hb : b < xs.length) : IsM xs a b (meetN xs a b) ∧ meetI xs a b = (meetN xs a b : Int) := by
  obtain ⟨j, hj⟩ := ex_meet h ha hb
  unfold meetN
  rw [meetI_is h hj, Int.toNat_natCast]
  exact ⟨hj, rfl⟩
section
variable {xs : List Int} (h : rightB xs = true) (hw : Wide xs) {a b c : Nat} (ha : a < xs.length) (hb : b < xs.length) (hc : c < xs.length)
include h ha hb
theorem join_comm : joinN xs a b = joinN xs b a := one_join h (joinN_is h ha hb).1 (joinN_is h hb ha).1.symm
theorem meet_comm : meetN xs a b = meetN xs b a := one_meet h (meetN_is h ha hb).1 (meetN_is h hb ha).1.symm
include hw hc
theorem join_assoc : joinN xs (joinN xs a b) c = joinN xs a (joinN xs b c) := by
  have j1 := (joinN_is h ha hb).1
  have j2 := (joinN_is h hb hc).1
  have j3 := (joinN_is h j1.1 hc).1
  have j4 := (joinN_is h ha j2.1).1
  refine le_anti h j3.1 ?_ ?_
  · refine j3.2.2.2 _ j4.1 (j1.2.2.2 _ j4.1 j4.2.1 ?_) ?_
    · exact le_trans5 h hw hb j2.2.1 j4.2.2.1
    · exact le_trans5 h hw hc j2.2.2.1 j4.2.2.1
  · refine j4.2.2.2 _ j3.1 ?_ (j2.2.2.2 _ j3.1 ?_ j3.2.2.1)
    · exact le_trans5 h hw ha j1.2.1 j3.2.1
    · exact le_trans5 h hw hb j1.2.2.1 j3.2.1
theorem meet_assoc : meetN xs (meetN xs a b) c = meetN xs a (meetN xs b c) := by
  have j1 := (meetN_is h ha hb).1
  have j2 := (meetN_is h hb hc).1
  have j3 := (meetN_is h j1.1 hc).1
  have j4 := (meetN_is h ha j2.1).1
  refine le_anti h j3.1 ?_ ?_
  · refine j4.2.2.2 _ j3.1 ?_ (j2.2.2.2 _ j3.1 ?_ j3.2.2.1)
    · exact le_trans5 h hw j3.1 j3.2.1 j1.2.1
    · exact le_trans5 h hw j3.1 j3.2.1 j1.2.2.1
  · refine j3.2.2.2 _ j4.1 (j1.2.2.2 _ j4.1 j4.2.1 ?_) ?_
    · exact le_trans5 h hw j4.1 j4.2.2.1 j2.2.1
    · exact le_trans5 h hw j4.1 j4.2.2.1 j2.2.2.1
theorem join_bound : ab xs (joinN xs a b) c = (ab xs a c && ab xs b c) := by
  have j1 := (joinN_is h ha hb).1
  rw [Bool.eq_iff_iff, Bool.and_eq_true]
  exact ⟨fun e => ⟨le_trans5 h hw ha j1.2.1 e, le_trans5 h hw hb j1.2.2.1 e⟩, fun e => j1.2.2.2 c hc e.1 e.2⟩
theorem meet_bound : ab xs c (meetN xs a b) = (ab xs c a && ab xs c b) := by
  have j1 := (meetN_is h ha hb).1
  rw [Bool.eq_iff_iff, Bool.and_eq_true]
  exact ⟨fun e => ⟨le_trans5 h hw hc e j1.2.1, le_trans5 h hw hc e j1.2.2.1⟩, fun e => j1.2.2.2 c hc e.1 e.2⟩
omit hc hw
theorem meet_absorb : meetN xs a (joinN xs a b) = a := by
  have j1 := (joinN_is h ha hb).1
  exact one_meet h (meetN_is h ha j1.1).1 ⟨ha, le_refl5 h ha, j1.2.1, fun m _ e _ => e⟩
theorem join_absorb : joinN xs a (meetN xs a b) = a := by
  have j1 := (meetN_is h ha hb).1
  exact one_join h (joinN_is h ha j1.1).1 ⟨ha, le_refl5 h ha, j1.2.1, fun m _ e _ => e⟩
theorem join_leq : ((joinN xs a b : Int) == (b : Int)) = ab xs a b := by
  have j1 := (joinN_is h ha hb).1
  rw [Bool.eq_iff_iff, beq_iff_eq]
  constructor
  · intro e
    have e' : joinN xs a b = b := by omega
    have := j1.2.1
    rwa [e'] at this
  · intro e
    have := one_join h j1 ⟨hb, e, le_refl5 h hb, fun m _ _ e2 => e2⟩
    omega
theorem meet_leq : ((meetN xs a b : Int) == (a : Int)) = ab xs a b := by
  have j1 := (meetN_is h ha hb).1
  rw [Bool.eq_iff_iff, beq_iff_eq]
  constructor
  · intro e
    have e' : meetN xs a b = a := by omega
    have := j1.2.2.1
    rwa [e'] at this
  · intro e
    have := one_meet h j1 ⟨ha, le_refl5 h ha, e, fun m _ e2 _ => e2⟩
    omega
end
/-- there is one below all, and one above all -/
theorem ex_end {xs : List Int} (h : rightB xs = true) (hw : Wide xs) : ∃ k, k < xs.length ∧ ∀ m, m < xs.length → ab xs k m = true := by
  have hl := (ord_len (right_ord h)).1
  have key : ∀ i, i < xs.length → ∃ k, k < xs.length ∧ ∀ m, m ≤ i → ab xs k m = true := by
    intro i
    induction i with
    | zero => intro hi; exact ⟨0, hi, fun m hm => by obtain rfl : m = 0 := (by omega); exact le_refl5 h hi⟩
    | succ i ih =>
      intro hi
      obtain ⟨k, hk, hall⟩ := ih (by omega)
      obtain ⟨j, hj⟩ := ex_meet h hk hi
      refine ⟨j, hj.1, fun m hm => ?_⟩
      by_cases e : m = i + 1
      · subst e; exact hj.2.2.1
      · exact le_trans5 h hw hj.1 hj.2.1 (hall m (by omega))
  obtain ⟨k, hk, hall⟩ := key (xs.length - 1) (by omega)
  exact ⟨k, hk, fun m hm => hall m (by omega)⟩
theorem ex_far {xs : List Int} (h : rightB xs = true) (hw : Wide xs) : ∃ k, k < xs.length ∧ ∀ m, m < xs.length → ab xs m k = true := by
  have hl := (ord_len (right_ord h)).1
  have key : ∀ i, i < xs.length → ∃ k, k < xs.length ∧ ∀ m, m ≤ i → ab xs m k = true := by
    intro i
    induction i with
    | zero => intro hi; exact ⟨0, hi, fun m hm => by obtain rfl : m = 0 := (by omega); exact le_refl5 h hi⟩
    | succ i ih =>
      intro hi
      obtain ⟨k, hk, hall⟩ := ih (by omega)
      obtain ⟨j, hj⟩ := ex_join h hk hi
      refine ⟨j, hj.1, fun m hm => ?_⟩
      by_cases e : m = i + 1
      · subst e; exact hj.2.2.1
      · exact le_trans5 h hw (show m < xs.length by omega) (hall m (by omega)) hj.2.1
  obtain ⟨k, hk, hall⟩ := key (xs.length - 1) (by omega)
  exact ⟨k, hk, fun m hm => hall m (by omega)⟩
theorem firstI_one {n : Nat} {p : Nat → Bool} {k : Nat} (hk : k < n) (hp : p k = true) (h1 : ∀ j, j < n → p j = true → j = k) : firstI n p = (k : Int) :=
  firstI_hit hk hp fun j hj => by
    cases e : p j
    · rfl
    · have := h1 j (by omega) e; omega
theorem endI_is {xs : List Int} (h : rightB xs = true) {k : Nat} (hk : k < xs.length) (ha : ∀ m, m < xs.length → ab xs k m = true) : endI xs = (k : Int) :=
  firstI_one hk (by unfold isEnd; exact all_yes ha) fun j hj e => by
    unfold isEnd at e
    rw [List.all_eq_true] at e
    exact le_anti h hj (e k (List.mem_range.2 hk)) (ha j hj)
theorem farI_is {xs : List Int} (h : rightB xs = true) {k : Nat} (hk : k < xs.length) (ha : ∀ m, m < xs.length → ab xs m k = true) : farI xs = (k : Int) :=
  firstI_one hk (by unfold isFar; exact all_yes ha) fun j hj e => by
    unfold isFar at e
    rw [List.all_eq_true] at e
    exact le_anti h hj (ha j hj) (e k (List.mem_range.2 hk))
end Go.Proofs.YtkoofibhddkpiaaDoor.LL

/-! the walk of layer 5's reference: Covers -/
namespace Go.Proofs.YtkoofibhddkpiaaDoor
open Go.RowKit

namespace LL
/-- nothing stands between -/
def coverAt (xs : List Int) (a b m : Nat) : Bool := m == a || (m == b || (!ab xs a m || !ab xs m b))
def isCover (xs : List Int) (a b : Nat) : Bool := (a != b && ab xs a b) && (List.range xs.length).all (coverAt xs a b)
/-- the pairs (a, b) with b below k -/
def rowUp (xs : List Int) (a k : Nat) : List (Nat × Nat) := ((List.range k).filter (isCover xs a)).map fun b => (a, b)
def coversUp (xs : List Int) (a : Nat) : List (Nat × Nat) := (List.range a).flatMap fun i => rowUp xs i xs.length
/-- all pairs of which one stands right above the other -/
def coversL (xs : List Int) : List (Nat × Nat) := coversUp xs xs.length
theorem rowUp_yes (xs : List Int) (a k : Nat) (h : isCover xs a k = true) : rowUp xs a (k + 1) = rowUp xs a k ++ [(a, k)] := by
  unfold rowUp; rw [List.range_succ, List.filter_append]; simp [h]
theorem rowUp_no (xs : List Int) (a k : Nat) (h : isCover xs a k = false) : rowUp xs a (k + 1) = rowUp xs a k := by
  unfold rowUp; rw [List.range_succ, List.filter_append]; simp [h]
theorem coversUp_succ (xs : List Int) (a : Nat) : coversUp xs (a + 1) = coversUp xs a ++ rowUp xs a xs.length := by
  unfold coversUp; rw [List.range_succ, List.flatMap_append]; simp
theorem rowUp_len (xs : List Int) (a k : Nat) : (rowUp xs a k).length ≤ k := by
  unfold rowUp; rw [List.length_map]; exact Nat.le_trans (List.length_filter_le _ _) (by simp)
theorem coversUp_len (xs : List Int) (a : Nat) : (coversUp xs a).length ≤ a * xs.length := by
  induction a with
  | zero => simp [coversUp]
  | succ a ih =>
    rw [coversUp_succ, List.length_append]
    have := rowUp_len xs a xs.length
    have e : (a + 1) * xs.length = a * xs.length + xs.length := Nat.succ_mul ..
    omega
end LL
theorem cell_two_new5 (W : World) (u v : Value) (t : TypeId) : ∀ j x, [u, v][j]? = some x → (W.alloc (.cells #[u, v] t)).cell? ((⟨W.heap.size, 0, none⟩ : Addr).add j) = some x := by
  intro j x hj
  match j, hj with
  | 0, hj => simp at hj; subst hj; simp [Addr.add]
  | 1, hj => simp at hj; subst hj; simp [Addr.add]
def cellsOf5 (l : List (Nat × Nat)) : List Value := l.flatMap fun p => [.int .i64 (p.1 : Int), .int .i64 (p.2 : Int)]

theorem cells5_snoc (l : List (Nat × Nat)) (a b : Nat) : cellsOf5 (l ++ [(a, b)]) = cellsOf5 l ++ [.int .i64 (a : Int), .int .i64 (b : Int)] := by
  unfold cellsOf5; rw [List.flatMap_append]; simp

end Go.Proofs.YtkoofibhddkpiaaDoor

/-! plain: the pairs that stand right above one another make the order again; chains, and levels beside one another -/
namespace Go.Proofs.YtkoofibhddkpiaaDoor.LL

theorem mem_rowUp {xs : List Int} {a k : Nat} {p : Nat × Nat} : p ∈ rowUp xs a k ↔ p.1 = a ∧ p.2 < k ∧ isCover xs a p.2 = true := by
  obtain ⟨x, y⟩ := p
  unfold rowUp
  simp only [List.mem_map, List.mem_filter, List.mem_range, Prod.mk.injEq]
  constructor
  · rintro ⟨b, ⟨h1, h2⟩, rfl, rfl⟩; exact ⟨rfl, h1, h2⟩
  · rintro ⟨rfl, h1, h2⟩; exact ⟨y, ⟨h1, h2⟩, rfl, rfl⟩
theorem mem_covers {xs : List Int} {a b : Nat} : (a, b) ∈ coversL xs ↔ a < xs.length ∧ b < xs.length ∧ isCover xs a b = true := by
  unfold coversL coversUp
  simp only [List.mem_flatMap, List.mem_range, mem_rowUp]
  constructor
  · rintro ⟨i, hi, rfl, h1, h2⟩; exact ⟨hi, h1, h2⟩
  · rintro ⟨h1, h2, h3⟩; exact ⟨a, h1, rfl, h2, h3⟩
theorem covers_nodup (xs : List Int) : (coversL xs).Nodup := by
  unfold coversL coversUp List.Nodup
  rw [List.pairwise_flatMap]
  refine ⟨fun a _ => ?_, ?_⟩
  · unfold rowUp
    rw [List.pairwise_map]
    refine List.Pairwise.imp ?_ (List.Pairwise.filter _ List.nodup_range)
    intro x y h e
    exact h (Prod.mk.inj e).2
  · refine List.Pairwise.imp ?_ List.nodup_range
    intro a b h x hx y hy e
    subst e
    exact h ((mem_rowUp.1 hx).1.symm.trans (mem_rowUp.1 hy).1)
theorem cover_st {xs : List Int} {a b : Nat} (h : isCover xs a b = true) : st xs a b = true ∧ ∀ m, m < xs.length → m ≠ a → m ≠ b → ab xs a m = true → ab xs m b = true → False := by
  unfold isCover at h
  rw [Bool.and_eq_true, List.all_eq_true] at h
  refine ⟨h.1, fun m hm h1 h2 h3 h4 => ?_⟩
  have := h.2 m (List.mem_range.2 hm)
  unfold coverAt at this
  rw [h3, h4] at this
  simp [h1, h2] at this
theorem st_not_cover {xs : List Int} {a b : Nat} (hs : st xs a b = true) (h : isCover xs a b = false) : ∃ m, m < xs.length ∧ m ≠ a ∧ m ≠ b ∧ ab xs a m = true ∧ ab xs m b = true := by
  unfold isCover at h
  unfold st at hs
  rw [hs, Bool.true_and, List.all_eq_false] at h
  obtain ⟨m, hm, h2⟩ := h
  unfold coverAt at h2
  simp only [Bool.or_eq_true, beq_iff_eq, Bool.not_eq_true', not_or, Bool.not_eq_false] at h2
  exact ⟨m, List.mem_range.1 hm, h2.1, h2.2.1, h2.2.2.1, h2.2.2.2⟩
theorem st_mk {xs : List Int} {a b : Nat} (h1 : a ≠ b) (h2 : ab xs a b = true) : st xs a b = true := by
  unfold st; rw [h2, show (a != b) = true by rw [bne_iff_ne]; exact h1]; rfl
theorem st_ab {xs : List Int} {a b : Nat} (h : st xs a b = true) : a ≠ b ∧ ab xs a b = true := by
  unfold st at h; rw [Bool.and_eq_true, bne_iff_ne] at h; exact h
/-- right above a there is one at or below b -/
theorem ex_cover {xs : List Int} (ho : ordB xs = true) (hw : Wide xs) {a b : Nat} (ha : a < xs.length) : ∀ c m, xs.length - cnt xs m ≤ c → m < xs.length → st xs a m = true → ab xs m b = true →
    ∃ z, z < xs.length ∧ isCover xs a z = true ∧ ab xs z b = true := by
  intro c
  induction c with
  | zero =>
    intro m hc hm hs hb
    cases hcv : isCover xs a m
    · obtain ⟨z, hz, h1, h2, h3, h4⟩ := st_not_cover hs hcv
      have h5 := (cnt_lt ho hw hz (st_mk h2 h4)).2
      have h6 := cnt_le xs z
      omega
    · exact ⟨m, hm, hcv, hb⟩
  | succ c ih =>
    intro m hc hm hs hb
    cases hcv : isCover xs a m
    · obtain ⟨z, hz, h1, h2, h3, h4⟩ := st_not_cover hs hcv
      have h5 := (cnt_lt ho hw hz (st_mk h2 h4)).2
      have h6 := cnt_le xs z
      exact ih z (by omega) hz (st_mk (fun e => h1 e.symm) h3) (ord_trans ho hw hz h4 hb)
    · exact ⟨m, hm, hcv, hb⟩
theorem covers_reach {xs : List Int} (ho : ordB xs = true) (hw : Wide xs) : ∀ c a b, cnt xs a ≤ c → a < xs.length → ab xs a b = true → Reach (coversL xs) a b := by
  intro c
  induction c with
  | zero => intro a b hc ha _; have := cnt_pos ho ha; omega
  | succ c ih =>
    intro a b hc ha hab
    by_cases e : a = b
    · subst e; exact .refl
    · have hb := (ord_at ho ha hab).1
      obtain ⟨z, hz, hcv, hzb⟩ := ex_cover ho hw ha _ b (Nat.le_refl _) hb (st_mk e hab) (ord_refl ho hb)
      have hs := (cover_st hcv).1
      exact (Reach.one (mem_covers.2 ⟨ha, hz, hcv⟩)).trans (ih z b (by have := (cnt_lt ho hw ha hs).2; omega) hz hzb)
theorem reach_ab {xs : List Int} (ho : ordB xs = true) (hw : Wide xs) {ps : List (Nat × Nat)} (hp : ∀ p ∈ ps, p ∈ coversL xs) {a b : Nat} (ha : a < xs.length) (h : Reach ps a b) : ab xs a b = true := by
  induction h with
  | refl => exact ord_refl ho ha
  | tail _ hm ih =>
    have := mem_covers.1 (hp _ hm)
    exact ord_trans ho hw ha ih (st_ab (cover_st this.2.2).1).2
/-- the covers make the lattice again -/
theorem covers_close {xs : List Int} (ho : ordB xs = true) (hw : Wide xs) : IsClose xs.length (coversL xs) xs :=
  ⟨rfl, hw, fun i k hi => ⟨fun e => covers_reach ho hw _ i k (Nat.le_refl _) hi e, fun r => reach_ab ho hw (fun _ h => h) hi r⟩⟩
/-- .. and none of them is too many -/
theorem less_close {xs : List Int} (ho : ordB xs = true) (hw : Wide xs) {k : Nat} (hk : k < (coversL xs).length) : ¬ IsClose xs.length ((coversL xs).take k ++ (coversL xs).drop (k + 1)) xs := by
  intro hc
  obtain ⟨⟨a, b⟩, hp⟩ : ∃ p, (coversL xs)[k] = p := ⟨_, rfl⟩
  have hmem : (a, b) ∈ coversL xs := hp ▸ List.getElem_mem hk
  have hm := mem_covers.1 hmem
  have hsub : ∀ p ∈ (coversL xs).take k ++ (coversL xs).drop (k + 1), p ∈ coversL xs := fun p h => by
    rcases List.mem_append.1 h with h | h
    · exact List.mem_of_mem_take h
    · exact List.mem_of_mem_drop h
  have hnot : (a, b) ∉ (coversL xs).take k ++ (coversL xs).drop (k + 1) := by
    have hn := covers_nodup xs
    have e : coversL xs = (coversL xs).take k ++ (a, b) :: (coversL xs).drop (k + 1) := by
      rw [← hp, ← List.drop_eq_getElem_cons hk, List.take_append_drop]
    rw [e, List.nodup_append] at hn
    intro h
    rcases List.mem_append.1 h with h | h
    · exact hn.2.2 _ h _ (List.mem_cons_self ..) rfl
    · exact (List.nodup_cons.1 hn.2.1).1 h
  have hs := cover_st hm.2.2
  have hab := st_ab hs.1
  have hr : Reach ((coversL xs).take k ++ (coversL xs).drop (k + 1)) a b := (hc.2.2 a b hm.1).1 hab.2
  cases hr with
  | refl => exact hab.1 rfl
  | tail hr hl =>
    rename_i c
    have hca := reach_ab ho hw hsub hm.1 hr
    have hcb := mem_covers.1 (hsub _ hl)
    have hcs := st_ab (cover_st hcb.2.2).1
    by_cases e : c = a
    · subst e; exact hnot hl
    · exact hs.2 c hcb.1 e hcs.1 hca hcs.2
theorem covers_none {xs : List Int} (h : rightB xs = true) (hw : Wide xs) (he : coversL xs = []) : xs.length = 1 := by
  have ho := right_ord h
  have hl := ord_len ho
  apply Classical.byContradiction
  intro hn
  have key : ∀ i j, i < xs.length → st xs i j = true → False := by
    intro i j hi hs
    have hj := (cnt_lt ho hw hi hs).1
    obtain ⟨z, hz, hcv, _⟩ := ex_cover ho hw hi _ j (Nat.le_refl _) hj hs (ord_refl ho hj)
    have : (i, z) ∈ coversL xs := mem_covers.2 ⟨hi, hz, hcv⟩
    rw [he] at this
    simp at this
  obtain ⟨j, hj⟩ := ex_join h (a := 0) (b := 1) (by omega) (by omega)
  by_cases e : j = 0
  · exact key 1 j (by omega) (st_mk (by omega) hj.2.2.1)
  · exact key 0 j (by omega) (st_mk (by omega) hj.2.1)
theorem covers_ok (xs : List Int) : ∀ p ∈ coversL xs, p.1 < xs.length ∧ p.2 < xs.length := fun p hp => by
  obtain ⟨a, b⟩ := p
  have := mem_covers.1 hp
  exact ⟨this.1, this.2.1⟩

/-- how a lattice is told -/
theorem right_intro {xs : List Int} (hl : 1 ≤ xs.length ∧ xs.length ≤ 64) (hw : Wide xs) (hrefl : ∀ i, i < xs.length → ab xs i i = true) (hran : ∀ i k, i < xs.length → ab xs i k = true → k < xs.length)
    (hanti : ∀ i k, i < xs.length → ab xs i k = true → ab xs k i = true → k = i) (htrans : ∀ i k m, i < xs.length → ab xs i k = true → ab xs k m = true → ab xs i m = true)
    (hj : ∀ a b, a < xs.length → b < xs.length → ∃ j, IsJ xs a b j) (hm : ∀ a b, a < xs.length → b < xs.length → ∃ j, IsM xs a b j) : rightB xs = true := by
  have ho : ordB xs = true := by
    unfold ordB
    rw [decide_eq_true hl, Bool.true_and]
    refine all_yes fun i hi => ?_
    unfold ordRow
    rw [hrefl i hi, Bool.true_and]
    refine all_yes fun k hk => ?_
    unfold ordAt
    cases e : ab xs i k
    · rfl
    · have h1 := hran i k hi e
      have h2 : (k == i || !ab xs k i) = true := by
        cases e2 : ab xs k i
        · simp
        · rw [show (k == i) = true by rw [beq_iff_eq]; exact hanti i k hi e e2]; rfl
      have h3 : (bits .or .u64 (xs[k]?.getD 0) (xs[i]?.getD 0) == xs[i]?.getD 0) = true := by
        rw [beq_iff_eq]
        have bo := or_bd5 _ _ (hw.at k).1 (hw.at k).2 (hw.at i).1 (hw.at i).2
        refine mask_ext _ _ bo.1 bo.2 (hw.at i).1 (hw.at i).2 fun m => ?_
        rw [or_has _ _ m (hw.at k).1 (hw.at k).2 (hw.at i).1 (hw.at i).2]
        cases e3 : MM.hasB (xs[k]?.getD 0) (m : Int)
        · rfl
        · have : ab xs i m = true := htrans i k m hi e e3
          unfold ab at this
          rw [this]; rfl
      rw [decide_eq_true h1, h2, h3]; rfl
  unfold rightB
  rw [ho, Bool.true_and]
  refine all_yes fun a ha => all_yes fun b hb => ?_
  obtain ⟨j, hj⟩ := hj a b ha (by omega)
  obtain ⟨m, hm⟩ := hm a b ha (by omega)
  have h1 : 0 ≤ joinI xs a b := by
    apply Classical.byContradiction; intro hn
    have hp : isJoin xs a b j = true := (isJoin_iff hj.1).2 hj
    unfold joinI firstI at hn
    split at hn
    · omega
    · rename_i e
      rw [List.find?_eq_none] at e
      exact e j (List.mem_range.2 hj.1) hp
  have h2 : 0 ≤ meetI xs a b := by
    apply Classical.byContradiction; intro hn
    have hp : isMeet xs a b m = true := (isMeet_iff hm.1).2 hm
    unfold meetI firstI at hn
    split at hn
    · omega
    · rename_i e
      rw [List.find?_eq_none] at e
      exact e m (List.mem_range.2 hm.1) hp
  unfold pairB
  rw [decide_eq_true h1, decide_eq_true h2]; rfl
theorem height_is {xs : List Int} (ho : ordB xs = true) (hw : Wide xs) {L : Nat → Nat} {t : Nat} (h1 : ∀ a b, a < xs.length → st xs a b = true → L b + 1 ≤ L a)
    (h2 : ∀ a, a < xs.length → L a = 0 ∨ ∃ b, b < xs.length ∧ st xs a b = true ∧ L a = L b + 1) (ht : t < xs.length) (h3 : ∀ a, a < xs.length → L a ≤ L t) : heightN xs = L t := by
  have e := long_one ho hw h1 h2
  unfold heightN
  have le1 := maxUp_le (f := longL xs) ht
  rw [← e t ht] at le1
  rcases maxUp_hit (longL xs) xs.length with h | ⟨k, hk, h⟩
  · omega
  · have := h3 k hk
    rw [e k hk, ← h] at this
    omega
/-! the pairs of a chain, and of levels beside one another -/
def chainPs (k : Nat) : List (Nat × Nat) := (List.range (k - 1)).map fun i => (i, i + 1)
def besidePs (k : Nat) : List (Nat × Nat) := (List.range (k - 1)).flatMap fun i => [(0, i), (i, k - 1)]
theorem reach_chain (k i j : Nat) (hi : i < k) : Reach (chainPs k) i j ↔ i ≤ j ∧ j < k := by
  constructor
  · intro h
    induction h with
    | refl => exact ⟨Nat.le_refl _, hi⟩
    | tail _ hm ih =>
      unfold chainPs at hm
      obtain ⟨x, hx, e⟩ := List.mem_map.1 hm
      have := List.mem_range.1 hx
      obtain ⟨e1, e2⟩ := Prod.mk.inj e
      omega
  · rintro ⟨h1, h2⟩
    obtain ⟨d, rfl⟩ : ∃ d, j = i + d := ⟨j - i, by omega⟩
    clear h1
    induction d with
    | zero => exact .refl
    | succ d ih =>
      refine (ih (by omega)).tail (List.mem_map.2 ⟨i + d, List.mem_range.2 (by omega), rfl⟩)
theorem mem_beside (k i j : Nat) : (i, j) ∈ besidePs k ↔ (i = 0 ∧ j + 1 < k) ∨ (i + 1 < k ∧ j = k - 1) := by
  unfold besidePs
  simp only [List.mem_flatMap, List.mem_range, List.mem_cons, List.mem_nil_iff, or_false, Prod.mk.injEq]
  constructor
  · rintro ⟨x, hx, ⟨rfl, rfl⟩ | ⟨rfl, rfl⟩⟩
    · exact .inl ⟨rfl, by omega⟩
    · exact .inr ⟨by omega, rfl⟩
  · rintro (⟨rfl, h⟩ | ⟨h, rfl⟩)
    · exact ⟨j, by omega, .inl ⟨rfl, rfl⟩⟩
    · exact ⟨i, by omega, .inr ⟨rfl, rfl⟩⟩
theorem reach_beside (k i j : Nat) (hi : i < k) : Reach (besidePs k) i j ↔ j < k ∧ (i = j ∨ i = 0 ∨ j = k - 1) := by
  constructor
  · intro h
    induction h with
    | refl => exact ⟨hi, .inl rfl⟩
    | tail _ hm ih => have := (mem_beside k _ _).1 hm; omega
  · rintro ⟨hj, rfl | rfl | rfl⟩
    · exact .refl
    · by_cases e : j = 0
      · subst e; exact .refl
      · by_cases e2 : j + 1 < k
        · exact .one ((mem_beside k _ _).2 (.inl ⟨rfl, e2⟩))
        · exact .one ((mem_beside k _ _).2 (.inr ⟨by omega, by omega⟩))
    · by_cases e : i = k - 1
      · subst e; exact .refl
      · exact .one ((mem_beside k _ _).2 (.inr ⟨by omega, rfl⟩))
theorem close_ab {k : Nat} {ps : List (Nat × Nat)} {xs : List Int} (h : IsClose k ps xs) {i j : Nat} (hi : i < xs.length) : ab xs i j = true ↔ Reach ps i j := h.2.2 i j (h.1 ▸ hi)
theorem chain_right {k : Nat} (h1 : 1 ≤ k) (h2 : k ≤ 64) {xs : List Int} (h : IsClose k (chainPs k) xs) : rightB xs = true ∧ heightN xs = k - 1 := by
  have hl := h.1
  have hab : ∀ i j, i < xs.length → (ab xs i j = true ↔ i ≤ j ∧ j < k) := fun i j hi => (close_ab h hi).trans (reach_chain k i j (hl ▸ hi))
  have hr : rightB xs = true := by
    refine right_intro ⟨by omega, by omega⟩ h.2.1 (fun i hi => (hab i i hi).2 ⟨Nat.le_refl _, by omega⟩) (fun i j hi e => by have := (hab i j hi).1 e; omega) ?_ ?_ ?_ ?_
    · intro i j hi e1 e2
      have a1 := (hab i j hi).1 e1
      have a2 := (hab j i (by omega)).1 e2
      omega
    · intro i j m hi e1 e2
      have a1 := (hab i j hi).1 e1
      have a2 := (hab j m (by omega)).1 e2
      exact (hab i m hi).2 (by omega)
    · intro a b ha hb
      refine ⟨max a b, by omega, (hab a _ ha).2 (by omega), (hab b _ hb).2 (by omega), fun m hm e1 e2 => ?_⟩
      have a1 := (hab a m ha).1 e1
      have a2 := (hab b m hb).1 e2
      exact (hab _ m (by omega)).2 (by omega)
    · intro a b ha hb
      refine ⟨min a b, by omega, (hab _ a (by omega)).2 (by omega), (hab _ b (by omega)).2 (by omega), fun m hm e1 e2 => ?_⟩
      have a1 := (hab m a hm).1 e1
      have a2 := (hab m b hm).1 e2
      exact (hab m _ hm).2 (by omega)
  refine ⟨hr, ?_⟩
  rw [height_is (right_ord hr) h.2.1 (L := fun a => k - 1 - a) (t := 0) ?_ ?_ (by omega) (fun a ha => by omega)]
  · omega
  · intro a b ha hs
    have := st_ab hs
    have a1 := (hab a b ha).1 this.2
    omega
  · intro a ha
    by_cases e : a + 1 < k
    · exact .inr ⟨a + 1, by omega, st_mk (by omega) ((hab a _ ha).2 (by omega)), by omega⟩
    · exact .inl (by omega)
def besL (k a : Nat) : Nat := if a = k - 1 then 0 else if a = 0 then min (k - 1) 2 else 1
theorem bes_cases (k a : Nat) : (a = k - 1 ∧ besL k a = 0) ∨ (a ≠ k - 1 ∧ a = 0 ∧ besL k a = min (k - 1) 2) ∨ (a ≠ k - 1 ∧ a ≠ 0 ∧ besL k a = 1) := by
  unfold besL
  by_cases e : a = k - 1
  · exact .inl ⟨e, by rw [if_pos e]⟩
  · by_cases e0 : a = 0
    · exact .inr (.inl ⟨e, e0, by rw [if_neg e, if_pos e0]⟩)
    · exact .inr (.inr ⟨e, e0, by rw [if_neg e, if_neg e0]⟩)
theorem beside_right {k : Nat} (h1 : 1 ≤ k) (h2 : k ≤ 64) {xs : List Int} (h : IsClose k (besidePs k) xs) : rightB xs = true ∧ heightN xs = min (k - 1) 2 := by
  have hl := h.1
  have hab : ∀ i j, i < xs.length → (ab xs i j = true ↔ j < k ∧ (i = j ∨ i = 0 ∨ j = k - 1)) := fun i j hi => (close_ab h hi).trans (reach_beside k i j (hl ▸ hi))
  have hr : rightB xs = true := by
    refine right_intro ⟨by omega, by omega⟩ h.2.1 (fun i hi => (hab i i hi).2 (by omega)) (fun i j hi e => by have := (hab i j hi).1 e; omega) ?_ ?_ ?_ ?_
    · intro i j hi e1 e2
      have a1 := (hab i j hi).1 e1
      have a2 := (hab j i (by omega)).1 e2
      omega
    · intro i j m hi e1 e2
      have a1 := (hab i j hi).1 e1
      have a2 := (hab j m (by omega)).1 e2
      exact (hab i m hi).2 (by omega)
    · intro a b ha hb
      refine ⟨if a = b ∨ b = 0 then a else if a = 0 then b else k - 1, by split <;> (try split) <;> omega, (hab a _ ha).2 (by split <;> (try split) <;> omega), (hab b _ hb).2 (by split <;> (try split) <;> omega), fun m hm e1 e2 => ?_⟩
      have a1 := (hab a m ha).1 e1
      have a2 := (hab b m hb).1 e2
      exact (hab _ m (by split <;> (try split) <;> omega)).2 (by split <;> (try split) <;> omega)
    · intro a b ha hb
      refine ⟨if a = b ∨ b = k - 1 then a else if a = k - 1 then b else 0, by split <;> (try split) <;> omega, (hab _ a (by split <;> (try split) <;> omega)).2 (by split <;> (try split) <;> omega), (hab _ b (by split <;> (try split) <;> omega)).2 (by split <;> (try split) <;> omega), fun m hm e1 e2 => ?_⟩
      have a1 := (hab m a hm).1 e1
      have a2 := (hab m b hm).1 e2
      exact (hab m _ hm).2 (by split <;> (try split) <;> omega)
  refine ⟨hr, ?_⟩
  have hL := bes_cases k
  have top := hL 0
  rw [height_is (right_ord hr) h.2.1 (L := besL k) (t := 0) ?_ ?_ (by omega) (fun a ha => by have := hL a; omega)]
  · omega
  · intro a b ha hs
    have := st_ab hs
    have a1 := (hab a b ha).1 this.2
    have la := hL a
    have lb := hL b
    omega
  · intro a ha
    have la := hL a
    by_cases e : a = k - 1
    · exact .inl (by omega)
    · by_cases e0 : a = 0
      · by_cases e2 : k ≤ 2
        · exact .inr ⟨k - 1, by omega, st_mk (by omega) ((hab a _ ha).2 (by omega)), by have := hL (k - 1); omega⟩
        · exact .inr ⟨1, by omega, st_mk (by omega) ((hab a _ ha).2 (by omega)), by have := hL 1; omega⟩
      · exact .inr ⟨k - 1, by omega, st_mk (by omega) ((hab a _ ha).2 (by omega)), by have := hL (k - 1); omega⟩
end Go.Proofs.YtkoofibhddkpiaaDoor.LL

/-! the walk of layer 5's reference: Close -/
namespace Go.Proofs.YtkoofibhddkpiaaDoor
open Go.RowKit

theorem Tryd.infoU64 : (Tryd.prog.info? 47).map (fun i => (i.zero, i.size, i.bytes)) = some (some (.int .u64 0), 1, 8) := by kernel_rfl
/-- the call's own row of masks -/
def Row5 (g n : Nat) (S : List Int) (w : World) : Prop := w.ownsRow g 47 1 (.slice (some ⟨g, 0, none⟩) n n) n (S.map (Value.int .u64))
theorem Row5.made (w : World) (n : Nat) (hn : n ≤ maxLen) : Row5 w.heap.size n (List.replicate n 0) (w.alloc (.cells (madeCells #[Value.int .u64 0] n) 47)) := by
  have h := World.ownsRow_lit (base := w.heap.size) (e := 47) (size := 1) w (madeCells #[Value.int .u64 0] n) n (Nat.le_refl _) hn (by rw [size_madeCells]; omega)
  rw [toList_madeCells_one] at h
  unfold Row5
  rw [List.map_replicate]
  exact h
theorem Row5.cell {g n : Nat} {S : List Int} {w : World} (h : Row5 g n S w) (hl : S.length = n) {i : Nat} (hi : i < n) : w.cell? ⟨g, i, none⟩ = some (.int .u64 (S[i]?.getD 0)) := by
  have := World.ownsRow.cellAt h i (by omega)
  rw [this, List.getElem?_map, List.getElem?_eq_getElem (by omega)]
  rfl
theorem Row5.frozen {g n : Nat} {S : List Int} {w : World} (h : Row5 g n S w) (i : Nat) : w.frozen? ⟨g, i, none⟩ = false := World.ownsRow.frozenAt h i
theorem Row5.set {g n : Nat} {S : List Int} {w : World} (h : Row5 g n S w) (i : Nat) (x : Int) : Row5 g n (S.set i x) (w.setCell ⟨g, i, none⟩ (.int .u64 x)) := by
  have := (World.ownsRow.stored h i (.int .u64 x)).1
  unfold Row5
  rw [List.map_set]
  exact this
theorem Row5.nums {g n : Nat} {S : List Int} {w : World} (h : Row5 g n S w) (hl : S.length = n) : Nums .u64 w.heap.size w (.slice (some ⟨g, 0, none⟩) n n) S := by
  subst hl
  exact nums_of_row h
theorem Row5.drewN {g n : Nat} {S : List Int} {w : World} (h : Row5 g n S w) (d : Nat) : Row5 g n S (w.drewN d) := h

/-- pairs that came in: a slice of arrays of two numbers, in a block below n₀ -/
def Prs (n₀ : Nat) (W : World) (v : Value) (ps : List (Nat × Nat)) : Prop :=
  ((∃ a cap, v = .slice a 0 cap) ∧ ps = []) ∨ ∃ b off cap, v = .slice (some ⟨b, off, none⟩) ps.length cap ∧ b < n₀ ∧ ps.length ≤ cap ∧
    ∀ j, j < ps.length → W.cell? ⟨b, off + j * 2, none⟩ = some (.int .i64 ((ps[j]?.getD (0, 0)).1 : Int)) ∧ W.cell? ⟨b, off + j * 2 + 1, none⟩ = some (.int .i64 ((ps[j]?.getD (0, 0)).2 : Int))

/-- each level in its own mask, of the first k -/
def ones5 (n k : Nat) : List Int := (List.range n).map (fun j => if j < k then MM.bitI (j : Int) else 0)
theorem ones5_zero (n : Nat) : List.replicate n (0 : Int) = ones5 n 0 := by
  unfold ones5
  apply List.ext_getElem?
  intro j
  by_cases hj : j < n
  · rw [List.getElem?_replicate, if_pos hj, List.getElem?_map, List.getElem?_range hj]; rfl
  · rw [List.getElem?_eq_none (by simp; omega), List.getElem?_eq_none (by simp; omega)]
theorem ones5_len (n k : Nat) : (ones5 n k).length = n := by unfold ones5; simp
theorem ones5_step (n k : Nat) (h : k < n) : (ones5 n k).set k (MM.bitI (k : Int)) = ones5 n (k + 1) := by
  unfold ones5
  apply List.ext_getElem?
  intro j
  rw [List.getElem?_set]
  by_cases hj : j < n
  · rw [List.getElem?_map, List.getElem?_map, List.getElem?_range hj]
    by_cases e : k = j
    · subst e; simp [h]
    · rw [if_neg e]
      simp only [Option.map_some]
      by_cases hk : j < k
      · rw [if_pos hk, if_pos (by omega)]
      · rw [if_neg hk, if_neg (by omega)]
  · rw [if_neg (by omega), List.getElem?_eq_none (by simp; omega), List.getElem?_eq_none (by simp; omega)]
/-- .. and the first k of the pairs -/
def with5 (S : List Int) (p : Nat × Nat) : List Int := S.set p.1 (MM.withI (S[p.1]?.getD 0) (p.2 : Int))
def pairs5 (n : Nat) (ps : List (Nat × Nat)) (k : Nat) : List Int := (ps.take k).foldl with5 (ones5 n n)
theorem pairs5_step (n : Nat) (ps : List (Nat × Nat)) (k : Nat) (h : k < ps.length) : with5 (pairs5 n ps k) (ps[k]?.getD (0, 0)) = pairs5 n ps (k + 1) := by
  unfold pairs5
  rw [List.take_succ_eq_append_getElem h, List.foldl_append, List.getElem?_eq_getElem h]; rfl
theorem pairs5_len (n : Nat) (ps : List (Nat × Nat)) (k : Nat) : (pairs5 n ps k).length = n := by
  unfold pairs5
  have : ∀ (l : List (Nat × Nat)) (S : List Int), S.length = n → (l.foldl with5 S).length = n := by
    intro l
    induction l with
    | nil => intro S h; exact h
    | cons p l ih => intro S h; exact ih _ (by unfold with5; rw [List.length_set]; exact h)
  exact this _ _ (ones5_len n n)

theorem ones5_wide (n : Nat) : Wide (ones5 n n) := by
  intro x hx
  unfold ones5 at hx
  obtain ⟨j, _, rfl⟩ := List.mem_map.1 hx
  have := MM.bitI_bd (j : Int)
  split <;> omega
theorem pairs5_wide (n : Nat) (ps : List (Nat × Nat)) (k : Nat) : Wide (pairs5 n ps k) := by
  unfold pairs5
  have : ∀ (l : List (Nat × Nat)) (S : List Int), Wide S → Wide (l.foldl with5 S) := by
    intro l
    induction l with
    | nil => intro S h; exact h
    | cons p l ih =>
      intro S h
      refine ih _ ?_
      unfold with5
      have b := MM.withI_bd (S[p.1]?.getD 0) (p.2 : Int) (h.at _).1 (h.at _).2
      exact LL.wide_set h _ _ b.1 b.2
  exact this _ _ (ones5_wide n)

theorem has_withI (m : Int) (i j : Nat) (m0 : 0 ≤ m) (hi : i < 64) (hj : j < 64) : MM.hasB (MM.withI m (i : Int)) (j : Int) = (MM.hasB m (j : Int) || decide (i = j)) := by
  unfold MM.hasB MM.withI
  rw [if_pos (by omega), Int.toNat_natCast, Int.toNat_natCast, Int.toNat_natCast, Nat.testBit_or, Nat.testBit_two_pow, decide_eq_true (show 0 ≤ (j : Int) ∧ (j : Int) < 64 by omega), Bool.true_and, Bool.true_and]
theorem hasB_out (m : Int) (j : Nat) (hj : ¬ j < 64) : MM.hasB m (j : Int) = false := by
  unfold MM.hasB; rw [decide_eq_false (by omega), Bool.false_and]
theorem has_bitI (i j : Nat) (hi : i < 64) : MM.hasB (MM.bitI (i : Int)) (j : Int) = decide (i = j) := by
  by_cases hj : j < 64
  · unfold MM.hasB
    rw [MM.bitI_in (by omega) (by omega), Int.toNat_natCast, Int.toNat_natCast, Int.toNat_natCast, Nat.testBit_two_pow, decide_eq_true (show 0 ≤ (j : Int) ∧ (j : Int) < 64 by omega), Bool.true_and]
  · rw [hasB_out _ _ hj, decide_eq_false (by omega)]
theorem ab_ones (n i j : Nat) (hn : n ≤ 64) (hi : i < n) : LL.ab (ones5 n n) i j = decide (i = j) := by
  unfold LL.ab ones5
  rw [List.getElem?_map, List.getElem?_range hi]
  simp only [Option.map_some, Option.getD_some, if_pos hi]
  exact has_bitI i j (by omega)
theorem ab_with (S : List Int) (n : Nat) (p : Nat × Nat) (i j : Nat) (hw : Wide S) (hl : S.length = n) (hn : n ≤ 64) (h1 : p.1 < n) (h2 : p.2 < n) :
    LL.ab (with5 S p) i j = true ↔ LL.ab S i j = true ∨ (i, j) = p := by
  obtain ⟨p1, p2⟩ := p
  simp only at h1 h2
  unfold LL.ab with5
  rw [LL.get_set _ _ _ _ (by rw [hl]; exact h1)]
  by_cases e : i = p1
  · subst e
    rw [if_pos rfl]
    by_cases hj : j < 64
    · rw [has_withI _ _ _ (hw.at i).1 (by omega) hj, Bool.or_eq_true, decide_eq_true_eq]
      constructor
      · rintro (h | h)
        · exact .inl h
        · exact .inr (by have h' : p2 = j := h; rw [h'])
      · rintro (h | h)
        · exact .inl h
        · exact .inr (Prod.mk.inj h).2.symm
    · rw [hasB_out _ _ hj, hasB_out _ _ hj]
      have : j ≠ p2 := by omega
      simp [this]
  · rw [if_neg e]
    simp [e]
theorem ab_pairs (n : Nat) (ps : List (Nat × Nat)) (hn : n ≤ 64) (hp : ∀ p ∈ ps, p.1 < n ∧ p.2 < n) : ∀ k, k ≤ ps.length → ∀ i j, i < n → (LL.ab (pairs5 n ps k) i j = true ↔ i = j ∨ (i, j) ∈ ps.take k) := by
  intro k
  induction k with
  | zero =>
    intro _ i j hi
    show LL.ab (ones5 n n) i j = true ↔ _
    rw [ab_ones n i j hn hi]; simp
  | succ k ih =>
    intro hk i j hi
    have hmem : ps[k] ∈ ps := List.getElem_mem (by omega)
    rw [← pairs5_step n ps k (by omega), List.getElem?_eq_getElem (by omega : k < ps.length)]
    simp only [Option.getD_some]
    rw [ab_with _ n _ i j (pairs5_wide n ps k) (pairs5_len n ps k) hn (hp _ hmem).1 (hp _ hmem).2, ih (by omega) i j hi, List.take_succ_eq_append_getElem (by omega : k < ps.length), List.mem_append, List.mem_singleton, or_assoc]
theorem pairs5_inv (n : Nat) (ps : List (Nat × Nat)) (hn : n ≤ 64) (hp : ∀ p ∈ ps, p.1 < n ∧ p.2 < n) : LL.Inv n ps (pairs5 n ps ps.length) ∧ LL.Comp n ps (pairs5 n ps ps.length) := by
  have h := ab_pairs n ps hn hp ps.length (Nat.le_refl _)
  rw [List.take_of_length_le (Nat.le_refl _)] at h
  refine ⟨⟨pairs5_len n ps _, pairs5_wide n ps _, fun i k hi e => ?_⟩, fun i hi => (h i i hi).2 (.inl rfl), fun p hm => (h p.1 p.2 (hp p hm).1).2 (.inr hm)⟩
  rcases (h i k hi).1 e with rfl | hm
  · exact ⟨hi, .refl⟩
  · exact ⟨(hp _ hm).2, .one hm⟩
theorem Prs.at {n₀ : Nat} {W : World} {a : Option Addr} {cap : Nat} {ps : List (Nat × Nat)} (h : Prs n₀ W (.slice a ps.length cap) ps) (h0 : 0 < ps.length) :
    ∃ b off, a = some ⟨b, off, none⟩ ∧ b < n₀ ∧ ∀ j, j < ps.length → W.cell? ⟨b, off + j * 2, none⟩ = some (.int .i64 ((ps[j]?.getD (0, 0)).1 : Int)) ∧ W.cell? ⟨b, off + j * 2 + 1, none⟩ = some (.int .i64 ((ps[j]?.getD (0, 0)).2 : Int)) := by
  rcases h with ⟨_, rfl⟩ | ⟨b, off, cap', e, hb, _, hc⟩
  · exact absurd h0 (by simp)
  · simp only [Value.slice.injEq] at e
    exact ⟨b, off, e.1, hb, hc⟩
theorem Prs.form {n₀ : Nat} {W : World} {v : Value} {ps : List (Nat × Nat)} (h : Prs n₀ W v ps) : ∃ a cap, v = .slice a ps.length cap := by
  rcases h with ⟨⟨a, cap, rfl⟩, rfl⟩ | ⟨b, off, cap, rfl, _⟩
  · exact ⟨_, _, rfl⟩
  · exact ⟨_, _, rfl⟩

end Go.Proofs.YtkoofibhddkpiaaDoor

/-! the walk of layer 5's reference: Build -/
namespace Go.Proofs.YtkoofibhddkpiaaDoor
open Go.RowKit

/-- pairs of any numbers that came in -/
def PrsI (n₀ : Nat) (W : World) (v : Value) (ps : List (Int × Int)) : Prop :=
  ((∃ a cap, v = .slice a 0 cap) ∧ ps = []) ∨ ∃ b off cap, v = .slice (some ⟨b, off, none⟩) ps.length cap ∧ b < n₀ ∧ ps.length ≤ cap ∧
    ∀ j, j < ps.length → W.cell? ⟨b, off + j * 2, none⟩ = some (.int .i64 (ps[j]?.getD (0, 0)).1) ∧ W.cell? ⟨b, off + j * 2 + 1, none⟩ = some (.int .i64 (ps[j]?.getD (0, 0)).2)
def toPrs (ps : List (Int × Int)) : List (Nat × Nat) := ps.map fun p => (p.1.toNat, p.2.toNat)
def pairOk (n : Nat) (p : Int × Int) : Bool := (decide (0 ≤ p.1) && decide (p.1 < n)) && (decide (0 ≤ p.2) && decide (p.2 < n))
theorem PrsI.nat {n₀ : Nat} {W : World} {v : Value} {ps : List (Int × Int)} {n : Nat} (h : PrsI n₀ W v ps) (hp : ∀ p ∈ ps, pairOk n p = true) : Prs n₀ W v (toPrs ps) := by
  have hl : (toPrs ps).length = ps.length := by unfold toPrs; simp
  rcases h with ⟨e, rfl⟩ | ⟨b, off, cap, e, hb, hc, hcell⟩
  · exact .inl ⟨e, rfl⟩
  · refine .inr ⟨b, off, cap, by rw [hl]; exact e, hb, by rw [hl]; exact hc, fun j hj => ?_⟩
    rw [hl] at hj
    have h := hcell j hj
    have ok := hp _ (List.getElem_mem hj)
    unfold pairOk at ok
    simp only [Bool.and_eq_true, decide_eq_true_eq] at ok
    unfold toPrs
    rw [List.getElem?_map]
    rw [List.getElem?_eq_getElem hj] at h ⊢
    simp only [Option.getD_some, Option.map_some] at h ⊢
    rw [show ((ps[j].1.toNat : Nat) : Int) = ps[j].1 by omega, show ((ps[j].2.toNat : Nat) : Int) = ps[j].2 by omega]
    exact h
theorem toPrs_ok {ps : List (Int × Int)} {n : Nat} (hp : ∀ p ∈ ps, pairOk n p = true) : ∀ p ∈ toPrs ps, p.1 < n ∧ p.2 < n := by
  intro p hm
  unfold toPrs at hm
  obtain ⟨q, hq, rfl⟩ := List.mem_map.1 hm
  have ok := hp q hq
  unfold pairOk at ok
  simp only [Bool.and_eq_true, decide_eq_true_eq] at ok
  exact ⟨by show q.1.toNat < n; omega, by show q.2.toNat < n; omega⟩
theorem PrsI.form {n₀ : Nat} {W : World} {v : Value} {ps : List (Int × Int)} (h : PrsI n₀ W v ps) : ∃ a cap, v = .slice a ps.length cap := by
  rcases h with ⟨⟨a, cap, rfl⟩, rfl⟩ | ⟨b, off, cap, rfl, _⟩
  · exact ⟨_, _, rfl⟩
  · exact ⟨_, _, rfl⟩
theorem PrsI.at {n₀ : Nat} {W : World} {a : Option Addr} {cap : Nat} {ps : List (Int × Int)} (h : PrsI n₀ W (.slice a ps.length cap) ps) (h0 : 0 < ps.length) :
    ∃ b off, a = some ⟨b, off, none⟩ ∧ b < n₀ ∧ ∀ j, j < ps.length → W.cell? ⟨b, off + j * 2, none⟩ = some (.int .i64 (ps[j]?.getD (0, 0)).1) ∧ W.cell? ⟨b, off + j * 2 + 1, none⟩ = some (.int .i64 (ps[j]?.getD (0, 0)).2) := by
  rcases h with ⟨_, rfl⟩ | ⟨b, off, cap', e, hb, _, hc⟩
  · exact absurd h0 (by simp)
  · simp only [Value.slice.injEq] at e
    exact ⟨b, off, e.1, hb, hc⟩
theorem Prs.below {n₀ : Nat} {A B : World} {v : Value} {ps : List (Nat × Nat)} (h : Below n₀ A B) : Prs n₀ A v ps → Prs n₀ B v ps
  | .inl e => .inl e
  | .inr ⟨b, off, cap, e, hb, hl, hc⟩ => .inr ⟨b, off, cap, e, hb, hl, fun j hj => ⟨(h.cell (p := ⟨b, off + j * 2, none⟩) hb).trans (hc j hj).1, (h.cell (p := ⟨b, off + j * 2 + 1, none⟩) hb).trans (hc j hj).2⟩⟩

/-- what Build answers: the masks of the least order, if it is a lattice; else none, and an error's number -/
def BuildRel (n : Int) (ps : List (Int × Int)) (base : Nat) (e : Ending) (W : World) : Prop :=
  (¬ (1 ≤ n ∧ n ≤ 64 ∧ ∀ p ∈ ps, pairOk n.toNat p = true) ∧ e = .returned (.tuple #[.slice none 0 0, .int .i64 1])) ∨
  (1 ≤ n ∧ n ≤ 64 ∧ (∀ p ∈ ps, pairOk n.toNat p = true) ∧ ∃ S, LL.IsClose n.toNat (toPrs ps) S ∧
    ((LL.rightB S = true ∧ ∃ g, base ≤ g ∧ e = .returned (.tuple #[.slice (some ⟨g, 0, none⟩) n.toNat n.toNat, .int .i64 0]) ∧ Row5 g n.toNat S W) ∨
     (LL.rightB S = false ∧ e = .returned (.tuple #[.slice none 0 0, .int .i64 11]))))

theorem BuildRel.world {n : Int} {ps : List (Int × Int)} {base : Nat} {x : Int} {w w' : World} (h : BuildRel n ps base (.returned (.tuple #[.slice none 0 0, .int .i64 x])) w) : BuildRel n ps base (.returned (.tuple #[.slice none 0 0, .int .i64 x])) w' := by
  rcases h with h | ⟨h1, h2, h3, S, h4, ⟨h5, g, h6, h7, h8⟩ | h5⟩
  · exact .inl h
  · simp at h7
  · exact .inr ⟨h1, h2, h3, S, h4, .inr h5⟩

end Go.Proofs.YtkoofibhddkpiaaDoor

/-! the walk of layer 5's reference: Height -/
namespace Go.Proofs.YtkoofibhddkpiaaDoor
open Go.RowKit

theorem Tryd.infoInt5 : (Tryd.prog.info? 3).map (fun i => (i.zero, i.size, i.bytes)) = some (some (.int .i64 0), 1, 8) := by kernel_rfl
/-- the call's own row of numbers -/
def RowN (g n : Nat) (M : List Nat) (w : World) : Prop := w.ownsRow g 3 1 (.slice (some ⟨g, 0, none⟩) n n) n (M.map fun (m : Nat) => Value.int .i64 (m : Int))
theorem RowN.made (w : World) (n : Nat) (hn : n ≤ maxLen) : RowN w.heap.size n (List.replicate n 0) (w.alloc (.cells (madeCells #[Value.int .i64 0] n) 3)) := by
  have h := World.ownsRow_lit (base := w.heap.size) (e := 3) (size := 1) w (madeCells #[Value.int .i64 0] n) n (Nat.le_refl _) hn (by rw [size_madeCells]; omega)
  rw [toList_madeCells_one] at h
  unfold RowN
  rw [List.map_replicate]
  exact h
theorem RowN.cell {g n : Nat} {M : List Nat} {w : World} (h : RowN g n M w) (hl : M.length = n) {i : Nat} (hi : i < n) : w.cell? ⟨g, i, none⟩ = some (.int .i64 ((M[i]?.getD 0 : Nat) : Int)) := by
  have := World.ownsRow.cellAt h i (by omega)
  rw [this, List.getElem?_map, List.getElem?_eq_getElem (by omega)]
  rfl
theorem RowN.frozen {g n : Nat} {M : List Nat} {w : World} (h : RowN g n M w) (i : Nat) : w.frozen? ⟨g, i, none⟩ = false := World.ownsRow.frozenAt h i
theorem RowN.set {g n : Nat} {M : List Nat} {w : World} (h : RowN g n M w) (i x : Nat) : RowN g n (M.set i x) (w.setCell ⟨g, i, none⟩ (.int .i64 (x : Int))) := by
  have := (World.ownsRow.stored h i (.int .i64 (x : Int))).1
  unfold RowN
  rw [List.map_set]
  exact this
theorem RowN.drewN {g n : Nat} {M : List Nat} {w : World} (h : RowN g n M w) (d : Nat) : RowN g n M (w.drewN d) := h

end Go.Proofs.YtkoofibhddkpiaaDoor

/-! what the statements of layer 5 ask of the project's functions, as hypotheses; awake -/
namespace Go.Proofs.YtkoofibhddkpiaaDoor
open Go.RowKit

/-- are a and b levels of a lattice? -/
def inB5 (xs : List Int) (a b : Int) : Bool := (decide (0 ≤ a) && decide (a < xs.length)) && ((decide (0 ≤ b) && decide (b < xs.length)) && LL.rightB xs)
abbrev big5 : Nat := 17592186044416
def RightC : Prop := ∀ (v : Value) (xs : List Int) (n₀ : Nat) (w : World), Nums .u64 n₀ w v xs → n₀ ≤ w.heap.size → Wide xs → xs.length ≤ big5 → Tz w →
  Calls Tryd.prog 15 #[v] w fun e w' => e = .returned (.bool (LL.rightB xs)) ∧ Below w.heap.size w w'
/-- what the project's Build answers -/
def BuildP (n : Int) (ps : List (Int × Int)) (e : Ending) (W : World) : Prop :=
  ∃ (v : Value) (S : List Int) (k : Int), e = .returned (.tuple #[v, .int .i64 k]) ∧ Nums .u64 W.heap.size W v S ∧ Wide S ∧
    ((¬ (1 ≤ n ∧ n ≤ 64 ∧ ∀ p ∈ ps, pairOk n.toNat p = true) ∧ S = [] ∧ k = 1) ∨
     (1 ≤ n ∧ n ≤ 64 ∧ (∀ p ∈ ps, pairOk n.toNat p = true) ∧ ∃ T, LL.IsClose n.toNat (toPrs ps) T ∧ ((LL.rightB T = true ∧ S = T ∧ k = 0) ∨ (LL.rightB T = false ∧ S = [] ∧ k = 11))))
/-! the chapter's first example -/
def ex5 : List (Int × Int) := [(0, 1), (0, 2), (1, 3), (2, 3)]
def up5 : List Int := [15, 10, 12, 8]
theorem up5_wide : Wide up5 := by
  intro x hx
  simp [up5] at hx
  omega
theorem up5_close : LL.IsClose 4 (toPrs ex5) up5 := by
  have h3 : LL.Reach (toPrs ex5) 0 3 := (LL.Reach.one (k := 0) (m := 1) (by decide)).trans (.one (by decide))
  refine LL.close_of ⟨rfl, up5_wide, fun i k hi e => ?_⟩ ⟨by decide +kernel, by decide +kernel⟩ (by unfold LL.Closed; decide +kernel)
  have hk : k < 64 := by
    apply Classical.byContradiction; intro h
    unfold LL.ab at e
    rw [hasB_out _ _ h] at e
    cases e
  have key : (List.range 4).all (fun i => (List.range 64).all fun k => !LL.ab up5 i k || decide ((i, k) ∈ [(0, 0), (0, 1), (0, 2), (0, 3), (1, 1), (1, 3), (2, 2), (2, 3), (3, 3)])) = true := by decide +kernel
  have hm := List.all_eq_true.1 (List.all_eq_true.1 key i (List.mem_range.2 hi)) k (List.mem_range.2 hk)
  rw [e, Bool.not_true, Bool.false_or, decide_eq_true_eq] at hm
  simp only [List.mem_cons, List.mem_nil_iff, or_false, Prod.mk.injEq] at hm
  rcases hm with ⟨rfl, rfl⟩ | ⟨rfl, rfl⟩ | ⟨rfl, rfl⟩ | ⟨rfl, rfl⟩ | ⟨rfl, rfl⟩ | ⟨rfl, rfl⟩ | ⟨rfl, rfl⟩ | ⟨rfl, rfl⟩ | ⟨rfl, rfl⟩
  · exact ⟨by omega, .refl⟩
  · exact ⟨by omega, .one (by decide)⟩
  · exact ⟨by omega, .one (by decide)⟩
  · exact ⟨by omega, h3⟩
  · exact ⟨by omega, .refl⟩
  · exact ⟨by omega, .one (by decide)⟩
  · exact ⟨by omega, .refl⟩
  · exact ⟨by omega, .one (by decide)⟩
  · exact ⟨by omega, .refl⟩
theorem up5_right : LL.rightB up5 = true := by decide +kernel
theorem up5_height : LL.heightN up5 = 2 := by decide +kernel
theorem up5_nums (W : World) : Nums .u64 (W.heap.size + 1) (W.alloc (.cells #[.int .u64 15, .int .u64 10, .int .u64 12, .int .u64 8] 47)) (.slice (some ⟨W.heap.size, 0, none⟩) 4 4) up5 := by
  refine .inr ⟨W.heap.size, 0, 4, rfl, by omega, Nat.le_refl _, fun j hj => ?_⟩
  have e : (W.alloc (.cells #[.int .u64 15, .int .u64 10, .int .u64 12, .int .u64 8] 47)).heap[W.heap.size]? = some (.cells #[.int .u64 15, .int .u64 10, .int .u64 12, .int .u64 8] 47) := by show (W.heap.push _)[W.heap.size]? = _; simp
  have hj4 : j < 4 := hj
  simp only [World.cell?, e]
  rcases (show j = 0 ∨ j = 1 ∨ j = 2 ∨ j = 3 by omega) with rfl | rfl | rfl | rfl <;> rfl

end Go.Proofs.YtkoofibhddkpiaaDoor

/-! what the laws of layer 5 call: told, and the project's Join, Meet, Leq at two levels of a lattice -/
namespace Go.Proofs.YtkoofibhddkpiaaDoor
open Go.RowKit
theorem inB_yes {xs : List Int} (hr : LL.rightB xs = true) {a b : Nat} (ha : a < xs.length) (hb : b < xs.length) : inB5 xs a b = true := by
  unfold inB5
  rw [hr, decide_eq_true (show (0 : Int) ≤ a by omega), decide_eq_true (show (a : Int) < xs.length by omega), decide_eq_true (show (0 : Int) ≤ b by omega), decide_eq_true (show (b : Int) < xs.length by omega)]; rfl
theorem wf_lev {xs : List Int} (hr : LL.rightB xs = true) {a : Nat} (ha : a < xs.length) : (Lit.int .i64 (a : Int)).wf = true := by
  have := (LL.ord_len (LL.right_ord hr)).2
  simp only [Lit.wf, Bool.and_eq_true, decide_eq_true_eq]
  exact ⟨show (-9223372036854775808 : Int) ≤ (a : Int) by omega, show (a : Int) ≤ (9223372036854775807 : Int) by omega⟩
section
variable {v : Value} {xs : List Int} {w W : World} {a b : Nat}
end
end Go.Proofs.YtkoofibhddkpiaaDoor
