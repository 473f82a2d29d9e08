import Derived.Test.YtbdmpilaeoclgaaDomQ
set_option linter.unusedSimpArgs false
set_option linter.unusedVariables false
/-! plain: trees in numbers, and their chains -/
namespace Go.Proofs.Ytbdmpilaeoclgaa.DD
open GG
/-- the numbers of a list as a tree's -/
def fnOf (xs : List Int) (k : Nat) : Int := xs[k]?.getD (-1)
theorem fnOf_at {xs : List Int} {k : Nat} (h : k < xs.length) : fnOf xs k = xs[k]?.getD 0 := by unfold fnOf; rw [List.getElem?_eq_getElem h]; rfl
theorem fnOf_out {xs : List Int} {k : Nat} (h : xs.length ≤ k) : fnOf xs k = -1 := by unfold fnOf; rw [List.getElem?_eq_none h]; rfl
theorem fnOf_range {n : Nat} {T : Nat → Int} (h : ∀ k, n ≤ k → T k = -1) : fnOf ((List.range n).map T) = T := by
  funext k
  unfold fnOf
  by_cases e : k < n
  · rw [List.getElem?_map, List.getElem?_range e]; rfl
  · rw [List.getElem?_eq_none (by simp; omega), h k (by omega)]; rfl
/-- a tree -/
def TreeP (xs : List Int) : Prop := (1 ≤ xs.length ∧ xs.length ≤ 256) ∧ fnOf xs 0 = -1 ∧ ∀ i, i < xs.length → Up (fnOf xs) i 0
open Classical in
noncomputable def treeB (xs : List Int) : Bool := decide (TreeP xs)
theorem treeB_iff {xs : List Int} : treeB xs = true ↔ TreeP xs := by unfold treeB; simp
theorem treeB_no {xs : List Int} (h : ¬ TreeP xs) : treeB xs = false := by
  cases e : treeB xs
  · rfl
  · exact absurd (treeB_iff.1 e) h
theorem up_zero_lt {xs : List Int} (h0 : 0 < xs.length) {k : Nat} (h : Up (fnOf xs) k 0) : k < xs.length := by
  rcases h.head with e | ⟨j, hj, _⟩
  · omega
  · rcases Nat.lt_or_ge k xs.length with h' | h'
    · exact h'
    · rw [fnOf_out h'] at hj; omega
theorem TreeP.next {xs : List Int} (h : TreeP xs) {k : Nat} (hk : k < xs.length) (h0 : k ≠ 0) : ∃ j : Nat, fnOf xs k = (j : Int) ∧ j < xs.length := by
  rcases (h.2.2 k hk).head with e | ⟨j, hj, hu⟩
  · exact absurd e.symm h0
  · exact ⟨j, hj, up_zero_lt (by have := h.1; omega) hu⟩
/-- a chain: a number, the number of that, and so on, till there is none -/
inductive ChR (T : Nat → Int) (n : Nat) : Int → List Nat → Prop
  | nil : ChR T n (-1) []
  | cons {k : Nat} {l : List Nat} (hk : k < n) (h : ChR T n (T k) l) : ChR T n (k : Int) (k :: l)
theorem ChR.det {T : Nat → Int} {n : Nat} {c : Int} {l : List Nat} (h : ChR T n c l) : ∀ {l' : List Nat}, ChR T n c l' → l = l' := by
  induction h with
  | nil =>
    intro l' h'
    generalize hc : (-1 : Int) = c at h'
    cases h' with
    | nil => rfl
    | cons => omega
  | @cons k l hk h ih =>
    intro l' h'
    generalize hc : (k : Int) = c at h'
    cases h' with
    | nil => omega
    | @cons k' l2 hk' h2 =>
      have : k = k' := by omega
      subst this
      rw [ih h2]
theorem ChR.tail {T : Nat → Int} {n : Nat} {c : Int} {l : List Nat} (h : ChR T n c l) {x : Nat} (hx : x ∈ l) : ∃ l', ChR T n (x : Int) l' ∧ l'.length ≤ l.length := by
  induction h with
  | nil => cases hx
  | @cons k l hk h ih =>
    rcases List.mem_cons.1 hx with e | hx
    · subst e; exact ⟨_, .cons hk h, Nat.le_refl _⟩
    · obtain ⟨l', h1, h2⟩ := ih hx
      exact ⟨l', h1, by simp; omega⟩
theorem ChR.nodup {T : Nat → Int} {n : Nat} {c : Int} {l : List Nat} (h : ChR T n c l) : l.Nodup := by
  induction h with
  | nil => exact List.nodup_nil
  | @cons k l hk h ih =>
    rw [List.nodup_cons]
    refine ⟨fun hm => ?_, ih⟩
    obtain ⟨l', h1, h2⟩ := h.tail hm
    have := h1.det (.cons hk h)
    subst this
    simp at h2
    omega
theorem ChR.lt {T : Nat → Int} {n : Nat} {c : Int} {l : List Nat} (h : ChR T n c l) : ∀ x ∈ l, x < n := by
  induction h with
  | nil => intro x hx; cases hx
  | cons hk h ih =>
    intro x hx
    rcases List.mem_cons.1 hx with rfl | hx
    · exact hk
    · exact ih x hx
theorem ChR.len {T : Nat → Int} {n : Nat} {c : Int} {l : List Nat} (h : ChR T n c l) : l.length ≤ n := pigeon n l h.lt h.nodup
theorem ChR.mem_up {T : Nat → Int} {n : Nat} {c : Int} {l : List Nat} (h : ChR T n c l) : ∀ {k : Nat}, c = (k : Int) → ∀ x, x ∈ l ↔ Up T k x := by
  induction h with
  | nil => intro k e; omega
  | @cons k l hk h ih =>
    intro k' e x
    have : k = k' := by omega
    subst this
    rw [List.mem_cons]
    constructor
    · rintro (rfl | hx)
      · exact .refl _
      · generalize hc : T k = c at h
        cases h with
        | nil => cases hx
        | @cons j l2 hj h2 => exact .step hc ((ih (by rw [hc]) x).1 hx)
    · intro hu
      rcases hu.head with e | ⟨j, hj, hu'⟩
      · exact .inl e
      · exact .inr ((ih hj x).2 hu')
theorem ChR.of_up {T : Nat → Int} {n : Nat} (h0 : T 0 = -1) (hn : 0 < n) (hout : ∀ k, n ≤ k → T k = -1) {k : Nat} (h : Up T k 0) : ∃ l, ChR T n (k : Int) l := by
  have : ∀ {k z : Nat}, Up T k z → z = 0 → ∃ l, ChR T n (k : Int) l := by
    intro k z h
    induction h with
    | refl k =>
      intro e; subst e
      exact ⟨[0], .cons hn (by rw [h0]; exact .nil)⟩
    | @step k j a h _ ih =>
      intro e
      obtain ⟨l, hl⟩ := ih e
      refine ⟨k :: l, .cons ?_ (by rw [h]; exact hl)⟩
      rcases Nat.lt_or_ge k n with h' | h'
      · exact h'
      · rw [hout k h'] at h; omega
  exact this h rfl
theorem TreeP.chain {xs : List Int} (h : TreeP xs) {a : Nat} (ha : a < xs.length) : ∃ l, ChR (fnOf xs) xs.length (a : Int) l :=
  ChR.of_up h.2.1 (by have := h.1; omega) (fun k hk => fnOf_out hk) (h.2.2 a ha)
open Classical in
/-- the chain of a number; none, if it is no tree, or no node -/
noncomputable def chainN (xs : List Int) (a : Int) : List Nat := if h : (treeB xs = true ∧ inB xs.length a = true) ∧ ∃ l, ChR (fnOf xs) xs.length a l then Classical.choose h.2 else []
theorem chainN_yes {xs : List Int} (h : treeB xs = true) {a : Nat} (ha : a < xs.length) : ChR (fnOf xs) xs.length (a : Int) (chainN xs a) := by
  unfold chainN
  have hin : inB xs.length (a : Int) = true := decide_eq_true (by omega)
  rw [dif_pos ⟨⟨h, hin⟩, (treeB_iff.1 h).chain ha⟩]
  exact Classical.choose_spec (p := fun l => ChR (fnOf xs) xs.length (a : Int) l) _
theorem chainN_no {xs : List Int} {a : Int} (h : ¬ (treeB xs = true ∧ inB xs.length a = true)) : chainN xs a = [] := by
  unfold chainN; rw [dif_neg (fun hh => h hh.1)]
theorem chainN_len (xs : List Int) (a : Int) : (chainN xs a).length ≤ 256 := by
  by_cases h : treeB xs = true ∧ inB xs.length a = true
  · have h2 := of_decide_eq_true h.2
    obtain ⟨k, rfl⟩ : ∃ k : Nat, a = (k : Int) := ⟨a.toNat, by omega⟩
    have := (chainN_yes h.1 (show k < xs.length by omega)).len
    have := (treeB_iff.1 h.1).1
    omega
  · rw [chainN_no h]; simp
noncomputable def chainL (xs : List Int) (a : Int) : List Int := (chainN xs a).map Int.ofNat
/-- is a in the chain of b? -/
noncomputable def domB (xs : List Int) (a b : Int) : Bool := decide (a ∈ chainL xs b)
theorem mem_chainL {xs : List Int} (h : treeB xs = true) {b : Nat} (hb : b < xs.length) (a : Int) : a ∈ chainL xs b ↔ ∃ k : Nat, a = (k : Int) ∧ Up (fnOf xs) b k := by
  have hc := chainN_yes h hb
  unfold chainL
  rw [List.mem_map]
  constructor
  · rintro ⟨k, hk, rfl⟩; exact ⟨k, rfl, (hc.mem_up rfl k).1 hk⟩
  · rintro ⟨k, rfl, hk⟩; exact ⟨k, (hc.mem_up rfl k).2 hk, rfl⟩
theorem domB_iff {xs : List Int} (h : treeB xs = true) {a b : Nat} (hb : b < xs.length) : domB xs a b = true ↔ Up (fnOf xs) b a := by
  unfold domB
  rw [decide_eq_true_iff, mem_chainL h hb]
  constructor
  · rintro ⟨k, e, hk⟩
    have : k = a := by omega
    subst this; exact hk
  · intro hk; exact ⟨a, rfl, hk⟩
/-- the first of a's chain that is in b's; -1: there is none -/
noncomputable def nearI (xs : List Int) (a b : Int) : Int := ((chainL xs a).find? fun x => decide (x ∈ chainL xs b)).getD (-1)
theorem chainL_nonneg {xs : List Int} {a : Int} : ∀ x ∈ chainL xs a, 0 ≤ x := by
  intro x hx
  obtain ⟨k, _, rfl⟩ := List.mem_map.1 hx
  exact Int.natCast_nonneg _

/-- the marks ahead of the node i: each is that from which its node was first come to -/
structure MK (xs : List Int) (i : Nat) (f : Nat → Int) : Prop where
  val : ∀ x, f x = 0 ∨ (1 ≤ f x ∧ f x < i ∧ x < xs.length)
  zero : f 0 = 0
  good : ∀ x, f x ≠ 0 → Up (fnOf xs) x 0
  all : ∀ x, 1 ≤ x → x < i → f x ≠ 0
/-- .. while it is gone up from i, as far as j -/
structure MI (xs : List Int) (i j : Nat) (f : Nat → Int) : Prop where
  val : ∀ x, f x = 0 ∨ (1 ≤ f x ∧ f x ≤ i ∧ x < xs.length)
  zero : f 0 = 0
  good : ∀ x, f x ≠ 0 → f x ≠ i → Up (fnOf xs) x 0
  own : ∀ x, f x = i → Up (fnOf xs) x j ∧ ∃ y : Nat, fnOf xs x = (y : Int) ∧ (y = j ∨ f y = i)
  start : i = j ∨ f i = i
  all : ∀ x, 1 ≤ x → x < i → f x ≠ 0
theorem mk_first (xs : List Int) : MK xs 1 (fun _ => 0) := ⟨fun _ => .inl rfl, rfl, fun x h => absurd rfl h, fun x h1 h2 => by omega⟩
theorem MK.begin {xs : List Int} {i : Nat} {f : Nat → Int} (h : MK xs i f) (hi : 1 ≤ i) : MI xs i i f :=
  ⟨fun x => (h.val x).imp id (fun ⟨a, b, c⟩ => ⟨a, by omega, c⟩), h.zero, fun x h1 _ => h.good x h1, fun x hx => by have := h.val x; omega, .inl rfl, h.all⟩
theorem MI.step {xs : List Int} {i j j' : Nat} {f : Nat → Int} (h : MI xs i j f) (hi : 1 ≤ i) (hj0 : j ≠ 0) (hj : f j = 0) (hjn : j < xs.length) (he : fnOf xs j = (j' : Int)) : MI xs i j' (setI f j i) := by
  refine ⟨fun x => ?_, ?_, fun x h1 h2 => ?_, fun x hx => ?_, ?_, fun x h1 h2 => ?_⟩
  · unfold setI
    split
    · rename_i e; subst e; exact .inr ⟨by omega, by omega, hjn⟩
    · exact h.val x
  · unfold setI; rw [if_neg (fun e => hj0 e.symm)]; exact h.zero
  · unfold setI at h1 h2
    split at h1
    · rename_i e; rw [if_pos e] at h2; exact absurd rfl h2
    · rename_i e; rw [if_neg e] at h2; exact h.good x h1 h2
  · unfold setI at hx
    split at hx
    · rename_i e; subst e
      exact ⟨.one he, j', he, .inl rfl⟩
    · obtain ⟨hu, y, hy, hyy⟩ := h.own x hx
      refine ⟨hu.trans (.one he), y, hy, .inr ?_⟩
      unfold setI
      rcases hyy with e | e
      · rw [if_pos e]
      · split
        · rfl
        · exact e
  · right
    unfold setI
    rcases h.start with e | e
    · rw [if_pos e]
    · split
      · rfl
      · exact e
  · unfold setI
    split
    · omega
    · exact h.all x h1 h2
theorem MI.next {xs : List Int} {i j : Nat} {f : Nat → Int} (h : MI xs i j f) (hi : 1 ≤ i) (hj : j = 0 ∨ f j ≠ 0) (hn : f j ≠ i) : MK xs (i + 1) f := by
  have hj0 : Up (fnOf xs) j 0 := by
    rcases hj with e | e
    · rw [e]; exact .refl _
    · exact h.good j e hn
  refine ⟨fun x => (h.val x).imp id (fun ⟨a, b, c⟩ => ⟨a, by omega, c⟩), h.zero, fun x hx => ?_, fun x h1 h2 => ?_⟩
  · by_cases e : f x = i
    · exact (h.own x e).1.trans hj0
    · exact h.good x hx e
  · by_cases e : x = i
    · subst e
      rcases h.start with e | e
      · rcases hj with e2 | e2
        · omega
        · rw [e]; exact e2
      · omega
    · exact h.all x h1 (by omega)
theorem MI.ring {xs : List Int} {i j : Nat} {f : Nat → Int} (h : MI xs i j f) (hi : 1 ≤ i) (hj : f j = i) : ¬ TreeP xs := by
  intro ht
  have hjn : j < xs.length := by have := h.val j; omega
  have : ∀ {k z : Nat}, Up (fnOf xs) k z → f k = i → f z = i := by
    intro k z hu
    induction hu with
    | refl => exact id
    | @step k y a hy _ ih =>
      intro hk
      obtain ⟨_, y', hy', hyy⟩ := h.own k hk
      have : y = y' := by rw [hy] at hy'; omega
      subst this
      refine ih ?_
      rcases hyy with e | e
      · rw [e]; exact hj
      · exact e
  have := this (ht.2.2 j hjn) hj
  have := h.zero
  omega
theorem MK.tree {xs : List Int} {f : Nat → Int} {i : Nat} (h : MK xs i f) (hi : xs.length ≤ i) (hl : 1 ≤ xs.length ∧ xs.length ≤ 256) (h0 : fnOf xs 0 = -1) : TreeP xs :=
  ⟨hl, h0, fun k hk => by
    by_cases e : k = 0
    · subst e; exact .refl _
    · exact h.good k (h.all k (by omega) (by omega))⟩
theorem TreeP.node {xs : List Int} (h : TreeP xs) {j : Nat} (hj : j < xs.length) (h0 : j ≠ 0) : inB xs.length (fnOf xs j) = true := by
  obtain ⟨y, hy, hyn⟩ := h.next hj h0
  rw [hy]; exact decide_eq_true (by omega)
/-- how many are not marked yet -/
def freeN (n : Nat) (f : Nat → Int) : Nat := unv n (fun x => decide (f x ≠ 0))
theorem freeN_set {n : Nat} {f : Nat → Int} {j : Nat} {c : Int} (hj : j < n) (h : f j = 0) (hc : c ≠ 0) : freeN n (setI f j c) < freeN n f := by
  unfold freeN
  have := unv_set n (B := fun x => decide (f x ≠ 0)) hj (by simp [h])
  have e : (fun x => decide (setI f j c x ≠ 0)) = setB (fun x => decide (f x ≠ 0)) j := by
    funext x
    unfold setI setB
    by_cases e : x = j
    · rw [if_pos e, if_pos e]; exact decide_eq_true hc
    · rw [if_neg e, if_neg e]
  rw [e]; exact this
end Go.Proofs.Ytbdmpilaeoclgaa.DD
