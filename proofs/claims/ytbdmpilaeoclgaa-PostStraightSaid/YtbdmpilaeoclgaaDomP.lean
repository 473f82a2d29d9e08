import Derived.Test.YtbdmpilaeoclgaaGraP
set_option linter.unusedSimpArgs false
set_option linter.unusedVariables false
/-! plain: dominators: a tree that is made better again and again, and what it comes to -/
namespace Go.Proofs.Ytbdmpilaeoclgaa.DD
open GG
/-- the ways that do not go through a node -/
def cut (adj : Nat → List Nat) (a : Nat) (x : Nat) : List Nat := (adj x).filter fun j => decide (j ≠ a)
theorem mem_cut {adj : Nat → List Nat} {a x j : Nat} : j ∈ cut adj a x ↔ j ∈ adj x ∧ j ≠ a := by
  unfold cut; rw [List.mem_filter, decide_eq_true_eq]
/-- ways go on from the first node to k, and not through a -/
def Av (adj : Nat → List Nat) (a k : Nat) : Prop := a ≠ 0 ∧ GG.Reach (cut adj a) 0 k
theorem Av.ne {adj : Nat → List Nat} {a k : Nat} (h : Av adj a k) : k ≠ a := by
  obtain ⟨h0, h⟩ := h
  cases h with
  | refl => exact fun e => h0 e.symm
  | step _ hk => exact (mem_cut.1 hk).2
theorem Av.step {adj : Nat → List Nat} {a u k : Nat} (h : Av adj a u) (hk : k ∈ adj u) (hn : k ≠ a) : Av adj a k := ⟨h.1, .step h.2 (mem_cut.2 ⟨hk, hn⟩)⟩
theorem Av.of {adj : Nat → List Nat} {a : Nat} {P : Nat → Prop} (h0 : a ≠ 0 → P 0) (hs : ∀ u k, Av adj a u → P u → k ∈ adj u → k ≠ a → P k) {k : Nat} (h : Av adj a k) : P k := by
  obtain ⟨ha, h⟩ := h
  have : Av adj a k ∧ P k := by
    induction h with
    | refl => exact ⟨⟨ha, .refl _⟩, h0 ha⟩
    | step _ hk ih =>
      obtain ⟨h1, h2⟩ := mem_cut.1 hk
      exact ⟨ih.1.step h1 h2, hs _ _ ih.1 ih.2 h1 h2⟩
  exact this.2

/-- by the numbers of a tree from a node on to another one -/
inductive Up (T : Nat → Int) : Nat → Nat → Prop
  | refl (k : Nat) : Up T k k
  | step {k j a : Nat} (h : T k = (j : Int)) (g : Up T j a) : Up T k a
theorem Up.trans {T : Nat → Int} {x y z : Nat} (h : Up T x y) (g : Up T y z) : Up T x z := by
  induction h with
  | refl => exact g
  | step h _ ih => exact .step h (ih g)
theorem Up.one {T : Nat → Int} {x y : Nat} (h : T x = (y : Int)) : Up T x y := .step h (.refl _)
theorem Up.head {T : Nat → Int} {k a : Nat} (h : Up T k a) : a = k ∨ ∃ j : Nat, T k = (j : Int) ∧ Up T j a := by
  cases h with
  | refl => exact .inl rfl
  | step h g => exact .inr ⟨_, h, g⟩
theorem Up.head_of {T : Nat → Int} {k j a : Nat} (h : Up T k a) (hj : T k = (j : Int)) (hn : a ≠ k) : Up T j a := by
  rcases h.head with e | ⟨i, hi, g⟩
  · exact absurd e hn
  · have : i = j := by rw [hj] at hi; omega
    rwa [this] at g
theorem Up.end_ {T : Nat → Int} {k a : Nat} (h : Up T k a) (hk : T k = -1) : a = k := by
  rcases h.head with e | ⟨j, hj, _⟩
  · exact e
  · omega
/-- something is known of a node -/
def Kn (T : Nat → Int) (k : Nat) : Prop := k = 0 ∨ ∃ j : Nat, T k = (j : Int)
/-- a graph all of whose nodes are reached, in an order -/
structure Gr (n : Nat) (adj : Nat → List Nat) (pl : Nat → Nat) : Prop where
  pos : 0 < n
  lt : ∀ x, ∀ j ∈ adj x, j < n
  first : pl 0 = 0
  inj : ∀ x y, x < n → y < n → pl x = pl y → x = y
  plt : ∀ x, x < n → pl x < n
  ahead : ∀ k, k < n → k ≠ 0 → ∃ u, u < n ∧ k ∈ adj u ∧ pl u < pl k
/-- the ways to nodes that do not stand ahead of m -/
def far (adj : Nat → List Nat) (pl : Nat → Nat) (m : Nat) (x : Nat) : List Nat := (adj x).filter fun j => decide (m ≤ pl j)
theorem mem_far {adj : Nat → List Nat} {pl : Nat → Nat} {m x j : Nat} : j ∈ far adj pl m x ↔ j ∈ adj x ∧ m ≤ pl j := by
  unfold far; rw [List.mem_filter, decide_eq_true_eq]
theorem far_mono {adj : Nat → List Nat} {pl : Nat → Nat} {m m' i k : Nat} (hm : m ≤ m') (h : GG.Reach (far adj pl m') i k) : GG.Reach (far adj pl m) i k := by
  induction h with
  | refl => exact .refl _
  | step _ hk ih =>
    obtain ⟨h1, h2⟩ := mem_far.1 hk
    exact .step ih (mem_far.2 ⟨h1, by omega⟩)
theorem far_av {adj : Nat → List Nat} {pl : Nat → Nat} {m i k a : Nat} (ha : pl a < m) (h : GG.Reach (far adj pl m) i k) (hi : Av adj a i) : Av adj a k := by
  induction h with
  | refl => exact hi
  | step _ hk ih =>
    obtain ⟨h1, h2⟩ := mem_far.1 hk
    exact ih.step h1 (fun e => by subst e; omega)
/-- what is kept of a tree while it is made better: all dominators of a node are in its chain -/
structure Inv (n : Nat) (adj : Nat → List Nat) (pl : Nat → Nat) (T : Nat → Int) : Prop where
  root : T 0 = -1
  out : ∀ k, n ≤ k → T k = -1
  num : ∀ k, T k = -1 ∨ ∃ j : Nat, T k = (j : Int)
  ok : ∀ k j : Nat, T k = (j : Int) → k < n ∧ j < n ∧ pl j < pl k ∧ Kn T j ∧ GG.Reach (far adj pl (pl j)) j k
  avoid : ∀ k a, k < n → Kn T k → ¬ Up T k a → Av adj a k
section
variable {n r m : Nat} {adj : Nat → List Nat} {pl : Nat → Nat} {T : Nat → Int}
theorem Inv.up_pl (I : Inv n adj pl T) {k a : Nat} (h : Up T k a) : a = k ∨ pl a < pl k := by
  induction h with
  | refl => exact .inl rfl
  | step h _ ih =>
    have := (I.ok _ _ h).2.2.1
    rcases ih with rfl | h'
    · exact .inr this
    · exact .inr (by omega)
theorem Inv.up_le (I : Inv n adj pl T) {k a : Nat} (h : Up T k a) : pl a ≤ pl k := by
  rcases I.up_pl h with rfl | h'
  · exact Nat.le_refl _
  · omega
theorem Inv.up_lt (I : Inv n adj pl T) {k a : Nat} (h : Up T k a) (hk : k < n) : a < n := by
  induction h with
  | refl => exact hk
  | step h _ ih => exact ih (I.ok _ _ h).2.1
theorem Inv.up_kn (I : Inv n adj pl T) {k a : Nat} (h : Up T k a) (hk : Kn T k) : Kn T a := by
  induction h with
  | refl => exact hk
  | step h _ ih => exact ih (I.ok _ _ h).2.2.2.1
theorem Inv.up_far (I : Inv n adj pl T) {k a : Nat} (h : Up T k a) : GG.Reach (far adj pl (pl a)) a k := by
  induction h with
  | refl => exact .refl _
  | step h g ih =>
    have h1 := (I.ok _ _ h).2.2.2.2
    exact ih.trans (far_mono (I.up_le g) h1)
theorem Inv.anti (I : Inv n adj pl T) {k a : Nat} (h : Up T k a) (g : Up T a k) : a = k := by
  rcases I.up_pl h with e | e
  · exact e
  · have := I.up_le g; omega
theorem Inv.root_up (I : Inv n adj pl T) {a : Nat} (h : Up T 0 a) : a = 0 := h.end_ I.root
/-- to the first node all chains come -/
theorem Inv.to_root (I : Inv n adj pl T) : ∀ (m k : Nat), pl k ≤ m → Kn T k → Up T k 0 := by
  intro m
  induction m with
  | zero =>
    intro k hk hn
    rcases hn with rfl | ⟨j, hj⟩
    · exact .refl _
    · have := (I.ok _ _ hj).2.2.1; omega
  | succ m ih =>
    intro k hk hn
    rcases hn with rfl | ⟨j, hj⟩
    · exact .refl _
    · obtain ⟨_, _, h1, h2, _⟩ := I.ok _ _ hj
      exact .step hj (ih j (by omega) h2)
def setI (T : Nat → Int) (i : Nat) (c : Int) : Nat → Int := fun x => if x = i then c else T x
theorem setI_same (T : Nat → Int) (i : Nat) (c : Int) : setI T i c i = c := by simp [setI]
theorem setI_ne (T : Nat → Int) {i x : Nat} (c : Int) (h : x ≠ i) : setI T i c x = T x := by simp [setI, h]
theorem kn_set {i k : Nat} {c : Nat} (h : Kn T k) : Kn (setI T i c) k := by
  rcases h with rfl | ⟨j, hj⟩
  · exact .inl rfl
  · by_cases e : k = i
    · subst e; exact .inr ⟨c, setI_same _ _ _⟩
    · exact .inr ⟨j, by rw [setI_ne _ _ e]; exact hj⟩
theorem Inv.up_set (I : Inv n adj pl T) {i x a : Nat} {c : Int} (hx : pl x < pl i) : Up (setI T i c) x a ↔ Up T x a := by
  constructor
  · intro h
    induction h with
    | refl => exact .refl _
    | @step k j a h _ ih =>
      have hk : k ≠ i := fun e => by subst e; omega
      rw [setI_ne _ _ hk] at h
      have := (I.ok _ _ h).2.2.1
      exact .step h (ih (by omega))
  · intro h
    induction h with
    | refl => exact .refl _
    | @step k j a h _ ih =>
      have hk : k ≠ i := fun e => by subst e; omega
      have := (I.ok _ _ h).2.2.1
      exact .step (by rw [setI_ne _ _ hk]; exact h) (ih (by omega))
/-- a node's number is made anew: the nearest node in the chains of those that lead to it and of which something is known -/
theorem Inv.upd (I : Inv n adj pl T) (G : Gr n adj pl) {i c u : Nat} (hi : i < n) (h0 : i ≠ 0) (hu : i ∈ adj u) (hun : u < n) (hpl : pl u < pl i) (hk : Kn T u) (huc : Up T u c)
    (h1 : ∀ a, (∀ j, j < n → i ∈ adj j → Kn T j → Up T j a) → Up T c a) : Inv n adj pl (setI T i c) := by
  have hcn : c < n := I.up_lt huc hun
  have hcp : pl c ≤ pl u := I.up_le huc
  have hci : c ≠ i := fun e => by subst e; omega
  refine ⟨by rw [setI_ne _ _ (fun e => h0 e.symm)]; exact I.root, fun k hk => by rw [setI_ne _ _ (fun e => by omega)]; exact I.out k hk, fun k => ?_, fun k j hkj => ?_, ?_⟩
  · by_cases e : k = i
    · subst e; exact .inr ⟨c, setI_same _ _ _⟩
    · rw [setI_ne _ _ e]; exact I.num k
  · by_cases e : k = i
    · subst e
      rw [setI_same] at hkj
      have : j = c := by omega
      subst this
      exact ⟨hi, hcn, by omega, kn_set (I.up_kn huc hk), .step (I.up_far huc) (mem_far.2 ⟨hu, by omega⟩)⟩
    · rw [setI_ne _ _ e] at hkj
      obtain ⟨a1, a2, a3, a4, a5⟩ := I.ok k j hkj
      exact ⟨a1, a2, a3, kn_set a4, a5⟩
  · have key : ∀ (m k a : Nat), pl k ≤ m → k < n → Kn (setI T i c) k → ¬ Up (setI T i c) k a → Av adj a k := by
      intro m
      induction m with
      | zero =>
        intro k a hm hkn _ hna
        have hk0 : k = 0 := G.inj k 0 hkn G.pos (by rw [G.first]; omega)
        subst hk0
        exact ⟨fun e => hna (by rw [e]; exact .refl _), .refl _⟩
      | succ m ih =>
        intro k a hm hkn hkk hna
        by_cases e0 : k = 0
        · subst e0
          exact ⟨fun e => hna (by rw [e]; exact .refl _), .refl _⟩
        · have hak : a ≠ k := fun e => hna (by rw [e]; exact .refl _)
          by_cases e : k = i
          · subst e
            have hnc : ¬ Up T c a := fun h => hna (.step (setI_same _ _ _) ((I.up_set (by omega)).2 h))
            have : ∃ j, j < n ∧ k ∈ adj j ∧ Kn T j ∧ ¬ Up T j a := by
              apply Classical.byContradiction
              intro hno
              refine hnc (h1 a (fun j b1 b2 b3 => ?_))
              apply Classical.byContradiction
              intro h'
              exact hno ⟨j, b1, b2, b3, h'⟩
            obtain ⟨j, b1, b2, b3, b4⟩ := this
            exact (I.avoid j a b1 b3 b4).step b2 (fun e => hak e.symm)
          · obtain ⟨j, hj⟩ : ∃ j : Nat, T k = (j : Int) := by
              rcases hkk with h | ⟨j, hj⟩
              · exact absurd h e0
              · rw [setI_ne _ _ e] at hj; exact ⟨j, hj⟩
            obtain ⟨_, b2, b3, b4, b5⟩ := I.ok k j hj
            have hnj : ¬ Up (setI T i c) j a := fun h => hna (.step (by rw [setI_ne _ _ e]; exact hj) h)
            by_cases hp : pl a < pl j
            · exact far_av hp b5 (ih j a (by omega) b2 (kn_set b4) hnj)
            · refine I.avoid k a hkn (.inr ⟨j, hj⟩) (fun h => ?_)
              have h2 := h.head_of hj hak
              rcases I.up_pl h2 with e2 | e2
              · subst e2; exact hnj (.refl _)
              · exact hp e2
    exact fun k a hkn hkk hna => key _ k a (Nat.le_refl _) hkn hkk hna

/-- ways on to k not through a, that lead back at most s times -/
inductive RP (adj : Nat → List Nat) (pl : Nat → Nat) (a : Nat) : Nat → Nat → Prop
  | base {s : Nat} (h : 0 ≠ a) : RP adj pl a s 0
  | on {s u k : Nat} (h : RP adj pl a s u) (hk : k ∈ adj u) (hn : k ≠ a) (hp : pl u < pl k) : RP adj pl a s k
  | back {s u k : Nat} (h : RP adj pl a s u) (hk : k ∈ adj u) (hn : k ≠ a) : RP adj pl a (s + 1) k
theorem RP.mono {a s k : Nat} (h : RP adj pl a s k) : ∀ s', s ≤ s' → RP adj pl a s' k := by
  induction h with
  | base h => exact fun _ _ => .base h
  | on _ hk hn hp ih => exact fun s' hs => .on (ih s' hs) hk hn hp
  | back _ hk hn ih =>
    intro s' hs
    cases s' with
    | zero => omega
    | succ s' => exact .back (ih s' (by omega)) hk hn
theorem RP.ne {a s k : Nat} (h : RP adj pl a s k) : k ≠ a := by
  cases h with
  | base h => exact h
  | on _ _ hn _ => exact hn
  | back _ _ hn => exact hn
/-- either they do not go through w, or they come to w -/
theorem RP.or {a s k : Nat} (h : RP adj pl a s k) (w : Nat) : RP adj pl w s k ∨ RP adj pl a s w := by
  induction h with
  | base h =>
    by_cases e : 0 = w
    · subst e; exact .inr (.base h)
    · exact .inl (.base e)
  | @on s u k h hk hn hp ih =>
    by_cases e : k = w
    · subst e; exact .inr (.on h hk hn hp)
    · rcases ih with h' | h'
      · exact .inl (.on h' hk e hp)
      · exact .inr h'
  | @back s u k h hk hn ih =>
    by_cases e : k = w
    · subst e; exact .inr (.back h hk hn)
    · rcases ih with h' | h'
      · exact .inl (.back h' hk e)
      · exact .inr (h'.mono _ (Nat.le_succ _))
theorem RP.of_av {a k : Nat} (h : Av adj a k) : ∃ s, RP adj pl a s k :=
  Av.of (P := fun k => ∃ s, RP adj pl a s k) (fun h => ⟨0, .base (fun e => h e.symm)⟩) (fun u k _ ⟨s, hs⟩ hk hn => ⟨s + 1, .back hs hk hn⟩) h
theorem bound (P : Nat → Nat → Prop) (hm : ∀ k s s', P k s → s ≤ s' → P k s') : ∀ n, ∃ R, ∀ k, k < n → (∃ s, P k s) → P k R := by
  intro n
  induction n with
  | zero => exact ⟨0, fun k hk => absurd hk (Nat.not_lt_zero _)⟩
  | succ n ih =>
    obtain ⟨R, hR⟩ := ih
    by_cases h : ∃ s, P n s
    · obtain ⟨s, hs⟩ := h
      refine ⟨max R s, fun k hk he => ?_⟩
      by_cases e : k = n
      · subst e; exact hm _ _ _ hs (Nat.le_max_right _ _)
      · exact hm _ _ _ (hR k (by omega) he) (Nat.le_max_left _ _)
    · refine ⟨R, fun k hk he => ?_⟩
      by_cases e : k = n
      · subst e; exact absurd he h
      · exact hR k (by omega) he
/-- how often ways need lead back at the most -/
theorem RP.all (adj : Nat → List Nat) (pl : Nat → Nat) (n : Nat) : ∃ R, ∀ a k, a < n → k < n → Av adj a k → RP adj pl a R k := by
  obtain ⟨R, hR⟩ := bound (fun a s => ∀ k, k < n → Av adj a k → RP adj pl a s k) (fun a s s' h hs k hk ha => (h k hk ha).mono _ hs) n
  refine ⟨R, fun a k ha hk h => hR a ha ?_ k hk h⟩
  obtain ⟨S, hS⟩ := bound (fun k s => RP adj pl a s k) (fun k s s' h hs => h.mono _ hs) n
  exact ⟨S, fun k hk ha => hS k hk (RP.of_av ha)⟩

/-- the nearest node in the chains of those of some nodes of which something is known; -1: nothing is known of any -/
def Meet (T : Nat → Int) (l : List Nat) (near : Int) : Prop :=
  (near = -1 ∧ ∀ j ∈ l, ¬ Kn T j) ∨ ∃ c : Nat, near = (c : Int) ∧ (∃ j ∈ l, Kn T j) ∧ (∀ j ∈ l, Kn T j → Up T j c) ∧ ∀ z, (∀ j ∈ l, Kn T j → Up T j z) → Up T c z
/-- .. of two -/
def Com (T : Nat → Int) (a b c : Nat) : Prop := Up T a c ∧ Up T b c ∧ ∀ z, Up T a z → Up T b z → Up T c z
theorem meet_nil (T : Nat → Int) : Meet T [] (-1) := .inl ⟨rfl, fun j hj => by cases hj⟩
theorem Meet.skip {l : List Nat} {near : Int} {j : Nat} (h : Meet T l near) (hj : ¬ Kn T j) : Meet T (l ++ [j]) near := by
  rcases h with ⟨e, h⟩ | ⟨c, e, ⟨x, hx, hk⟩, h1, h2⟩
  · refine .inl ⟨e, fun x hx => ?_⟩
    rcases List.mem_append.1 hx with h' | h'
    · exact h x h'
    · rw [List.mem_singleton.1 h']; exact hj
  · refine .inr ⟨c, e, ⟨x, List.mem_append_left _ hx, hk⟩, fun y hy hky => ?_, fun z hz => h2 z (fun y hy hky => hz y (List.mem_append_left _ hy) hky)⟩
    rcases List.mem_append.1 hy with h' | h'
    · exact h1 y h' hky
    · rw [List.mem_singleton.1 h'] at hky; exact absurd hky hj
theorem Meet.first {l : List Nat} {j : Nat} (h : Meet T l (-1)) (hj : Kn T j) : Meet T (l ++ [j]) (j : Int) := by
  rcases h with ⟨_, h⟩ | ⟨c, e, _⟩
  · refine .inr ⟨j, rfl, ⟨j, List.mem_append_right _ (List.mem_singleton.2 rfl), hj⟩, fun y hy hky => ?_, fun z hz => hz j (List.mem_append_right _ (List.mem_singleton.2 rfl)) hj⟩
    rcases List.mem_append.1 hy with h' | h'
    · exact absurd hky (h y h')
    · rw [List.mem_singleton.1 h']; exact .refl _
  · omega
theorem Meet.more {l : List Nat} {a j c : Nat} (h : Meet T l (a : Int)) (hj : Kn T j) (hc : Com T a j c) : Meet T (l ++ [j]) (c : Int) := by
  rcases h with ⟨e, _⟩ | ⟨b, e, ⟨x, hx, hk⟩, h1, h2⟩
  · omega
  · have : b = a := by omega
    subst this
    refine .inr ⟨c, rfl, ⟨j, List.mem_append_right _ (List.mem_singleton.2 rfl), hj⟩, fun y hy hky => ?_, fun z hz => ?_⟩
    · rcases List.mem_append.1 hy with h' | h'
      · exact (h1 y h' hky).trans hc.1
      · rw [List.mem_singleton.1 h']; exact hc.2.1
    · exact hc.2.2 z (h2 z (fun y hy hky => hz y (List.mem_append_left _ hy) hky)) (hz j (List.mem_append_right _ (List.mem_singleton.2 rfl)) hj)
theorem Meet.known {l : List Nat} {a : Nat} (h : Meet T l (a : Int)) (I : Inv n adj pl T) (hl : ∀ j ∈ l, j < n) : a < n ∧ Kn T a := by
  rcases h with ⟨e, _⟩ | ⟨b, e, ⟨x, hx, hk⟩, h1, h2⟩
  · omega
  · have : b = a := by omega
    subst this
    exact ⟨I.up_lt (h1 x hx hk) (hl x hx), I.up_kn (h1 x hx hk) hk⟩
/-- a step up of two towards the node that is common to them -/
def Mid (T : Nat → Int) (a b x y : Nat) : Prop := Up T a x ∧ Up T b y ∧ ∀ z, Up T a z → Up T b z → Up T x z ∧ Up T y z
theorem mid_new (T : Nat → Int) (a b : Nat) : Mid T a b a b := ⟨.refl _, .refl _, fun z h1 h2 => ⟨h1, h2⟩⟩
theorem Mid.left {a b x y j : Nat} (h : Mid T a b x y) (I : Inv n adj pl T) (hp : pl y < pl x) (hj : T x = (j : Int)) : Mid T a b j y :=
  ⟨h.1.trans (.one hj), h.2.1, fun z h1 h2 => by
    obtain ⟨g1, g2⟩ := h.2.2 z h1 h2
    refine ⟨g1.head_of hj (fun e => ?_), g2⟩
    subst e
    have := I.up_le g2; omega⟩
theorem Mid.right {a b x y j : Nat} (h : Mid T a b x y) (I : Inv n adj pl T) (hp : pl x < pl y) (hj : T y = (j : Int)) : Mid T a b x j :=
  ⟨h.1, h.2.1.trans (.one hj), fun z h1 h2 => by
    obtain ⟨g1, g2⟩ := h.2.2 z h1 h2
    refine ⟨g1, g2.head_of hj (fun e => ?_)⟩
    subst e
    have := I.up_le g1; omega⟩
theorem Mid.com {a b x : Nat} (h : Mid T a b x x) : Com T a b x := ⟨h.1, h.2.1, fun z h1 h2 => (h.2.2 z h1 h2).1⟩

/-- a round, gone so far that the nodes ahead of m have been made anew -/
structure St (n : Nat) (adj : Nat → List Nat) (pl : Nat → Nat) (r m : Nat) (T : Nat → Int) : Prop where
  inv : Inv n adj pl T
  done : ∀ k, k < n → pl k < m → Kn T k
  all : 0 < r → ∀ k, k < n → Kn T k
  lo : ∀ k, k < n → pl k < m → ∀ a s, s ≤ r → RP adj pl a s k → ¬ Up T k a
  hi : ∀ k, k < n → m ≤ pl k → ∀ a s, s < r → RP adj pl a s k → ¬ Up T k a
theorem st_first (G : Gr n adj pl) (hT : ∀ k, T k = -1) : St n adj pl 0 1 T := by
  have hup : ∀ k a, Up T k a → a = k := fun k a h => h.end_ (hT k)
  refine ⟨⟨hT 0, fun k _ => hT k, fun k => .inl (hT k), fun k j h => ?_, fun k a hk hkn hna => ?_⟩, fun k hk hp => ?_, fun h => absurd h (Nat.lt_irrefl _), fun k hk hp a s hs hr hu => ?_, fun k hk hp a s hs hr hu => ?_⟩
  · have := hT k; omega
  · rcases hkn with rfl | ⟨j, hj⟩
    · exact ⟨fun e => hna (by rw [e]; exact .refl _), .refl _⟩
    · have := hT k; omega
  · exact .inl (G.inj k 0 hk G.pos (by rw [G.first]; omega))
  · exact hr.ne (hup k a hu).symm
  · exact hr.ne (hup k a hu).symm
theorem St.next (h : St n adj pl r m T) (G : Gr n adj pl) (hm : n ≤ m) : St n adj pl (r + 1) 1 T := by
  refine ⟨h.inv, fun k hk hp => .inl (G.inj k 0 hk G.pos (by rw [G.first]; omega)), fun _ k hk => h.done k hk (by have := G.plt k hk; omega), fun k hk hp a s hs hr hu => ?_, fun k hk hp a s hs hr => h.lo k hk (by have := G.plt k hk; omega) a s (by omega) hr⟩
  have hk0 : k = 0 := G.inj k 0 hk G.pos (by rw [G.first]; omega)
  subst hk0
  exact hr.ne (h.inv.root_up hu).symm
theorem St.meet (h : St n adj pl r m T) (G : Gr n adj pl) {i : Nat} (hi : i < n) (h0 : i ≠ 0) (hp : pl i = m) {l : List Nat} (hl : ∀ j, j ∈ l ↔ j < n ∧ i ∈ adj j) {near : Int} (hm : Meet T l near) :
    ∃ c u : Nat, near = (c : Int) ∧ u < n ∧ i ∈ adj u ∧ pl u < pl i ∧ Kn T u ∧ Up T u c ∧ (∀ j, j < n → i ∈ adj j → Kn T j → Up T j c) ∧ ∀ a, (∀ j, j < n → i ∈ adj j → Kn T j → Up T j a) → Up T c a := by
  obtain ⟨u, hu, hui, hup⟩ := G.ahead i hi h0
  have hk := h.done u hu (by omega)
  rcases hm with ⟨_, hno⟩ | ⟨c, e, _, h1, h2⟩
  · exact absurd hk (hno u ((hl u).2 ⟨hu, hui⟩))
  · exact ⟨c, u, e, hu, hui, hup, hk, h1 u ((hl u).2 ⟨hu, hui⟩) hk, fun j a1 a2 a3 => h1 j ((hl j).2 ⟨a1, a2⟩) a3, fun a ha => h2 a (fun j hj hkj => ha j ((hl j).1 hj).1 ((hl j).1 hj).2 hkj)⟩
theorem St.step (h : St n adj pl r m T) (G : Gr n adj pl) {i : Nat} (hi : i < n) (h0 : i ≠ 0) (hp : pl i = m) {l : List Nat} (hl : ∀ j, j ∈ l ↔ j < n ∧ i ∈ adj j) {near : Int} (hm : Meet T l near) :
    St n adj pl r (m + 1) (setI T i near) := by
  obtain ⟨c, u, rfl, hu, hui, hup, hk, huc, h1, h2⟩ := h.meet G hi h0 hp hl hm
  have I := h.inv
  have I' := I.upd G hi h0 hui hu hup hk huc h2
  have hlo : ∀ k, k < n → pl k < m + 1 → ∀ a s, s ≤ r → RP adj pl a s k → ¬ Up (setI T i c) k a := by
    intro k hkn hkp a s hs hr hua
    by_cases e : k = i
    · subst e
      have hna : a ≠ k := fun e => hr.ne e.symm
      have hca : Up T c a := by
        have := hua.head_of (setI_same _ _ _) hna
        exact (I.up_set (by have := I.up_le huc; omega)).1 this
      cases hr with
      | base => exact h0 rfl
      | @on s u' k' hr' hk' hn' hp' =>
        have hu' : u' < n := by
          cases hr' with
          | base => exact G.pos
          | on _ hx _ _ => exact G.lt _ _ hx
          | back _ hx _ => exact G.lt _ _ hx
        exact h.lo u' hu' (by omega) a s hs hr' ((h1 u' hu' hk' (h.done u' hu' (by omega))).trans hca)
      | @back s u' k' hr' hk' hn' =>
        have hu' : u' < n := by
          cases hr' with
          | base => exact G.pos
          | on _ hx _ _ => exact G.lt _ _ hx
          | back _ hx _ => exact G.lt _ _ hx
        have hku := h.all (by omega) u' hu'
        by_cases hq : pl u' < m
        · exact h.lo u' hu' hq a s (by omega) hr' ((h1 u' hu' hk' hku).trans hca)
        · exact h.hi u' hu' (by omega) a s (by omega) hr' ((h1 u' hu' hk' hku).trans hca)
    · have hpk : pl k < m := by
        rcases Nat.lt_or_ge (pl k) m with h' | h'
        · exact h'
        · exact absurd (G.inj k i hkn hi (by omega)) e
      exact h.lo k hkn hpk a s hs hr ((I.up_set (by omega)).1 hua)
  refine ⟨I', fun k hkn hkp => ?_, fun hr k hkn => kn_set (h.all hr k hkn), hlo, ?_⟩
  · by_cases e : k = i
    · subst e; exact .inr ⟨c, setI_same _ _ _⟩
    · refine kn_set (h.done k hkn ?_)
      rcases Nat.lt_or_ge (pl k) m with h' | h'
      · exact h'
      · exact absurd (G.inj k i hkn hi (by omega)) e
  · have key : ∀ (q k : Nat), pl k ≤ q → k < n → m + 1 ≤ pl k → ∀ a s, s < r → RP adj pl a s k → ¬ Up (setI T i c) k a := by
      intro q
      induction q with
      | zero => intro k h1 _ h3; omega
      | succ q ih =>
        intro k hq hkn hkp a s hs hr hua
        have e : k ≠ i := fun e => by subst e; omega
        have hna : a ≠ k := fun e => hr.ne e.symm
        rcases hua.head with e' | ⟨j, hj, hja⟩
        · exact hna e'
        · have hj' := hj
          rw [setI_ne _ _ e] at hj
          obtain ⟨_, b2, b3, b4, b5⟩ := I.ok k j hj
          rcases hr.or j with hw | hw
          · exact h.hi k hkn (by omega) j s hs hw (.one hj)
          · rcases Nat.lt_or_ge (pl j) (m + 1) with h' | h'
            · exact hlo j b2 h' a s (by omega) hw hja
            · exact ih j (by omega) b2 h' a s hs hw hja
    exact fun k hkn hkp a s hs hr => key _ k (Nat.le_refl _) hkn hkp a s hs hr
/-- a round that has changed nothing so far -/
structure Fx (n : Nat) (adj : Nat → List Nat) (pl : Nat → Nat) (T0 : Nat → Int) (m : Nat) (T : Nat → Int) : Prop where
  rest : ∀ k, k < n → m ≤ pl k → T k = T0 k
  fix : (∀ k, k < n → T k = T0 k) → ∀ i, i < n → i ≠ 0 → pl i < m → ∀ j, j < n → i ∈ adj j → Kn T0 j → ∃ c : Nat, T0 i = (c : Int) ∧ Up T0 j c
theorem fx_first (G : Gr n adj pl) : Fx n adj pl T 1 T :=
  ⟨fun _ _ _ => rfl, fun _ i hi h0 hp => absurd (G.inj i 0 hi G.pos (by rw [G.first]; omega)) h0⟩
theorem Fx.step {T0 : Nat → Int} (f : Fx n adj pl T0 m T) (h : St n adj pl r m T) (h00 : ∀ k, n ≤ k → T0 k = -1) (G : Gr n adj pl) {i : Nat} (hi : i < n) (h0 : i ≠ 0) (hp : pl i = m) {l : List Nat} (hl : ∀ j, j ∈ l ↔ j < n ∧ i ∈ adj j) {near : Int} (hm : Meet T l near) :
    Fx n adj pl T0 (m + 1) (setI T i near) := by
  obtain ⟨c, u, rfl, hu, hui, hup, hk, huc, h1, h2⟩ := h.meet G hi h0 hp hl hm
  refine ⟨fun k hkn hkp => by rw [setI_ne _ _ (fun e => by subst e; omega)]; exact f.rest k hkn (by omega), fun he i' hi' h0' hp' j hj hij hkj => ?_⟩
  have hTT : T = T0 := by
    funext k
    by_cases hkn : k < n
    · by_cases e : k = i
      · subst e; exact f.rest k hkn (by omega)
      · have := he k hkn; rwa [setI_ne _ _ e] at this
    · rw [h.inv.out k (by omega), h00 k (by omega)]
  by_cases e : i' = i
  · subst e
    have h3 := he i' hi'
    rw [setI_same] at h3
    exact ⟨c, h3.symm, by subst hTT; exact h1 j hj hij hkj⟩
  · refine f.fix (fun k _ => by rw [hTT]) i' hi' h0' ?_ j hj hij hkj
    rcases Nat.lt_or_ge (pl i') m with h' | h'
    · exact h'
    · exact absurd (G.inj i' i hi' hi (by omega)) e
/-- the tree of the dominators -/
structure Fin (n : Nat) (adj : Nat → List Nat) (pl : Nat → Nat) (T : Nat → Int) : Prop where
  inv : Inv n adj pl T
  all : ∀ k, k < n → Kn T k
  dom : ∀ k a, k < n → (Up T k a ↔ ¬ Av adj a k)
theorem fin_of (I : Inv n adj pl T) (ha : ∀ k, k < n → Kn T k) (h : ∀ k a, k < n → a < n → Av adj a k → ¬ Up T k a) : Fin n adj pl T :=
  ⟨I, ha, fun k a hk => ⟨fun hu hav => h k a hk (I.up_lt hu hk) hav hu, fun hn => Classical.byContradiction fun hu => hn (I.avoid k a hk (ha k hk) hu)⟩⟩
theorem St.fin_fix (h : St n adj pl r m T) (G : Gr n adj pl) (hm : n ≤ m) (f : Fx n adj pl T m T) : Fin n adj pl T := by
  have hall : ∀ k, k < n → Kn T k := fun k hk => h.done k hk (by have := G.plt k hk; omega)
  refine fin_of h.inv hall (fun k a hk _ hav => ?_)
  have : k < n ∧ ¬ Up T k a := by
    refine Av.of (P := fun k => k < n ∧ ¬ Up T k a) (fun h0 => ⟨G.pos, fun hu => h0 (h.inv.root_up hu)⟩) (fun u k _ ⟨hu, hnu⟩ hk hn => ?_) hav
    have hkn := G.lt u k hk
    refine ⟨hkn, fun hka => ?_⟩
    by_cases e0 : k = 0
    · subst e0; exact hn (h.inv.root_up hka).symm
    · obtain ⟨c, hc, huc⟩ := f.fix (fun _ _ => rfl) k hkn e0 (by have := G.plt k hkn; omega) u hu hk (hall u hu)
      exact hnu (huc.trans (hka.head_of hc (fun e => hn e.symm)))
  exact this.2
theorem St.fin_far (h : St n adj pl r 1 T) (G : Gr n adj pl) {R : Nat} (hR : ∀ a k, a < n → k < n → Av adj a k → RP adj pl a R k) (hr : R < r) : Fin n adj pl T := by
  refine fin_of h.inv (h.all (by omega)) (fun k a hk ha hav hu => ?_)
  rcases Nat.lt_or_ge (pl k) 1 with h' | h'
  · exact h.lo k hk h' a R (by omega) (hR a k ha hk hav) hu
  · exact h.hi k hk h' a R hr (hR a k ha hk hav) hu
theorem Fin.same {T' : Nat → Int} (F : Fin n adj pl T) (F' : Fin n adj pl T') : T = T' := by
  funext k
  by_cases hkn : k < n
  · rcases F.all k hkn with rfl | ⟨j, hj⟩
    · rw [F.inv.root, F'.inv.root]
    · rcases F'.all k hkn with rfl | ⟨j', hj'⟩
      · rw [F.inv.root, F'.inv.root]
      · have n1 : j ≠ k := fun e => by have := (F.inv.ok k j hj).2.2.1; subst e; omega
        have n2 : j' ≠ k := fun e => by have := (F'.inv.ok k j' hj').2.2.1; subst e; omega
        have u1 : Up T' k j := (F'.dom k j hkn).2 ((F.dom k j hkn).1 (.one hj))
        have u2 : Up T k j' := (F.dom k j' hkn).2 ((F'.dom k j' hkn).1 (.one hj'))
        have u3 := u1.head_of hj' n1
        have u4 := u2.head_of hj n2
        have e1 := F'.inv.up_le u3
        have e2 := F.inv.up_le u4
        rcases F.inv.up_pl u4 with e | e
        · rw [hj, hj', e]
        · omega
  · rw [F.inv.out k (by omega), F'.inv.out k (by omega)]
end
end Go.Proofs.Ytbdmpilaeoclgaa.DD
