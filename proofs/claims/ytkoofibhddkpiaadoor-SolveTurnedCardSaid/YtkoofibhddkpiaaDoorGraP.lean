import Derived.Test.YtkoofibhddkpiaaDoorBase
set_option linter.unusedSimpArgs false
set_option linter.unusedVariables false
/-! plain: graphs: walks, what is reached, turned round, in order -/
namespace Go.Proofs.YtkoofibhddkpiaaDoor.GG
/-- what is reached -/
inductive Reach (adj : Nat → List Nat) : Nat → Nat → Prop
  | refl (i : Nat) : Reach adj i i
  | step {i j k : Nat} (h : Reach adj i j) (hk : k ∈ adj j) : Reach adj i k
theorem Reach.trans {adj : Nat → List Nat} {i j k : Nat} (h : Reach adj i j) (g : Reach adj j k) : Reach adj i k := by
  induction g with
  | refl => exact h
  | step _ hk ih => exact .step ih hk
theorem Reach.one {adj : Nat → List Nat} {i j : Nat} (h : j ∈ adj i) : Reach adj i j := .step (.refl i) h
theorem Reach.ahead {adj : Nat → List Nat} {i j k : Nat} (h : j ∈ adj i) (g : Reach adj j k) : Reach adj i k := (Reach.one h).trans g
/-- what is closed holds all that is reached -/
theorem Reach.closed {adj : Nat → List Nat} {P : Nat → Prop} (hc : ∀ x, P x → ∀ j ∈ adj x, P j) {i k : Nat} (h : Reach adj i k) (hi : P i) : P k := by
  induction h with
  | refl => exact hi
  | step _ hk ih => exact hc _ ih _ hk
theorem Reach.cases_head {adj : Nat → List Nat} {i k : Nat} (h : Reach adj i k) : i = k ∨ ∃ j ∈ adj i, Reach adj j k := by
  induction h with
  | refl => exact .inl rfl
  | step _ hk ih =>
    rcases ih with rfl | ⟨j, hj, hr⟩
    · exact .inr ⟨_, hk, .refl _⟩
    · exact .inr ⟨j, hj, .step hr hk⟩
theorem Reach.back {adj bak : Nat → List Nat} (hb : ∀ i j, j ∈ adj i → i ∈ bak j) {i k : Nat} (h : Reach adj i k) : Reach bak k i := by
  induction h with
  | refl => exact .refl _
  | step _ hk ih => exact Reach.ahead (hb _ _ hk) ih
theorem Reach.lt {adj : Nat → List Nat} {n : Nat} (ha : ∀ x, ∀ j ∈ adj x, j < n) {i k : Nat} (h : Reach adj i k) (hi : i < n) : k < n := by
  cases h with
  | refl => exact hi
  | step _ hk => exact ha _ _ hk

def setB (B : Nat → Bool) (i : Nat) : Nat → Bool := fun x => if x = i then true else B x
theorem setB_same (B : Nat → Bool) (i : Nat) : setB B i i = true := by simp [setB]
theorem setB_of (B : Nat → Bool) (i x : Nat) : setB B i x = true ↔ x = i ∨ B x = true := by
  unfold setB; by_cases h : x = i <;> simp [h]
abbrev St := (Nat → Bool) × List Nat
/-- a walk: where it has been, and each node behind all of its own walk -/
def dfs (adj : Nat → List Nat) : Nat → Nat → St → St
  | 0, _, s => s
  | f + 1, i, s =>
    if s.1 i = true then s
    else
      let t := (adj i).foldl (fun s j => dfs adj f j s) (setB s.1 i, s.2)
      (t.1, t.2 ++ [i])
/-- how many below n there were not yet -/
def unv (n : Nat) (B : Nat → Bool) : Nat := ((List.range n).filter fun x => !B x).length
theorem unv_le (n : Nat) (B : Nat → Bool) : unv n B ≤ n := by
  unfold unv; have := List.length_filter_le (fun x => !B x) (List.range n); simpa using this
theorem unv_mono (n : Nat) {B C : Nat → Bool} (h : ∀ x, B x = true → C x = true) : unv n C ≤ unv n B := by
  unfold unv
  induction n with
  | zero => simp
  | succ n ih =>
    rw [List.range_succ, List.filter_append, List.filter_append, List.length_append, List.length_append]
    have : (List.filter (fun x => !C x) [n]).length ≤ (List.filter (fun x => !B x) [n]).length := by
      cases hb : B n
      · simp [List.filter_cons, hb]; split <;> simp
      · simp [List.filter_cons, hb, h n hb]
    omega
theorem unv_set (n : Nat) {B : Nat → Bool} {i : Nat} (hi : i < n) (hB : B i = false) : unv n (setB B i) < unv n B := by
  unfold unv
  induction n with
  | zero => omega
  | succ n ih =>
    rw [List.range_succ, List.filter_append, List.filter_append, List.length_append, List.length_append]
    by_cases e : i = n
    · subst e
      have h1 : (List.filter (fun x => !setB B i x) [i]).length = 0 := by simp [List.filter_cons, setB_same]
      have h2 : (List.filter (fun x => !B x) [i]).length = 1 := by simp [List.filter_cons, hB]
      have h3 := unv_mono i (B := B) (C := setB B i) (fun x h => (setB_of _ _ _).2 (.inr h))
      unfold unv at h3
      omega
    · have := ih (by omega)
      have h1 : (List.filter (fun x => !setB B i x) [n]) = (List.filter (fun x => !B x) [n]) := by
        have : setB B i n = B n := by unfold setB; rw [if_neg (fun h => e h.symm)]
        simp [List.filter_cons, this]
      rw [h1]; omega
theorem unv_pos {n : Nat} {B : Nat → Bool} {i : Nat} (hi : i < n) (hB : B i = false) : 0 < unv n B := Nat.lt_of_le_of_lt (Nat.zero_le _) (unv_set n hi hB)

/-- what a walk (from i; or from several) makes of a state: new nodes -/
structure Walk (adj : Nat → List Nat) (fr : Nat → Prop) (s t : St) (new : List Nat) : Prop where
  out : t.2 = s.2 ++ new
  been : ∀ x, t.1 x = true ↔ s.1 x = true ∨ x ∈ new
  fresh : ∀ x ∈ new, s.1 x = false
  once : new.Nodup
  from_ : ∀ x ∈ new, ∃ i, fr i ∧ Reach adj i x
  ways : ∀ p x q, new = p ++ x :: q → ∀ j ∈ adj x, j ∈ s.2 ∨ j ∈ p ∨ (Reach adj j x ∧ t.1 j = true)
theorem Walk.nil (adj : Nat → List Nat) (fr : Nat → Prop) (s : St) : Walk adj fr s s [] :=
  ⟨by simp, by simp, by simp, by simp, by simp, fun p x q h => by simp at h⟩
theorem append_split {α : Type} {a b p q : List α} {x : α} (h : a ++ b = p ++ x :: q) : (∃ q', a = p ++ x :: q') ∨ ∃ p', p = a ++ p' ∧ b = p' ++ x :: q := by
  rcases List.append_eq_append_iff.1 h with ⟨r, h1, h2⟩ | ⟨r, h1, h2⟩
  · exact .inr ⟨r, h1, h2⟩
  · cases r with
    | nil => exact .inr ⟨[], by simpa using h1.symm, by simpa using h2.symm⟩
    | cons y r =>
      simp at h2
      obtain ⟨rfl, rfl⟩ := h2
      exact .inl ⟨_, h1⟩
theorem Walk.comp {adj : Nat → List Nat} {fr : Nat → Prop} {s t u : St} {a b : List Nat} (h : Walk adj fr s t a) (g : Walk adj fr t u b) : Walk adj fr s u (a ++ b) := by
  refine ⟨by rw [g.out, h.out, List.append_assoc], fun x => by rw [g.been, h.been, List.mem_append, or_assoc], ?_, ?_, ?_, ?_⟩
  · intro x hx
    rcases List.mem_append.1 hx with h1 | h1
    · exact h.fresh x h1
    · have := g.fresh x h1
      cases hs : s.1 x
      · rfl
      · rw [(h.been x).2 (.inl hs)] at this; cases this
  · rw [List.nodup_append]
    refine ⟨h.once, g.once, fun x hx y hy e => ?_⟩
    subst e
    have := g.fresh x hy
    rw [(h.been x).2 (.inr hx)] at this; cases this
  · intro x hx
    rcases List.mem_append.1 hx with h1 | h1
    · exact h.from_ x h1
    · exact g.from_ x h1
  · intro p x q e j hj
    rcases append_split e with ⟨q', h1⟩ | ⟨p', rfl, h2⟩
    · rcases h.ways p x q' h1 j hj with k | k | ⟨k, m⟩
      · exact .inl k
      · exact .inr (.inl k)
      · exact .inr (.inr ⟨k, (g.been j).2 (.inl m)⟩)
    · rcases g.ways p' x q h2 j hj with k | k | ⟨k, m⟩
      · rw [h.out] at k
        rcases List.mem_append.1 k with k | k
        · exact .inl k
        · exact .inr (.inl (List.mem_append_left _ k))
      · exact .inr (.inl (List.mem_append_right _ k))
      · exact .inr (.inr ⟨k, m⟩)
theorem Walk.weak {adj : Nat → List Nat} {fr fr' : Nat → Prop} {s t : St} {a : List Nat} (h : Walk adj fr s t a) (hf : ∀ i, fr i → ∃ k, fr' k ∧ Reach adj k i) : Walk adj fr' s t a :=
  ⟨h.out, h.been, h.fresh, h.once, fun x hx => by
    obtain ⟨i, hi, hr⟩ := h.from_ x hx
    obtain ⟨k, hk, hr'⟩ := hf i hi
    exact ⟨k, hk, hr'.trans hr⟩, h.ways⟩
/-- whoever is been at and not told yet leads to i -/
def Gray (adj : Nat → List Nat) (s : St) (i : Nat) : Prop := ∀ x, s.1 x = true → x ∉ s.2 → Reach adj x i
theorem Walk.gray {adj : Nat → List Nat} {fr : Nat → Prop} {s t : St} {a : List Nat} (h : Walk adj fr s t a) {x : Nat} (h1 : t.1 x = true) (h2 : x ∉ t.2) : s.1 x = true ∧ x ∉ s.2 := by
  rw [h.out, List.mem_append] at h2
  rcases (h.been x).1 h1 with h3 | h3
  · exact ⟨h3, fun h4 => h2 (.inl h4)⟩
  · exact absurd (.inr h3) h2
theorem fold_walk {adj : Nat → List Nat} {n f : Nat} (ih : ∀ (i : Nat) (s : St), i < n → unv n s.1 < f → Gray adj s i → ∃ new, Walk adj (· = i) s (dfs adj f i s) new ∧ (dfs adj f i s).1 i = true)
    (fr : Nat → Prop) (l : List Nat) : ∀ (s : St), (∀ j ∈ l, j < n ∧ ∃ k, fr k ∧ Reach adj k j) → unv n s.1 < f → (∀ j ∈ l, Gray adj s j) →
      ∃ new, Walk adj fr s (l.foldl (fun s j => dfs adj f j s) s) new ∧ ∀ j ∈ l, (l.foldl (fun s j => dfs adj f j s) s).1 j = true := by
  induction l with
  | nil => intro s _ _ _; exact ⟨[], Walk.nil _ _ _, by simp⟩
  | cons j l ihl =>
    intro s hl hu hg
    obtain ⟨new, hw, hj⟩ := ih j s (hl j (by simp)).1 hu (hg j (by simp))
    have hmono : ∀ x, s.1 x = true → (dfs adj f j s).1 x = true := fun x h => (hw.been x).2 (.inl h)
    obtain ⟨new', hw', hj'⟩ := ihl (dfs adj f j s) (fun k hk => hl k (by simp [hk])) (Nat.lt_of_le_of_lt (unv_mono n hmono) hu) (fun k hk x h1 h2 => by
      obtain ⟨h3, h4⟩ := hw.gray h1 h2
      exact hg k (by simp [hk]) x h3 h4)
    refine ⟨new ++ new', (hw.weak (fun i e => by subst e; exact (hl i (by simp)).2)).comp hw', fun k hk => ?_⟩
    rcases List.mem_cons.1 hk with rfl | hk
    · exact (hw'.been k).2 (.inl hj)
    · exact hj' k hk
theorem dfs_walk {adj : Nat → List Nat} {n : Nat} (ha : ∀ x, ∀ j ∈ adj x, j < n) (f : Nat) : ∀ (i : Nat) (s : St), i < n → unv n s.1 < f → Gray adj s i →
    ∃ new, Walk adj (· = i) s (dfs adj f i s) new ∧ (dfs adj f i s).1 i = true := by
  induction f with
  | zero => intro i s _ h; omega
  | succ f ih =>
    intro i s hi hu hg
    unfold dfs
    by_cases hB : s.1 i = true
    · rw [if_pos hB]; exact ⟨[], Walk.nil _ _ _, hB⟩
    · have hB' : s.1 i = false := by simpa using hB
      rw [if_neg hB]
      have hu' := unv_set n hi hB'
      obtain ⟨new, hw, hj⟩ := fold_walk ih (· = i) (adj i) (setB s.1 i, s.2) (fun j hj => ⟨ha i j hj, i, rfl, Reach.one hj⟩) (by show unv n (setB s.1 i) < f; omega) (fun j hj x h1 h2 => by
        rcases (setB_of _ _ _).1 h1 with rfl | h3
        · exact Reach.one hj
        · exact (hg x h3 h2).trans (Reach.one hj))
      generalize (adj i).foldl (fun s j => dfs adj f j s) (setB s.1 i, s.2) = t at hw hj
      have hfi : i ∉ new := fun h => by
        have := hw.fresh i h
        rw [show ((setB s.1 i, s.2) : St).1 i = true from setB_same _ _] at this; cases this
      have hti : t.1 i = true := (hw.been i).2 (.inl (setB_same _ _))
      refine ⟨new ++ [i], ⟨by show t.2 ++ [i] = _; rw [hw.out, List.append_assoc], fun x => ?_, ?_, ?_, ?_, ?_⟩, hti⟩
      · show t.1 x = true ↔ _
        rw [hw.been, List.mem_append, List.mem_singleton]
        show setB s.1 i x = true ∨ _ ↔ _
        rw [setB_of]
        constructor
        · rintro ((h | h) | h)
          · exact .inr (.inr h)
          · exact .inl h
          · exact .inr (.inl h)
        · rintro (h | h | h)
          · exact .inl (.inr h)
          · exact .inr h
          · exact .inl (.inl h)
      · intro x hx
        rcases List.mem_append.1 hx with h | h
        · have := hw.fresh x h
          cases hs : s.1 x
          · rfl
          · rw [show ((setB s.1 i, s.2) : St).1 x = true from (setB_of _ _ _).2 (.inr hs)] at this; cases this
        · rw [List.mem_singleton] at h; subst h; exact hB'
      · rw [List.nodup_append]
        refine ⟨hw.once, by simp, fun x hx y hy e => ?_⟩
        rw [List.mem_singleton] at hy
        subst hy e
        exact hfi hx
      · intro x hx
        rcases List.mem_append.1 hx with h | h
        · exact hw.from_ x h
        · rw [List.mem_singleton] at h; subst h; exact ⟨x, rfl, .refl _⟩
      · intro p x q e j hj'
        rcases append_split e with ⟨q', h1⟩ | ⟨p', rfl, h2⟩
        · rcases hw.ways p x q' h1 j hj' with k | k | ⟨k, m⟩
          · exact .inl k
          · exact .inr (.inl k)
          · exact .inr (.inr ⟨k, m⟩)
        · cases p' with
          | cons y p' => simp at h2
          | nil =>
            simp at h2
            obtain ⟨rfl, rfl⟩ := h2
            have htj := hj j hj'
            by_cases ho : j ∈ t.2
            · rw [hw.out] at ho
              rcases List.mem_append.1 ho with k | k
              · exact .inl k
              · exact .inr (.inl (by simpa using k))
            · obtain ⟨h3, h4⟩ := hw.gray htj ho
              rcases (setB_of _ _ _).1 h3 with rfl | h5
              · exact .inr (.inr ⟨.refl _, htj⟩)
              · exact .inr (.inr ⟨hg j h5 h4, htj⟩)
/-- a walk from several, one behind the other, where nothing was begun -/
def runF (f : Nat) (adj : Nat → List Nat) (l : List Nat) : St := l.foldl (fun s j => dfs adj f j s) ((fun _ => false), [])
theorem walks {adj : Nat → List Nat} {n : Nat} (ha : ∀ x, ∀ j ∈ adj x, j < n) (l : List Nat) (hl : ∀ j ∈ l, j < n) {f : Nat} (hf : n < f) :
    ∃ new, Walk adj (· ∈ l) ((fun _ => false), []) (runF f adj l) new ∧ ∀ j ∈ l, (runF f adj l).1 j = true :=
  fold_walk (dfs_walk ha f) (· ∈ l) l _ (fun j hj => ⟨hl j hj, j, hj, .refl _⟩) (by have := unv_le n (fun _ => false); show unv n (fun _ => false) < f; omega) (fun _ _ x h => by cases h)
/-- .. so it has been at all that is reached -/
theorem walks_been {adj : Nat → List Nat} {n : Nat} (ha : ∀ x, ∀ j ∈ adj x, j < n) (l : List Nat) (hl : ∀ j ∈ l, j < n) {f : Nat} (hf : n < f) (x : Nat) :
    (runF f adj l).1 x = true ↔ ∃ i ∈ l, Reach adj i x := by
  obtain ⟨new, hw, hj⟩ := walks ha l hl hf
  constructor
  · intro h
    rcases (hw.been x).1 h with h | h
    · cases h
    · exact hw.from_ x h
  · rintro ⟨i, hi, hr⟩
    refine hr.closed (P := fun x => (runF f adj l).1 x = true) ?_ (hj i hi)
    intro y hy j hyj
    rcases (hw.been y).1 hy with h | h
    · cases h
    · obtain ⟨p, q, e⟩ := List.append_of_mem h
      rcases hw.ways p y q e j hyj with k | k | ⟨_, m⟩
      · cases k
      · exact (hw.been j).2 (.inr (by rw [e]; exact List.mem_append_left _ k))
      · exact m
theorem dfs_head {adj : Nat → List Nat} {f i : Nat} {s : St} (h : s.1 i = false) : ∃ t : St, dfs adj (f + 1) i s = (t.1, t.2 ++ [i]) := by
  unfold dfs
  rw [if_neg (by rw [h]; simp)]
  exact ⟨_, rfl⟩
/-- the nodes to which a node leads -/
def adjOf (to : List (List Int)) (i : Nat) : List Nat := (to[i]?.getD []).map Int.toNat
/-- .. but one -/
def adjN (to : List (List Int)) (no : Int) (i : Nat) : List Nat := (adjOf to i).filter fun j => decide ((j : Int) ≠ no)
def inB (n : Nat) (j : Int) : Bool := decide (0 ≤ j ∧ j < n)
def rowOk (n : Nat) (row : List Int) : Bool := row.all (inB n) && decide row.Nodup
/-- may a graph be? -/
def rightG (to : List (List Int)) : Bool := decide (1 ≤ to.length ∧ to.length ≤ 256) && to.all (rowOk to.length)

theorem row_in {n : Nat} {row : List Int} (h : rowOk n row = true) : ∀ j ∈ row, 0 ≤ j ∧ j < n := by
  intro j hj
  unfold rowOk inB at h
  rw [Bool.and_eq_true, List.all_eq_true] at h
  exact of_decide_eq_true (h.1 j hj)
theorem row_nodup {n : Nat} {row : List Int} (h : rowOk n row = true) : row.Nodup := by
  unfold rowOk at h
  rw [Bool.and_eq_true] at h
  exact of_decide_eq_true h.2
theorem row_mk {n : Nat} {row : List Int} (h : ∀ j ∈ row, 0 ≤ j ∧ j < n) (g : row.Nodup) : rowOk n row = true := by
  unfold rowOk inB
  rw [Bool.and_eq_true, List.all_eq_true]
  exact ⟨fun j hj => decide_eq_true (h j hj), decide_eq_true g⟩
theorem right_len {to : List (List Int)} (h : rightG to = true) : 1 ≤ to.length ∧ to.length ≤ 256 := by
  unfold rightG at h; rw [Bool.and_eq_true] at h; exact of_decide_eq_true h.1
theorem right_row {to : List (List Int)} (h : rightG to = true) : ∀ row ∈ to, rowOk to.length row = true := by
  unfold rightG at h; rw [Bool.and_eq_true, List.all_eq_true] at h; exact h.2
theorem getD_mem {α : Type} {l : List α} {i : Nat} {d : α} (h : i < l.length) : l[i]?.getD d ∈ l := by
  rw [List.getElem?_eq_getElem h]; exact List.getElem_mem h
theorem right_at {to : List (List Int)} (h : rightG to = true) {i : Nat} (hi : i < to.length) : rowOk to.length (to[i]?.getD []) = true := right_row h _ (getD_mem hi)
theorem right_mk {to : List (List Int)} (h1 : 1 ≤ to.length) (h2 : to.length ≤ 256) (h : ∀ i, i < to.length → rowOk to.length (to[i]?.getD []) = true) : rightG to = true := by
  unfold rightG
  rw [Bool.and_eq_true, List.all_eq_true]
  refine ⟨decide_eq_true ⟨h1, h2⟩, fun row hr => ?_⟩
  obtain ⟨i, hi, rfl⟩ := List.getElem_of_mem hr
  have := h i hi
  rwa [List.getElem?_eq_getElem hi] at this
theorem right_no_len {to : List (List Int)} (h : ¬ (1 ≤ to.length ∧ to.length ≤ 256)) : rightG to = false := by
  unfold rightG; rw [decide_eq_false h]; rfl
theorem right_no {to : List (List Int)} {i : Nat} (hi : i < to.length) (h : rowOk to.length (to[i]?.getD []) = false) : rightG to = false := by
  cases hr : rightG to
  · rfl
  · rw [right_at hr hi] at h; cases h
theorem rowOk_no {n : Nat} {row : List Int} {k : Nat} (hk : k < row.length) (h : inB n (row[k]?.getD 0) = false) : rowOk n row = false := by
  cases hr : rowOk n row
  · rfl
  · have := row_in hr _ (getD_mem (d := 0) hk)
    unfold inB at h
    exact absurd this (of_decide_eq_false h)
theorem rowOk_twice {n : Nat} {row : List Int} {j k : Nat} (hj : j < k) (hk : k < row.length) (h : row[j]?.getD 0 = row[k]?.getD 0) : rowOk n row = false := by
  cases hr : rowOk n row
  · rfl
  · have := row_nodup hr
    rw [List.getElem?_eq_getElem hk, List.getElem?_eq_getElem (show j < row.length by omega)] at h
    have := (List.getElem_inj (h₀ := show j < row.length by omega) (h₁ := hk) this).1 h
    omega
/-- as many as there are below n, and none twice: no more than n -/
theorem pigeon (n : Nat) : ∀ (l : List Nat), (∀ x ∈ l, x < n) → l.Nodup → l.length ≤ n := by
  induction n with
  | zero => intro l h _; cases l with
    | nil => simp
    | cons x l => exact absurd (h x (by simp)) (by omega)
  | succ n ih =>
    intro l h hn
    have h1 := ih (l.erase n) (fun x hx => by
      have h2 := h x (List.mem_of_mem_erase hx)
      have h3 : x ≠ n := fun e => by subst e; exact (hn.mem_erase_iff.1 hx).1 rfl
      omega) (hn.erase n)
    rw [List.length_erase] at h1
    split at h1 <;> omega
theorem nodup_toNat {l : List Int} (h : ∀ j ∈ l, 0 ≤ j) (hn : l.Nodup) : (l.map Int.toNat).Nodup := by
  rw [List.nodup_iff_pairwise_ne] at *
  rw [List.pairwise_map]
  exact hn.imp_of_mem (fun ha hb hab e => hab (by have := h _ ha; have := h _ hb; omega))
theorem row_len {n : Nat} {row : List Int} (h : rowOk n row = true) : row.length ≤ n := by
  have := pigeon n (row.map Int.toNat) (fun x hx => by
    obtain ⟨j, hj, rfl⟩ := List.mem_map.1 hx
    have := row_in h j hj
    omega) (nodup_toNat (fun j hj => (row_in h j hj).1) (row_nodup h))
  simpa using this
theorem rowOk_long {n : Nat} {row : List Int} (hn : n < row.length) : rowOk n row = false := by
  cases hr : rowOk n row
  · rfl
  · have := row_len hr; omega
theorem adj_lt {to : List (List Int)} (h : rightG to = true) : ∀ x, ∀ j ∈ adjOf to x, j < to.length := by
  intro x j hj
  unfold adjOf at hj
  obtain ⟨y, hy, rfl⟩ := List.mem_map.1 hj
  by_cases hx : x < to.length
  · have := row_in (right_at h hx) y hy
    omega
  · rw [List.getElem?_eq_none (by omega)] at hy
    cases hy
theorem adjN_lt {to : List (List Int)} {no : Int} (h : rightG to = true) : ∀ x, ∀ j ∈ adjN to no x, j < to.length := fun x j hj => adj_lt h x j (List.mem_filter.1 hj).1
theorem adj_mem {to : List (List Int)} (h : rightG to = true) {i : Nat} (hi : i < to.length) (j : Nat) : j ∈ adjOf to i ↔ (j : Int) ∈ to[i]?.getD [] := by
  unfold adjOf
  rw [List.mem_map]
  constructor
  · rintro ⟨y, hy, rfl⟩
    have := row_in (right_at h hi) y hy
    rwa [Int.toNat_of_nonneg this.1]
  · intro hj
    exact ⟨_, hj, by simp⟩
theorem adjN_none (to : List (List Int)) (no : Int) (h : no < 0) : adjN to no = adjOf to := by
  funext i
  unfold adjN
  rw [List.filter_eq_self]
  intro j _
  exact decide_eq_true (by omega)
/-- the row of a walk's step -/
theorem adj_at {to : List (List Int)} {i : Nat} : adjOf to i = (to[i]?.getD []).map Int.toNat := rfl

/-- does the node k lead to i? -/
def leadsB (to : List (List Int)) (k : Nat) (i : Int) : Bool := decide (i ∈ to[k]?.getD [])
/-- those that lead to i, below m -/
def ledBy (to : List (List Int)) (i m : Nat) : List Int := ((List.range m).filter fun k => leadsB to k (i : Int)).map Int.ofNat
def backG (to : List (List Int)) : List (List Int) := (List.range to.length).map fun i => ledBy to i to.length
theorem back_len (to : List (List Int)) : (backG to).length = to.length := by simp [backG]
theorem back_at {to : List (List Int)} {i : Nat} (hi : i < to.length) : (backG to)[i]?.getD [] = ledBy to i to.length := by
  simp [backG, List.getElem?_map, List.getElem?_range hi]
theorem ledBy_succ (to : List (List Int)) (i m : Nat) : ledBy to i (m + 1) = ledBy to i m ++ (if leadsB to m (i : Int) then [(m : Int)] else []) := by
  unfold ledBy
  rw [List.range_succ, List.filter_append, List.map_append]
  cases h : leadsB to m (i : Int) <;> simp [h]
theorem mem_ledBy {to : List (List Int)} {i m : Nat} {x : Int} : x ∈ ledBy to i m ↔ ∃ k : Nat, x = k ∧ k < m ∧ (i : Int) ∈ to[k]?.getD [] := by
  unfold ledBy leadsB
  constructor
  · intro h
    obtain ⟨k, hk, rfl⟩ := List.mem_map.1 h
    rw [List.mem_filter, List.mem_range] at hk
    exact ⟨k, rfl, hk.1, of_decide_eq_true hk.2⟩
  · rintro ⟨k, rfl, h1, h2⟩
    exact List.mem_map.2 ⟨k, List.mem_filter.2 ⟨List.mem_range.2 h1, decide_eq_true h2⟩, rfl⟩
theorem ledBy_nodup (to : List (List Int)) (i m : Nat) : (ledBy to i m).Nodup := by
  unfold ledBy
  rw [List.nodup_iff_pairwise_ne, List.pairwise_map]
  have := (List.nodup_range (n := m)).filter (fun k => leadsB to k (i : Int))
  exact this.imp (fun h e => h (Int.ofNat.inj e))
theorem ledBy_sorted (to : List (List Int)) (i m : Nat) : (ledBy to i m).Pairwise (· < ·) := by
  unfold ledBy
  rw [List.pairwise_map]
  have := (List.pairwise_lt_range (n := m)).filter (fun k => leadsB to k (i : Int))
  exact this.imp (fun h => by simpa using h)
theorem right_back {to : List (List Int)} (h : rightG to = true) : rightG (backG to) = true := by
  have hl := right_len h
  refine right_mk (by rw [back_len]; omega) (by rw [back_len]; omega) fun i hi => ?_
  rw [back_len] at hi
  rw [back_at hi, back_len]
  refine row_mk (fun j hj => ?_) (ledBy_nodup _ _ _)
  obtain ⟨k, rfl, hk, _⟩ := mem_ledBy.1 hj
  omega
theorem back_adj {to : List (List Int)} (h : rightG to = true) {i j : Nat} (hi : i < to.length) (hj : j < to.length) : j ∈ adjOf (backG to) i ↔ i ∈ adjOf to j := by
  rw [adj_mem (right_back h) (by rw [back_len]; exact hi), back_at hi, mem_ledBy, adj_mem h hj]
  constructor
  · rintro ⟨k, e, _, hm⟩
    have : j = k := by omega
    subst this; exact hm
  · intro hm; exact ⟨j, rfl, hj, hm⟩
theorem adj_of_lt {to : List (List Int)} {i j : Nat} (h : j ∈ adjOf to i) : i < to.length := by
  apply Classical.byContradiction; intro hn
  unfold adjOf at h
  rw [List.getElem?_eq_none (by omega)] at h
  cases h
theorem back_ways {to : List (List Int)} (h : rightG to = true) (i j : Nat) (hj : j ∈ adjOf to i) : i ∈ adjOf (backG to) j :=
  (back_adj h (adj_lt h i j hj) (adj_of_lt hj)).2 hj
theorem ways_back {to : List (List Int)} (h : rightG to = true) (i j : Nat) (hj : j ∈ adjOf (backG to) i) : i ∈ adjOf to j := by
  have h1 := adj_of_lt hj
  rw [back_len] at h1
  have h2 := adj_lt (right_back h) i j hj
  rw [back_len] at h2
  exact (back_adj h h1 h2).1 hj

/-- the walk of all functions: from l, on -/
def runG (adj : Nat → List Nat) (l : List Nat) : St := runF 257 adj l
def reachB (to : List (List Int)) (no : Int) (i x : Nat) : Bool := (runG (adjN to no) [i]).1 x
theorem reachB_iff {to : List (List Int)} {no : Int} (h : rightG to = true) {i : Nat} (hi : i < to.length) (x : Nat) : reachB to no i x = true ↔ Reach (adjN to no) i x := by
  have hl := right_len h
  unfold reachB runG
  rw [walks_been (adjN_lt h) [i] (by simpa using hi) (show to.length < 257 by omega)]
  simp
/-- a set that holds i, only what is reached, and what each of its nodes leads to, is what is reached -/
theorem reachB_of {to : List (List Int)} {no : Int} (h : rightG to = true) {i : Nat} (hi : i < to.length) {B : Nat → Bool} (h1 : B i = true) (h2 : ∀ x, B x = true → Reach (adjN to no) i x)
    (h3 : ∀ x, B x = true → ∀ j ∈ adjN to no x, B j = true) (x : Nat) : B x = reachB to no i x := by
  rw [Bool.eq_iff_iff, reachB_iff h hi]
  exact ⟨h2 x, fun hr => hr.closed (P := fun x => B x = true) h3 h1⟩
/-- exits -/
def exitB (to : List (List Int)) (k : Nat) : Bool := (to[k]?.getD []).isEmpty
def exitsL (to : List (List Int)) (m : Nat) : List Nat := (List.range m).filter (exitB to)
def endsB (to : List (List Int)) (i : Nat) : Bool := (List.range to.length).any fun k => reachB to (-1) i k && exitB to k
theorem ends_back {to : List (List Int)} (h : rightG to = true) {i : Nat} (hi : i < to.length) : (runG (adjOf (backG to)) (exitsL to to.length)).1 i = endsB to i := by
  have hl := right_len h
  rw [Bool.eq_iff_iff]
  unfold runG
  rw [walks_been (adj_lt (right_back h)) (exitsL to to.length) (fun j hj => by
    unfold exitsL at hj; rw [List.mem_filter, List.mem_range] at hj; rw [back_len]; exact hj.1) (show (backG to).length < 257 by rw [back_len]; omega)]
  unfold endsB
  rw [List.any_eq_true]
  constructor
  · rintro ⟨k, hk, hr⟩
    unfold exitsL at hk
    rw [List.mem_filter] at hk
    refine ⟨k, hk.1, ?_⟩
    rw [Bool.and_eq_true, reachB_iff h hi, adjN_none _ _ (by decide)]
    exact ⟨hr.back (ways_back h), hk.2⟩
  · rintro ⟨k, hk, hr⟩
    rw [Bool.and_eq_true, reachB_iff h hi, adjN_none _ _ (by decide)] at hr
    exact ⟨k, List.mem_filter.2 ⟨hk, hr.2⟩, hr.1.back (back_ways h)⟩
/-- the first below n; -1: there is none -/
def firstN (n : Nat) (p : Nat → Bool) : Int := match (List.range n).find? p with | some k => (k : Int) | none => -1
theorem firstN_hit {n : Nat} {p : Nat → Bool} {k : Nat} (hk : k < n) (hp : p k = true) (hno : ∀ j, j < k → p j = false) : firstN n p = (k : Int) := by
  have e : (List.range n).find? p = some k := by
    rw [List.find?_eq_some_iff_append]
    refine ⟨hp, List.range k, (List.range' (k + 1) (n - k - 1)), ?_, fun j hj => by rw [hno j (List.mem_range.1 hj)]; rfl⟩
    rw [List.range_eq_range', List.range_eq_range', show n = k + (n - k - 1 + 1) by omega, ← List.range'_append_1, List.range'_succ]
    simp
  unfold firstN; rw [e]
theorem firstN_none {n : Nat} {p : Nat → Bool} (hno : ∀ j, j < n → p j = false) : firstN n p = -1 := by
  have e : (List.range n).find? p = none := by
    rw [List.find?_eq_none]
    intro j hj h
    rw [hno j (List.mem_range.1 hj)] at h
    cases h
  unfold firstN; rw [e]
theorem firstN_congr {n : Nat} {p q : Nat → Bool} (h : ∀ j, j < n → p j = q j) : firstN n p = firstN n q := by
  by_cases hx : ∃ k, k < n ∧ p k = true ∧ ∀ j, j < k → p j = false
  · obtain ⟨k, h1, h2, h3⟩ := hx
    rw [firstN_hit h1 h2 h3, firstN_hit h1 (by rw [← h k h1]; exact h2) (fun j hj => by rw [← h j (by omega)]; exact h3 j hj)]
  · have h4 : ∀ m, m ≤ n → ∀ j, j < m → p j = false := by
      intro m
      induction m with
      | zero => intro _ j hj; omega
      | succ m ih =>
        intro hm j hj
        by_cases e : j = m
        · subst e
          cases hp : p j
          · rfl
          · exact absurd ⟨j, by omega, hp, ih (by omega)⟩ hx
        · exact ih (by omega) j (by omega)
    rw [firstN_none (h4 n (Nat.le_refl _)), firstN_none (fun j hj => by rw [← h j hj]; exact h4 n (Nat.le_refl _) j hj)]
/-- the order -/
def orderL (to : List (List Int)) : List Int := (runG (adjOf to) [0]).2.reverse.map Int.ofNat
theorem sub_len {α : Type} [DecidableEq α] : ∀ (l m : List α), l.Nodup → (∀ x ∈ l, x ∈ m) → l.length ≤ m.length := by
  intro l
  induction l with
  | nil => intro m _ _; simp
  | cons x l ih =>
    intro m hn hs
    have hx := hs x (by simp)
    have h1 := List.length_erase_of_mem hx
    have h2 := List.length_pos_of_mem hx
    have := ih (m.erase x) (List.nodup_cons.1 hn).2 (fun y hy => (List.mem_erase_of_ne (fun e => by subst e; exact (List.nodup_cons.1 hn).1 hy)).2 (hs y (by simp [hy])))
    simp only [List.length_cons]
    omega
theorem same_len {α : Type} [DecidableEq α] {l m : List α} (h1 : l.Nodup) (h2 : m.Nodup) (h : ∀ x, x ∈ l ↔ x ∈ m) : l.length = m.length :=
  Nat.le_antisymm (sub_len l m h1 fun x hx => (h x).1 hx) (sub_len m l h2 fun x hx => (h x).2 hx)
/-- turned round twice: the same ways, in order of numbers -/
theorem twice_at {to : List (List Int)} (h : rightG to = true) {i : Nat} (hi : i < to.length) (x : Int) : x ∈ (backG (backG to))[i]?.getD [] ↔ x ∈ to[i]?.getD [] := by
  rw [back_at (by rw [back_len]; exact hi), back_len, mem_ledBy]
  constructor
  · rintro ⟨k, rfl, hk, hm⟩
    rw [back_at hk, mem_ledBy] at hm
    obtain ⟨j, e, _, hm⟩ := hm
    have : i = j := by omega
    subst this; exact hm
  · intro hx
    have := row_in (right_at h hi) x hx
    refine ⟨x.toNat, by omega, by omega, ?_⟩
    rw [back_at (by omega), mem_ledBy]
    exact ⟨i, rfl, hi, by rwa [Int.toNat_of_nonneg this.1]⟩
theorem twice_len {to : List (List Int)} (h : rightG to = true) {i : Nat} (hi : i < to.length) : ((backG (backG to))[i]?.getD []).length = (to[i]?.getD []).length := by
  refine same_len ?_ (row_nodup (right_at h hi)) (twice_at h hi)
  rw [back_at (by rw [back_len]; exact hi)]
  exact ledBy_nodup _ _ _
theorem twice_up {to : List (List Int)} {i : Nat} (hi : i < to.length) {k : Nat} (hk : k + 1 < ((backG (backG to))[i]?.getD []).length) : ((backG (backG to))[i]?.getD [])[k]?.getD 0 < ((backG (backG to))[i]?.getD [])[k + 1]?.getD 0 := by
  rw [back_at (by rw [back_len]; exact hi)] at hk ⊢
  have := List.pairwise_iff_getElem.1 (ledBy_sorted (backG to) i (backG to).length) k (k + 1) (by omega) hk (by omega)
  rwa [List.getElem?_eq_getElem hk, List.getElem?_eq_getElem (show k < _ by omega)]
theorem reach_turned {to : List (List Int)} (h : rightG to = true) {a b : Nat} (ha : a < to.length) (hb : b < to.length) : reachB to (-1) a b = reachB (backG to) (-1) b a := by
  rw [Bool.eq_iff_iff, reachB_iff h ha, reachB_iff (right_back h) (by rw [back_len]; exact hb), adjN_none _ _ (by decide), adjN_none _ _ (by decide)]
  exact ⟨fun hr => hr.back (back_ways h), fun hr => hr.back (ways_back h)⟩
/-- what is reached is the node, and what is reached from those to which it leads -/
theorem reach_ways {to : List (List Int)} (h : rightG to = true) {i : Nat} (hi : i < to.length) (x : Nat) : reachB to (-1) i x = (decide (x = i) || (adjOf to i).any fun j => reachB to (-1) j x) := by
  rw [Bool.eq_iff_iff, reachB_iff h hi, Bool.or_eq_true, List.any_eq_true, adjN_none _ _ (by decide)]
  constructor
  · intro hr
    rcases hr.cases_head with rfl | ⟨j, hj, hr⟩
    · exact .inl (decide_eq_true rfl)
    · refine .inr ⟨j, hj, ?_⟩
      rw [reachB_iff h (adj_lt h i j hj), adjN_none _ _ (by decide)]; exact hr
  · rintro (e | ⟨j, hj, hr⟩)
    · have := of_decide_eq_true e; subst this; exact .refl _
    · rw [reachB_iff h (adj_lt h i j hj), adjN_none _ _ (by decide)] at hr
      exact hr.ahead hj
/-- the walk from the first node -/
theorem order_walk {to : List (List Int)} (h : rightG to = true) : ∃ new t, runG (adjOf to) [0] = (t, new) ∧ Walk (adjOf to) (· = 0) ((fun _ => false), []) (t, new) new := by
  have hl := right_len h
  obtain ⟨new, hw, _⟩ := walks (adj_lt h) [0] (by simpa using (show 0 < to.length by omega)) (show to.length < 257 by omega)
  have hw1 : Walk (adjOf to) (· ∈ [0]) ((fun _ => false), []) (runG (adjOf to) [0]) new := hw
  have hf : ∀ i, (· ∈ [0]) i → ∃ k, (· = 0) k ∧ Reach (adjOf to) k i := fun i hi => by
    have e : i = 0 := List.mem_singleton.1 hi
    rw [e]; exact ⟨0, Eq.refl 0, Reach.refl 0⟩
  generalize runG (adjOf to) [0] = r at hw1
  have hw2 := hw1.weak hf
  have e : r.2 = new := by have := hw2.out; rwa [List.nil_append] at this
  subst e
  exact ⟨r.2, r.1, rfl, hw2⟩
theorem order_eq {to : List (List Int)} {t : Nat → Bool} {new : List Nat} (h : runG (adjOf to) [0] = (t, new)) : orderL to = new.reverse.map Int.ofNat := by unfold orderL; rw [h]
theorem order_head {to : List (List Int)} : ∃ l : List Int, orderL to = 0 :: l := by
  unfold orderL runG runF
  obtain ⟨t, e⟩ := dfs_head (adj := adjOf to) (f := 256) (i := 0) (s := ((fun _ => false), [])) rfl
  simp only [List.foldl_cons, List.foldl_nil]
  rw [e]
  simp
theorem order_nodup {to : List (List Int)} (h : rightG to = true) : (orderL to).Nodup := by
  obtain ⟨new, t, e, hw⟩ := order_walk h
  rw [order_eq e, List.nodup_iff_pairwise_ne, List.pairwise_map]
  rw [List.pairwise_reverse]
  exact hw.once.imp (fun h e => h (Int.ofNat.inj e).symm)
theorem mem_order {to : List (List Int)} (h : rightG to = true) (x : Int) : x ∈ orderL to ↔ 0 ≤ x ∧ x < to.length ∧ reachB to (-1) 0 x.toNat = true := by
  have hl := right_len h
  obtain ⟨new, t, e, hw⟩ := order_walk h
  have hb : ∀ y : Nat, reachB to (-1) 0 y = true ↔ y ∈ new := by
    intro y
    unfold reachB
    rw [adjN_none _ _ (by decide), e]
    show t y = true ↔ _
    have := hw.been y
    simpa using this
  rw [order_eq e, List.mem_map]
  constructor
  · rintro ⟨y, hy, rfl⟩
    rw [List.mem_reverse] at hy
    have hr := (hb y).2 hy
    refine ⟨Int.natCast_nonneg _, ?_, hr⟩
    rw [reachB_iff h (show 0 < to.length by omega)] at hr
    have := hr.lt (adjN_lt h) (show 0 < to.length by omega)
    show (y : Int) < _
    omega
  · rintro ⟨h1, h2, h3⟩
    refine ⟨x.toNat, by rw [List.mem_reverse]; exact (hb _).1 h3, by show ((x.toNat : Nat) : Int) = x; omega⟩
/-- where a node stands among the first m of a list; -1: nowhere -/
def atI (l : List Int) (m : Nat) (x : Nat) : Int := if (x : Int) ∈ l.take m then (l.idxOf (x : Int) : Int) else -1
theorem atI_zero (l : List Int) (x : Nat) : atI l 0 x = -1 := by simp [atI]
theorem atI_succ {l : List Int} (hn : l.Nodup) {m : Nat} (hm : m < l.length) (hp : 0 ≤ l[m]?.getD 0) (x : Nat) : atI l (m + 1) x = if x = (l[m]?.getD 0).toNat then (m : Int) else atI l m x := by
  have em : l[m]? = some l[m] := List.getElem?_eq_getElem hm
  rw [em] at hp ⊢
  simp only [Option.getD_some] at hp ⊢
  unfold atI
  rw [List.take_succ_eq_append_getElem hm]
  by_cases e : x = (l[m]).toNat
  · subst e
    rw [if_pos rfl, Int.toNat_of_nonneg hp, if_pos (List.mem_append.2 (.inr (List.mem_singleton.2 rfl))), hn.idxOf_getElem]
  · rw [if_neg e]
    have : (x : Int) ≠ l[m] := fun h => e (by omega)
    simp only [List.mem_append, List.mem_singleton, this, or_false]
theorem atI_fresh {l : List Int} (hn : l.Nodup) {m : Nat} (hm : m < l.length) (hp : 0 ≤ l[m]?.getD 0) : atI l m (l[m]?.getD 0).toNat = -1 := by
  have em : l[m]? = some l[m] := List.getElem?_eq_getElem hm
  rw [em] at hp ⊢
  simp only [Option.getD_some] at hp ⊢
  unfold atI
  rw [Int.toNat_of_nonneg hp, if_neg]
  intro h
  obtain ⟨i, hi, e⟩ := List.mem_take_iff_getElem.1 h
  have := (List.getElem_inj (h₀ := by omega) (h₁ := hm) hn).1 e
  omega
theorem atI_bd (l : List Int) (m x : Nat) : -1 ≤ atI l m x ∧ atI l m x ≤ l.length := by
  unfold atI
  split
  · have := List.idxOf_le_length (a := (x : Int)) (l := l); omega
  · omega
/-- a way leads back only where it closes a circle -/
theorem order_circle {to : List (List Int)} (h : rightG to = true) {i j : Nat} (hi : reachB to (-1) 0 i = true) (hj : j ∈ adjOf to i) (hat : atI (orderL to) (orderL to).length j ≤ atI (orderL to) (orderL to).length i) : reachB to (-1) j i = true := by
  have hl := right_len h
  have hil := adj_of_lt hj
  have hjl := adj_lt h i j hj
  have hnod := order_nodup h
  have mi : (i : Int) ∈ orderL to := (mem_order h _).2 ⟨by omega, by omega, by simpa using hi⟩
  have hj0 : reachB to (-1) 0 j = true := by
    rw [reachB_iff h (show 0 < to.length by omega), adjN_none _ _ (by decide)] at *
    exact .step hi hj
  have mj : (j : Int) ∈ orderL to := (mem_order h _).2 ⟨by omega, by omega, by simpa using hj0⟩
  rw [reachB_iff h hjl, adjN_none _ _ (by decide)]
  obtain ⟨new, t, e, hw⟩ := order_walk h
  have eo := order_eq e
  have mi' : i ∈ new := by
    rw [eo, List.mem_map] at mi
    obtain ⟨y, hy, e⟩ := mi
    have : y = i := Int.ofNat.inj e
    subst this; simpa using hy
  obtain ⟨p, q, en⟩ := List.append_of_mem mi'
  rcases hw.ways p i q en j hj with k | k | ⟨k, _⟩
  · cases k
  · exfalso
    unfold atI at hat
    rw [List.take_length, if_pos mi, if_pos mj] at hat
    rw [eo, en] at hat
    simp only [List.reverse_append, List.reverse_cons, List.append_assoc, List.map_append, List.map_cons, List.cons_append, List.nil_append, Int.ofNat_eq_natCast] at hat
    have hn := hw.once
    rw [en] at hn
    have hn2 := List.nodup_append.1 hn
    have nq : (i : Int) ∉ q.reverse.map Int.ofNat := by
      intro hm
      obtain ⟨y, hy, e⟩ := List.mem_map.1 hm
      have : y = i := Int.ofNat.inj e
      subst this
      exact (List.nodup_cons.1 hn2.2.1).1 (by simpa using hy)
    have nq2 : (j : Int) ∉ q.reverse.map Int.ofNat := by
      intro hm
      obtain ⟨y, hy, e⟩ := List.mem_map.1 hm
      have : y = j := Int.ofNat.inj e
      subst this
      exact hn2.2.2 y k y (List.mem_cons_of_mem _ (by simpa using hy)) rfl
    have ne : (j : Int) ≠ (i : Int) := by
      intro e
      have : j = i := by omega
      subst this
      exact hn2.2.2 j k j (by simp) rfl
    rw [List.idxOf_append, if_neg nq2, List.idxOf_append, if_neg nq, List.idxOf_cons_self, List.idxOf_cons, show (((i : Int) == (j : Int)) = false) from beq_eq_false_iff_ne.2 (fun e => ne e.symm), cond_false] at hat
    omega
  · exact k
/-- how many are reached, is how long the order is -/
def beenN (to : List (List Int)) (m : Nat) : Nat := ((List.range m).filter (reachB to (-1) 0)).length
theorem beenN_succ (to : List (List Int)) (m : Nat) : beenN to (m + 1) = beenN to m + if reachB to (-1) 0 m = true then 1 else 0 := by
  unfold beenN
  rw [List.range_succ, List.filter_append, List.length_append]
  cases h : reachB to (-1) 0 m <;> simp [h]
theorem beenN_le (to : List (List Int)) (m : Nat) : beenN to m ≤ m := by
  unfold beenN; have := List.length_filter_le (reachB to (-1) 0) (List.range m); simpa using this
theorem beenN_all {to : List (List Int)} (h : rightG to = true) : beenN to to.length = (orderL to).length := by
  have h1 : ((List.range to.length).filter (reachB to (-1) 0)).Nodup := (List.nodup_range).filter _
  have h2 : (((List.range to.length).filter (reachB to (-1) 0)).map Int.ofNat).Nodup := by
    rw [List.nodup_iff_pairwise_ne, List.pairwise_map]
    exact h1.imp (fun h e => h (Int.ofNat.inj e))
  have := same_len h2 (order_nodup h) (fun x => by
    rw [mem_order h, List.mem_map]
    constructor
    · rintro ⟨y, hy, rfl⟩
      rw [List.mem_filter, List.mem_range] at hy
      exact ⟨Int.natCast_nonneg _, by show (y : Int) < _; omega, hy.2⟩
    · rintro ⟨h1, h2, h3⟩
      exact ⟨x.toNat, List.mem_filter.2 ⟨List.mem_range.2 (by omega), h3⟩, by show ((x.toNat : Nat) : Int) = x; omega⟩)
  rw [List.length_map] at this
  exact this
end Go.Proofs.YtkoofibhddkpiaaDoor.GG
