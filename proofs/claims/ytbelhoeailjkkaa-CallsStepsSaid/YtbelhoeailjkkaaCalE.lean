import Derived.Test.YtbelhoeailjkkaaCalP
set_option linter.unusedVariables false
set_option linter.unusedSimpArgs false
/-! entries: plain -/
namespace Go.Proofs.Ytbelhoeailjkkaa
namespace CC
def leadS (e : Nat → Int) (i j : Nat) : Nat → Int := if e i = 0 ∨ e j = -1 then e else if e i = -1 then (fun x => if x = j then -1 else e x) else (fun x => if x = j then max (e j) (e i + 1) else e x)
def leadF (e : Nat → Int) (i : Nat) (row : List Nat) : Nat → Int := row.foldl (fun e j => leadS e i j) e
def circB (adj : Nat → List Nat) (g : List Nat) : Bool := decide (1 < g.length) || decide (g[0]?.getD 0 ∈ adj (g[0]?.getD 0))
def hasB (e : Nat → Int) (g : List Nat) : Bool := g.any fun i => decide (e i ≠ 0)
def downF (e : Nat → Int) (g : List Nat) : Nat → Int := fun x => if x ∈ g then -1 else e x
def stepE (adj : Nat → List Nat) (e : Nat → Int) (g : List Nat) : Nat → Int := g.foldl (fun e i => leadF e i (adj i)) (if circB adj g && hasB e g then downF e g else e)
def startE (main : Nat) : Nat → Int := fun x => if x = main then 1 else 0
def entF (adj : Nat → List Nat) (gs : List (List Nat)) (main : Nat) : Nat → Int := gs.reverse.foldl (stepE adj) (startE main)

def comb (c v : Int) : Int := if c = 0 ∨ v = -1 then v else if c = -1 then -1 else max v (c + 1)
theorem leadS_at (e : Nat → Int) (i j y : Nat) : leadS e i j y = if y = j then comb (e i) (e j) else e y := by
  unfold leadS comb
  by_cases h1 : e i = 0 ∨ e j = -1
  · rw [if_pos h1, if_pos h1]
    by_cases h : y = j
    · rw [if_pos h, h]
    · rw [if_neg h]
  · rw [if_neg h1, if_neg h1]
    by_cases h2 : e i = -1
    · rw [if_pos h2, if_pos h2]
    · rw [if_neg h2, if_neg h2]
theorem leadF_of (i : Nat) : ∀ (row : List Nat) (e : Nat → Int), row.Nodup → i ∉ row → ∀ y, leadF e i row y = if y ∈ row then comb (e i) (e y) else e y := by
  intro row
  induction row with
  | nil => intro e _ _ y; simp [leadF]
  | cons j t ih =>
    intro e hn hi y
    obtain ⟨hj, ht⟩ := List.nodup_cons.1 hn
    have hij : i ≠ j := fun e => hi (by rw [e]; exact List.mem_cons_self)
    have hit : i ∉ t := fun h => hi (List.mem_cons_of_mem _ h)
    show leadF (leadS e i j) i t y = _
    rw [ih _ ht hit y, leadS_at, leadS_at, if_neg hij]
    by_cases h1 : y = j
    · subst h1
      rw [if_neg hj, if_pos rfl, if_pos List.mem_cons_self]
    · rw [if_neg h1]
      by_cases h2 : y ∈ t
      · rw [if_pos h2, if_pos (List.mem_cons_of_mem _ h2)]
      · rw [if_neg h2, if_neg (fun h => by rcases List.mem_cons.1 h with h | h; exact h1 h; exact h2 h)]
theorem leadF_neg (i : Nat) : ∀ (row : List Nat) (e : Nat → Int), e i = -1 → ∀ y, leadF e i row y = if y ∈ row then -1 else e y := by
  intro row
  induction row with
  | nil => intro e _ y; simp [leadF]
  | cons j t ih =>
    intro e he y
    have hc : ∀ v, comb (-1) v = -1 := by intro v; unfold comb; split; omega; rfl
    show leadF (leadS e i j) i t y = _
    have hi : leadS e i j i = -1 := by
      rw [leadS_at, he, hc]
      split <;> first | rfl | exact he
    rw [ih _ hi y, leadS_at, he, hc]
    by_cases h1 : y = j
    · subst h1
      rw [if_pos rfl, if_pos List.mem_cons_self]
      split <;> rfl
    · rw [if_neg h1]
      by_cases h2 : y ∈ t
      · rw [if_pos h2, if_pos (List.mem_cons_of_mem _ h2)]
      · rw [if_neg h2, if_neg (fun h => by rcases List.mem_cons.1 h with h | h; exact h1 h; exact h2 h)]
theorem leadF_zero (i : Nat) : ∀ (row : List Nat) (e : Nat → Int), e i = 0 → leadF e i row = e := by
  intro row
  induction row with
  | nil => intro e _; rfl
  | cons j t ih =>
    intro e he
    have h : leadS e i j = e := by unfold leadS; rw [if_pos (.inl he)]
    show leadF (leadS e i j) i t = e
    rw [h, ih e he]
theorem fold_neg (adj : Nat → List Nat) : ∀ (l : List Nat) (e : Nat → Int), (∀ i ∈ l, e i = -1) → ∀ y, l.foldl (fun e i => leadF e i (adj i)) e y = if ∃ i ∈ l, y ∈ adj i then -1 else e y := by
  intro l
  induction l with
  | nil => intro e _ y; simp
  | cons a t ih =>
    intro e he y
    have ha := he a List.mem_cons_self
    have h1 : ∀ i ∈ t, leadF e a (adj a) i = -1 := by
      intro i hi
      rw [leadF_neg a _ e ha, he i (List.mem_cons_of_mem _ hi)]
      split <;> rfl
    show t.foldl (fun e i => leadF e i (adj i)) (leadF e a (adj a)) y = _
    rw [ih _ h1 y, leadF_neg a _ e ha]
    by_cases h2 : ∃ i ∈ t, y ∈ adj i
    · obtain ⟨i, hi, hy⟩ := h2
      rw [if_pos ⟨i, hi, hy⟩, if_pos ⟨i, List.mem_cons_of_mem _ hi, hy⟩]
    · rw [if_neg h2]
      by_cases h3 : y ∈ adj a
      · rw [if_pos h3, if_pos ⟨a, List.mem_cons_self, h3⟩]
      · rw [if_neg h3, if_neg]
        rintro ⟨i, hi, hy⟩
        rcases List.mem_cons.1 hi with h | h
        · rw [h] at hy; exact h3 hy
        · exact h2 ⟨i, h, hy⟩
theorem fold_zero (adj : Nat → List Nat) : ∀ (l : List Nat) (e : Nat → Int), (∀ i ∈ l, e i = 0) → l.foldl (fun e i => leadF e i (adj i)) e = e := by
  intro l
  induction l with
  | nil => intro e _; rfl
  | cons a t ih =>
    intro e he
    show t.foldl (fun e i => leadF e i (adj i)) (leadF e a (adj a)) = e
    rw [leadF_zero a _ e (he a List.mem_cons_self)]
    exact ih e (fun i hi => he i (List.mem_cons_of_mem _ hi))

/-- how what leads to one another hangs on the edges -/
structure Adj (n : Nat) (adj : Nat → List Nat) (L : Nat → Nat → Bool) : Prop where
  one : ∀ p y, y ∈ adj p → p < n ∧ y < n ∧ L p y = true
  ind : ∀ (a : Nat) (P : Nat → Prop), a < n → P a → (∀ p y, P p → L a p = true → y ∈ adj p → P y) → ∀ y, L a y = true → P y
  head : ∀ a y, a < n → L a y = true → a = y ∨ ∃ j ∈ adj a, L j y = true
  nodup : ∀ p, (adj p).Nodup
theorem Adj.last {n : Nat} {adj : Nat → List Nat} {L : Nat → Nat → Bool} (h : Adj n adj L) {a y : Nat} (ha : a < n) (hl : L a y = true) : a = y ∨ ∃ p, L a p = true ∧ y ∈ adj p :=
  h.ind a (fun y => a = y ∨ ∃ p, L a p = true ∧ y ∈ adj p) ha (.inl rfl) (fun p y _ hp hy => .inr ⟨p, hp, hy⟩) y hl
def circP (adj : Nat → List Nat) (L : Nat → Nat → Bool) (k : Nat) : Prop := ∃ j ∈ adj k, L j k = true
structure Part (adj : Nat → List Nat) (main : Nat) (D : Nat → Prop) (e : Nat → Int) (y : Nat) : Prop where
  z : e y = 0 ↔ y ≠ main ∧ ∀ p, D p → y ∈ adj p → e p = 0
  m : e y = -1 ↔ ∃ p, D p ∧ y ∈ adj p ∧ e p = -1
  v : e y ≠ 0 → e y ≠ -1 → 1 ≤ e y ∧ (∀ p, D p → y ∈ adj p → e p + 1 ≤ e y) ∧ ((e y = 1 ∧ y = main) ∨ ∃ p, D p ∧ y ∈ adj p ∧ 1 ≤ e p ∧ e y = e p + 1)
structure SpecE (adj : Nat → List Nat) (L : Nat → Nat → Bool) (main : Nat) (e : Nat → Int) (x : Nat) : Prop where
  z : e x = 0 ↔ L main x = false
  m : e x = -1 ↔ L main x = true ∧ ∃ k, L main k = true ∧ L k x = true ∧ circP adj L k
  v : e x ≠ 0 → e x ≠ -1 → 1 ≤ e x ∧ (∀ p, x ∈ adj p → e p + 1 ≤ e x) ∧ ((e x = 1 ∧ x = main) ∨ ∃ p, x ∈ adj p ∧ 1 ≤ e p ∧ e x = e p + 1)
structure InvE (n : Nat) (adj : Nat → List Nat) (L : Nat → Nat → Bool) (main : Nat) (D : Nat → Prop) (e : Nat → Int) : Prop where
  done : ∀ x, D x → SpecE adj L main e x
  todo : ∀ y, y < n → ¬ D y → Part adj main D e y

theorem circ_yes {n : Nat} {adj : Nat → List Nat} {L : Nat → Nat → Bool} (hp : Pre n L) (ha : Adj n adj L) {a : Nat} (h : a < n) (hc : circB adj (grp L n a) = true) : ∀ x ∈ grp L n a, circP adj L x := by
  intro x hx
  obtain ⟨hx1, hx2⟩ := mem_grp.1 hx
  have two : ∀ y, y ∈ grp L n a → y ≠ x → circP adj L x := by
    intro y hy hne
    obtain ⟨hy1, hy2⟩ := mem_grp.1 hy
    have hxy := tog_iff.1 (tog_trans hp hx1 hy1 (by rw [tog_comm]; exact hx2) hy2)
    rcases ha.head x y hx1 hxy.1 with e | ⟨j, hj, hl⟩
    · exact absurd e.symm hne
    · exact ⟨j, hj, hp.trans j y x (ha.one x j hj).2.1 hl hxy.2⟩
  unfold circB at hc
  rw [Bool.or_eq_true] at hc
  rcases hc with hc | hc
  · have hlen : 1 < (grp L n a).length := of_decide_eq_true hc
    have hn := grp_nodup L n a
    obtain ⟨y, z, t, e⟩ : ∃ y z t, grp L n a = y :: z :: t := by
      match hg : grp L n a with
      | [] => rw [hg] at hlen; simp at hlen
      | [y] => rw [hg] at hlen; simp at hlen
      | y :: z :: t => exact ⟨y, z, t, rfl⟩
    have hyz : y ≠ z := by
      rw [e] at hn
      have := (List.nodup_cons.1 hn).1
      exact fun e => this (by rw [e]; exact List.mem_cons_self)
    by_cases hxy : y = x
    · exact two z (by rw [e]; simp) (fun h => hyz (hxy.trans h.symm))
    · exact two y (by rw [e]; simp) hxy
  · have hc' : (grp L n a)[0]?.getD 0 ∈ adj ((grp L n a)[0]?.getD 0) := of_decide_eq_true hc
    have hm : (grp L n a)[0]?.getD 0 ∈ grp L n a := GG.getD_mem (List.length_pos_of_mem hx)
    by_cases e : (grp L n a)[0]?.getD 0 = x
    · rw [e] at hc'
      exact ⟨x, hc', hp.refl x hx1⟩
    · exact two _ hm e
theorem circ_no {n : Nat} {adj : Nat → List Nat} {L : Nat → Nat → Bool} (hp : Pre n L) (ha : Adj n adj L) {a : Nat} (h : a < n) (hc : circB adj (grp L n a) = false) : grp L n a = [a] ∧ a ∉ adj a ∧ ¬ circP adj L a := by
  unfold circB at hc
  rw [Bool.or_eq_false_iff] at hc
  have h1 : ¬ 1 < (grp L n a).length := of_decide_eq_false hc.1
  have hs := grp_self hp h
  have e : grp L n a = [a] := by
    match hg : grp L n a with
    | [] => rw [hg] at hs; cases hs
    | [y] => rw [hg] at hs; rw [List.mem_singleton.1 hs]
    | y :: z :: t => rw [hg] at h1; simp at h1
  have h2 := of_decide_eq_false hc.2
  rw [e] at h2
  have h3 : a ∉ adj a := h2
  refine ⟨e, h3, ?_⟩
  rintro ⟨j, hj, hl⟩
  obtain ⟨_, hj1, hj2⟩ := ha.one a j hj
  have : j ∈ grp L n a := mem_grp.2 ⟨hj1, tog_iff.2 ⟨hj2, hl⟩⟩
  rw [e] at this
  rw [List.mem_singleton.1 this] at hj
  exact h3 hj

theorem inv_start {n : Nat} {adj : Nat → List Nat} {L : Nat → Nat → Bool} {main : Nat} {D : Nat → Prop} (hD : ∀ x, ¬ D x) : InvE n adj L main D (startE main) := by
  refine ⟨fun x hx => absurd hx (hD x), fun y _ _ => ⟨?_, ?_, ?_⟩⟩
  · unfold startE
    by_cases h : y = main
    · rw [if_pos h]; exact ⟨fun h => by omega, fun g => absurd h g.1⟩
    · rw [if_neg h]; exact ⟨fun _ => ⟨h, fun p hp => absurd hp (hD p)⟩, fun _ => rfl⟩
  · unfold startE
    refine ⟨fun h => ?_, fun ⟨p, hp, _⟩ => absurd hp (hD p)⟩
    split at h <;> omega
  · intro h1 h2
    unfold startE at h1 ⊢
    by_cases h : y = main
    · rw [if_pos h]; exact ⟨by omega, fun p hp => absurd hp (hD p), .inl ⟨rfl, h⟩⟩
    · rw [if_neg h] at h1; exact absurd rfl h1

theorem inv_step {n : Nat} {adj : Nat → List Nat} {L : Nat → Nat → Bool} (hp : Pre n L) (ha : Adj n adj L) {main : Nat} (hm : main < n) {T : Nat → Bool} {a : Nat} (hc : Closed L n T) (ex : nextO L n T = some a) {f : Nat → Int}
    (h : InvE n adj L main (fun y => y < n ∧ putM L T a n y = false) f) : InvE n adj L main (fun y => y < n ∧ T y = false) (stepE adj f (grp L n a)) := by
  obtain ⟨haN, hTa, hw⟩ := next_is ex
  have hc' := put_closed hp hc ex
  generalize eg : grp L n a = g
  have gmem : ∀ i, i ∈ g ↔ i < n ∧ tog L a i = true := fun i => by rw [← eg]; exact mem_grp
  have g1 : ∀ i, i ∈ g → i < n ∧ T i = false ∧ putM L T a n i = true := fun i hi => ⟨((gmem i).1 hi).1, grp_fresh hc ex (by rw [eg]; exact hi), putM_iff.2 (.inr ((gmem i).1 hi))⟩
  have D_iff : ∀ x, (x < n ∧ T x = false) ↔ (x < n ∧ putM L T a n x = false) ∨ x ∈ g := by
    intro x
    constructor
    · rintro ⟨h1, h2⟩
      cases e : putM L T a n x
      · exact .inl ⟨h1, rfl⟩
      · rcases putM_iff.1 e with e | e
        · rw [h2] at e; cases e
        · exact .inr ((gmem x).2 e)
    · rintro (⟨h1, h2⟩ | h1)
      · refine ⟨h1, ?_⟩
        cases e : T x
        · rfl
        · rw [putM_iff.2 (.inl e)] at h2; cases h2
      · exact ⟨(g1 x h1).1, (g1 x h1).2.1⟩
  have g2 : ∀ i p, i ∈ g → i ∈ adj p → (p < n ∧ putM L T a n p = false) ∨ p ∈ g := by
    intro i p hi hip
    obtain ⟨h1, h2, h3⟩ := ha.one p i hip
    refine (D_iff p).1 ⟨h1, ?_⟩
    cases e : T p
    · rfl
    · have := hc p i h1 e h3
      rw [(g1 i hi).2.1] at this; cases this
  have g3 : ∀ i y, i ∈ g → y ∈ adj i → ¬ (y < n ∧ putM L T a n y = false) := by
    rintro i y hi hy ⟨h1, h2⟩
    obtain ⟨h3, _, h4⟩ := ha.one i y hy
    have := hc' i y h3 (g1 i hi).2.2 h4
    rw [h2] at this; cases this
  have g4 : ∀ x p, (x < n ∧ putM L T a n x = false) → x ∈ adj p → p < n ∧ putM L T a n p = false := by
    rintro x p ⟨h1, h2⟩ hx
    obtain ⟨h3, _, h4⟩ := ha.one p x hx
    refine ⟨h3, ?_⟩
    cases e : putM L T a n p
    · rfl
    · have := hc' p x h3 e h4
      rw [h2] at this; cases this
  have notg : ∀ x, (x < n ∧ putM L T a n x = false) → x ∉ g := fun x hx hg => by rw [(g1 x hg).2.2] at hx; exact absurd hx.2 (by decide)
  have agN : a ∈ g := (gmem a).2 ⟨haN, tog_self hp haN⟩
  have pg : ∀ x, x ∈ g → Part adj main (fun y => y < n ∧ putM L T a n y = false) f x := fun x hx => h.todo x (g1 x hx).1 (fun hD => notg x hD hx)
  -- a group is reached just if one of its values says so
  have R : ∀ x, x ∈ g → (L main x = true ↔ ∃ z, z ∈ g ∧ f z ≠ 0) := by
    intro x hx
    constructor
    · intro hl
      refine ha.ind main (fun y => y ∈ g → ∃ z, z ∈ g ∧ f z ≠ 0) hm (fun hg => ⟨main, hg, fun e => ((pg main hg).z.1 e).1 rfl⟩) (fun p y ih hlp hy hyg => ?_) x hl hx
      rcases g2 y p hyg hy with hD | hg
      · refine ⟨y, hyg, fun e => ?_⟩
        have h1 := ((pg y hyg).z.1 e).2 p hD hy
        have h2 := (h.done p hD).z.1 h1
        rw [hlp] at h2; cases h2
      · exact ih hg
    · rintro ⟨z, hz, hfz⟩
      have hzl : L main z = true := by
        by_cases e : z = main
        · rw [e]; exact hp.refl main hm
        · by_cases hx : ∃ p, (p < n ∧ putM L T a n p = false) ∧ z ∈ adj p ∧ f p ≠ 0
          · obtain ⟨p, hD, hzp, hfp⟩ := hx
            have h1 : L main p = true := by
              cases e' : L main p
              · exact absurd ((h.done p hD).z.2 e') hfp
              · rfl
            exact hp.trans main p z hm h1 (ha.one p z hzp).2.2
          · refine absurd ((pg z hz).z.2 ⟨e, fun p hD hzp => ?_⟩) hfz
            by_cases e' : f p = 0
            · exact e'
            · exact absurd ⟨p, hD, hzp, e'⟩ hx
      have h1 := (gmem z).1 hz
      have h2 := (gmem x).1 hx
      exact hp.trans main z x hm hzl (tog_iff.1 (tog_trans hp h1.1 h2.1 (by rw [tog_comm]; exact h1.2) h2.2)).1
  -- what stands, if what is done is as it was
  have keep : ∀ e' : Nat → Int, (∀ x, (x < n ∧ putM L T a n x = false) → e' x = f x) → ∀ x, (x < n ∧ putM L T a n x = false) → SpecE adj L main e' x := by
    intro e' he x hD
    have s := h.done x hD
    refine ⟨by rw [he x hD]; exact s.z, by rw [he x hD]; exact s.m, fun h1 h2 => ?_⟩
    rw [he x hD] at h1 h2
    obtain ⟨v1, v2, v3⟩ := s.v h1 h2
    rw [he x hD]
    refine ⟨v1, fun p hpx => by rw [he p (g4 x p hD hpx)]; exact v2 p hpx, ?_⟩
    rcases v3 with v3 | ⟨p, q1, q2, q3⟩
    · exact .inl v3
    · exact .inr ⟨p, q1, by rw [he p (g4 x p hD q1)]; exact q2, by rw [he p (g4 x p hD q1)]; exact q3⟩
  cases hcb : circB adj g
  · -- a node alone
    obtain ⟨e1, hna, hnc⟩ := circ_no hp ha haN (by rw [eg]; exact hcb)
    rw [eg] at e1
    have hst : stepE adj f g = leadF f a (adj a) := by
      unfold stepE
      rw [hcb, Bool.false_and, e1]
      rfl
    have hat : ∀ y, stepE adj f g y = if y ∈ adj a then comb (f a) (f y) else f y := fun y => by rw [hst]; exact leadF_of a _ f (ha.nodup a) hna y
    have hold : ∀ x, (x < n ∧ putM L T a n x = false) → stepE adj f g x = f x := fun x hD => by rw [hat, if_neg (fun hx => g3 a x agN hx hD)]
    have ha' : stepE adj f g a = f a := by rw [hat, if_neg hna]
    have pa := pg a agN
    have preds : ∀ p, a ∈ adj p → p < n ∧ putM L T a n p = false := by
      intro p hpa
      rcases g2 a p agN hpa with hD | hg
      · exact hD
      · rw [e1] at hg
        rw [List.mem_singleton.1 hg] at hpa
        exact absurd hpa hna
    refine ⟨fun x hx => ?_, fun y hy hny => ?_⟩
    · rcases (D_iff x).1 hx with hD | hg
      · exact keep _ hold x hD
      · have hxa : x = a := by rw [e1] at hg; exact List.mem_singleton.1 hg
        subst hxa
        refine ⟨?_, ?_, ?_⟩
        · rw [ha']
          constructor
          · intro h0
            cases e : L main x
            · rfl
            · obtain ⟨z, hz, hfz⟩ := (R x agN).1 e
              rw [e1] at hz
              rw [List.mem_singleton.1 hz] at hfz
              exact absurd h0 hfz
          · intro h0
            by_cases e : f x = 0
            · exact e
            · have := (R x agN).2 ⟨x, agN, e⟩
              rw [h0] at this; cases this
        · rw [ha', pa.m]
          constructor
          · rintro ⟨p, hD, hpx, hfp⟩
            obtain ⟨s1, k, s2, s3, s4⟩ := (h.done p hD).m.1 hfp
            have hl := (ha.one p x hpx).2.2
            have hk : k < n := hp.lt main k hm s2
            exact ⟨hp.trans main p x hm s1 hl, k, s2, hp.trans k p x hk s3 hl, s4⟩
          · rintro ⟨s1, k, s2, s3, s4⟩
            have hk : k < n := hp.lt main k hm s2
            rcases ha.last hk s3 with e | ⟨p, q1, q2⟩
            · rw [e] at s4; exact absurd s4 hnc
            · have hD := preds p q2
              exact ⟨p, hD, q2, (h.done p hD).m.2 ⟨hp.trans main k p hm s2 q1, k, s2, q1, s4⟩⟩
        · intro h1 h2
          rw [ha'] at h1 h2 ⊢
          obtain ⟨v1, v2, v3⟩ := pa.v h1 h2
          refine ⟨v1, fun p hpx => by rw [hold p (preds p hpx)]; exact v2 p (preds p hpx) hpx, ?_⟩
          rcases v3 with v3 | ⟨p, q0, q1, q2, q3⟩
          · exact .inl v3
          · exact .inr ⟨p, q1, by rw [hold p q0]; exact q2, by rw [hold p q0]; exact q3⟩
    · have hnD : ¬ (y < n ∧ putM L T a n y = false) := fun hD => hny ((D_iff y).2 (.inl hD))
      have hya : y ≠ a := fun e => hny ((D_iff y).2 (.inr (by rw [e]; exact agN)))
      have py := h.todo y hy hnD
      have D' : ∀ p, (p < n ∧ T p = false) → (p < n ∧ putM L T a n p = false) ∨ p = a := by
        intro p hD
        rcases (D_iff p).1 hD with h1 | h1
        · exact .inl h1
        · rw [e1] at h1; exact .inr (List.mem_singleton.1 h1)
      have Dold : ∀ p, (p < n ∧ putM L T a n p = false) → (p < n ∧ T p = false) := fun p hD => (D_iff p).2 (.inl hD)
      have Da : a < n ∧ T a = false := ⟨haN, hTa⟩
      by_cases hya' : y ∈ adj a
      · have hey : stepE adj f g y = comb (f a) (f y) := by rw [hat, if_pos hya']
        by_cases c0 : f a = 0
        · have hey' : stepE adj f g y = f y := by rw [hey]; unfold comb; rw [if_pos (.inl c0)]
          refine ⟨?_, ?_, ?_⟩
          · rw [hey', py.z]
            refine and_congr Iff.rfl ⟨fun q p hD hpy => ?_, fun q p hD hpy => by have := q p (Dold p hD) hpy; rw [hold p hD] at this; exact this⟩
            rcases D' p hD with h1 | h1
            · rw [hold p h1]; exact q p h1 hpy
            · rw [h1, ha', c0]
          · rw [hey', py.m]
            constructor
            · rintro ⟨p, hD, q1, q2⟩; exact ⟨p, Dold p hD, q1, by rw [hold p hD]; exact q2⟩
            · rintro ⟨p, hD, q1, q2⟩
              rcases D' p hD with h1 | h1
              · exact ⟨p, h1, q1, by rw [hold p h1] at q2; exact q2⟩
              · rw [h1, ha', c0] at q2; omega
          · intro h1 h2
            rw [hey'] at h1 h2 ⊢
            obtain ⟨v1, v2, v3⟩ := py.v h1 h2
            refine ⟨v1, fun p hD hpy => ?_, ?_⟩
            · rcases D' p hD with h3 | h3
              · rw [hold p h3]; exact v2 p h3 hpy
              · rw [h3, ha', c0]; omega
            · rcases v3 with v3 | ⟨p, q0, q1, q2, q3⟩
              · exact .inl v3
              · exact .inr ⟨p, Dold p q0, q1, by rw [hold p q0]; exact q2, by rw [hold p q0]; exact q3⟩
        · by_cases cm : f a = -1
          · have hey' : stepE adj f g y = -1 := by
              rw [hey]; unfold comb
              rw [cm]
              split
              · omega
              · rfl
            refine ⟨⟨fun e => by omega, fun q => ?_⟩, ⟨fun _ => ⟨a, Da, hya', by rw [ha']; exact cm⟩, fun _ => hey'⟩, fun _ h2 => absurd hey' h2⟩
            have := q.2 a Da hya'
            rw [ha', cm] at this; omega
          · obtain ⟨a1, _, _⟩ := pa.v c0 cm
            by_cases ym : f y = -1
            · have hey' : stepE adj f g y = -1 := by rw [hey]; unfold comb; rw [if_pos (.inr ym), ym]
              obtain ⟨p, hD, q1, q2⟩ := py.m.1 ym
              refine ⟨⟨fun e => by omega, fun q => ?_⟩, ⟨fun _ => ⟨p, Dold p hD, q1, by rw [hold p hD]; exact q2⟩, fun _ => hey'⟩, fun _ h2 => absurd hey' h2⟩
              have := q.2 p (Dold p hD) q1
              rw [hold p hD, q2] at this; omega
            · have hey' : stepE adj f g y = max (f y) (f a + 1) := by rw [hey]; unfold comb; rw [if_neg (by omega), if_neg cm]
              have hge : f a + 1 ≤ stepE adj f g y := by rw [hey']; exact Int.le_max_right _ _
              have hge2 : f y ≤ stepE adj f g y := by rw [hey']; exact Int.le_max_left _ _
              refine ⟨⟨fun e => by omega, fun q => ?_⟩, ⟨fun e => by omega, ?_⟩, fun h1 h2 => ⟨by omega, fun p hD hpy => ?_, ?_⟩⟩
              · have := q.2 a Da hya'
                rw [ha'] at this; exact absurd this c0
              · rintro ⟨p, hD, q1, q2⟩
                rcases D' p hD with h3 | h3
                · rw [hold p h3] at q2
                  exact absurd (py.m.2 ⟨p, h3, q1, q2⟩) ym
                · rw [h3, ha'] at q2; exact absurd q2 cm
              · rcases D' p hD with h3 | h3
                · rw [hold p h3]
                  by_cases y0 : f y = 0
                  · have := (py.z.1 y0).2 p h3 hpy; omega
                  · have := (py.v y0 ym).2.1 p h3 hpy; omega
                · rw [h3, ha']; exact hge
              · by_cases hle : f y ≤ f a + 1
                · refine .inr ⟨a, Da, hya', by rw [ha']; exact a1, ?_⟩
                  rw [hey', ha']; omega
                · have hyy : stepE adj f g y = f y := by rw [hey']; omega
                  rw [hyy]
                  have y0 : f y ≠ 0 := by omega
                  rcases (py.v y0 ym).2.2 with v3 | ⟨p, q0, q1, q2, q3⟩
                  · omega
                  · exact .inr ⟨p, Dold p q0, q1, by rw [hold p q0]; exact q2, by rw [hold p q0]; exact q3⟩
      · have hey : stepE adj f g y = f y := by rw [hat, if_neg hya']
        have Dn : ∀ p, (p < n ∧ T p = false) → y ∈ adj p → p < n ∧ putM L T a n p = false := by
          intro p hD hpy
          rcases D' p hD with h1 | h1
          · exact h1
          · rw [h1] at hpy; exact absurd hpy hya'
        refine ⟨?_, ?_, ?_⟩
        · rw [hey, py.z]
          exact and_congr Iff.rfl ⟨fun q p hD hpy => by rw [hold p (Dn p hD hpy)]; exact q p (Dn p hD hpy) hpy, fun q p hD hpy => by have := q p (Dold p hD) hpy; rw [hold p hD] at this; exact this⟩
        · rw [hey, py.m]
          constructor
          · rintro ⟨p, hD, q1, q2⟩; exact ⟨p, Dold p hD, q1, by rw [hold p hD]; exact q2⟩
          · rintro ⟨p, hD, q1, q2⟩; exact ⟨p, Dn p hD q1, q1, by rw [hold p (Dn p hD q1)] at q2; exact q2⟩
        · intro h1 h2
          rw [hey] at h1 h2 ⊢
          obtain ⟨v1, v2, v3⟩ := py.v h1 h2
          refine ⟨v1, fun p hD hpy => by rw [hold p (Dn p hD hpy)]; exact v2 p (Dn p hD hpy) hpy, ?_⟩
          rcases v3 with v3 | ⟨p, q0, q1, q2, q3⟩
          · exact .inl v3
          · exact .inr ⟨p, Dold p q0, q1, by rw [hold p q0]; exact q2, by rw [hold p q0]; exact q3⟩
  · cases hhb : hasB f g
    · -- a circle that is not reached
      have hz : ∀ i, i ∈ g → f i = 0 := by
        intro i hi
        unfold hasB at hhb
        rw [List.any_eq_false] at hhb
        have := hhb i hi
        by_cases e : f i = 0
        · exact e
        · exact absurd (decide_eq_true e) this
      have hst : stepE adj f g = f := by
        unfold stepE
        rw [hcb, hhb]
        exact fold_zero adj g f hz
      rw [hst]
      refine ⟨fun x hx => ?_, fun y hy hny => ?_⟩
      · rcases (D_iff x).1 hx with hD | hg
        · exact h.done x hD
        · have hl : L main x = false := by
            cases e : L main x
            · rfl
            · obtain ⟨z, hz1, hz2⟩ := (R x hg).1 e
              exact absurd (hz z hz1) hz2
          have h0 := hz x hg
          refine ⟨⟨fun _ => hl, fun _ => h0⟩, ⟨fun e => by omega, fun q => by rw [hl] at q; exact absurd q.1 (by decide)⟩, fun h1 _ => absurd h0 h1⟩
      · have hnD : ¬ (y < n ∧ putM L T a n y = false) := fun hD => hny ((D_iff y).2 (.inl hD))
        have py := h.todo y hy hnD
        refine ⟨?_, ?_, ?_⟩
        · rw [py.z]
          refine and_congr Iff.rfl ⟨fun q p hD hpy => ?_, fun q p hD hpy => q p ((D_iff p).2 (.inl hD)) hpy⟩
          rcases (D_iff p).1 hD with h1 | h1
          · exact q p h1 hpy
          · exact hz p h1
        · rw [py.m]
          constructor
          · rintro ⟨p, hD, q⟩; exact ⟨p, (D_iff p).2 (.inl hD), q⟩
          · rintro ⟨p, hD, q1, q2⟩
            rcases (D_iff p).1 hD with h1 | h1
            · exact ⟨p, h1, q1, q2⟩
            · rw [hz p h1] at q2; omega
        · intro h1 h2
          obtain ⟨v1, v2, v3⟩ := py.v h1 h2
          refine ⟨v1, fun p hD hpy => ?_, ?_⟩
          · rcases (D_iff p).1 hD with h3 | h3
            · exact v2 p h3 hpy
            · rw [hz p h3]; omega
          · rcases v3 with v3 | ⟨p, q0, q⟩
            · exact .inl v3
            · exact .inr ⟨p, (D_iff p).2 (.inl q0), q⟩
    · -- a circle that is reached
      have hx0 : ∃ z, z ∈ g ∧ f z ≠ 0 := by
        unfold hasB at hhb
        rw [List.any_eq_true] at hhb
        obtain ⟨z, hz, q⟩ := hhb
        exact ⟨z, hz, of_decide_eq_true q⟩
      have hat : ∀ y, stepE adj f g y = if ∃ i ∈ g, y ∈ adj i then -1 else if y ∈ g then -1 else f y := by
        intro y
        unfold stepE
        rw [hcb, hhb]
        exact fold_neg adj g (downF f g) (fun i hi => if_pos hi) y
      have hg : ∀ x, x ∈ g → stepE adj f g x = -1 := by
        intro x hx
        rw [hat, if_pos hx]
        split <;> rfl
      have hold : ∀ x, (x < n ∧ putM L T a n x = false) → stepE adj f g x = f x := by
        intro x hD
        rw [hat, if_neg (fun ⟨i, hi, hx⟩ => g3 i x hi hx hD), if_neg (notg x hD)]
      refine ⟨fun x hx => ?_, fun y hy hny => ?_⟩
      · rcases (D_iff x).1 hx with hD | hgx
        · exact keep _ hold x hD
        · have hl := (R x hgx).2 hx0
          have hcx := circ_yes hp ha haN (by rw [eg]; exact hcb) x (by rw [eg]; exact hgx)
          have hm1 := hg x hgx
          have hxn := (g1 x hgx).1
          refine ⟨⟨fun e => by omega, fun e => by rw [hl] at e; cases e⟩, ⟨fun _ => ⟨hl, x, hl, hp.refl x hxn, hcx⟩, fun _ => hm1⟩, fun _ h2 => absurd hm1 h2⟩
      · have hnD : ¬ (y < n ∧ putM L T a n y = false) := fun hD => hny ((D_iff y).2 (.inl hD))
        have hng : y ∉ g := fun hgy => hny ((D_iff y).2 (.inr hgy))
        have py := h.todo y hy hnD
        by_cases hi : ∃ i ∈ g, y ∈ adj i
        · have hey : stepE adj f g y = -1 := by rw [hat, if_pos hi]
          obtain ⟨i, hig, hyi⟩ := hi
          have hDi := (D_iff i).2 (.inr hig)
          refine ⟨⟨fun e => by omega, fun q => ?_⟩, ⟨fun _ => ⟨i, hDi, hyi, hg i hig⟩, fun _ => hey⟩, fun _ h2 => absurd hey h2⟩
          have := q.2 i hDi hyi
          rw [hg i hig] at this; omega
        · have hey : stepE adj f g y = f y := by rw [hat, if_neg hi, if_neg hng]
          have Dn : ∀ p, (p < n ∧ T p = false) → y ∈ adj p → p < n ∧ putM L T a n p = false := by
            intro p hD hpy
            rcases (D_iff p).1 hD with h1 | h1
            · exact h1
            · exact absurd ⟨p, h1, hpy⟩ hi
          have Dold : ∀ p, (p < n ∧ putM L T a n p = false) → (p < n ∧ T p = false) := fun p hD => (D_iff p).2 (.inl hD)
          refine ⟨?_, ?_, ?_⟩
          · rw [hey, py.z]
            exact and_congr Iff.rfl ⟨fun q p hD hpy => by rw [hold p (Dn p hD hpy)]; exact q p (Dn p hD hpy) hpy, fun q p hD hpy => by have := q p (Dold p hD) hpy; rw [hold p hD] at this; exact this⟩
          · rw [hey, py.m]
            constructor
            · rintro ⟨p, hD, q1, q2⟩; exact ⟨p, Dold p hD, q1, by rw [hold p hD]; exact q2⟩
            · rintro ⟨p, hD, q1, q2⟩; exact ⟨p, Dn p hD q1, q1, by rw [hold p (Dn p hD q1)] at q2; exact q2⟩
          · intro h1 h2
            rw [hey] at h1 h2 ⊢
            obtain ⟨v1, v2, v3⟩ := py.v h1 h2
            refine ⟨v1, fun p hD hpy => by rw [hold p (Dn p hD hpy)]; exact v2 p (Dn p hD hpy) hpy, ?_⟩
            rcases v3 with v3 | ⟨p, q0, q1, q2, q3⟩
            · exact .inl v3
            · exact .inr ⟨p, Dold p q0, q1, by rw [hold p q0]; exact q2, by rw [hold p q0]; exact q3⟩
theorem inv_all {n : Nat} {adj : Nat → List Nat} {L : Nat → Nat → Bool} (hp : Pre n L) (ha : Adj n adj L) {main : Nat} (hm : main < n) : ∀ (f : Nat) (T : Nat → Bool), GG.unv n T ≤ f → Closed L n T →
    InvE n adj L main (fun y => y < n ∧ T y = false) ((groupsF L n f T).foldr (fun g e => stepE adj e g) (startE main)) := by
  intro f
  induction f with
  | zero =>
    intro T hf hc
    refine inv_start (fun x hx => ?_)
    have := unv_zero (n := n) (T := T) (by omega) x hx.1
    rw [hx.2] at this; cases this
  | succ f ih =>
    intro T hf hc
    cases e : nextO L n T with
    | none =>
      rw [groups_stop _ e]
      refine inv_start (fun x hx => ?_)
      have := next_stop hp e x hx.1
      rw [hx.2] at this; cases this
    | some a =>
      have hl := put_less hp e
      have e1 : groupsF L n (f + 1) T = grp L n a :: groupsF L n f (putM L T a n) := by
        show (match nextO L n T with | none => [] | some a => grp L n a :: groupsF L n f (putM L T a n)) = _
        rw [e]
      rw [e1, List.foldr_cons]
      exact inv_step hp ha hm hc e (ih _ (by omega) (put_closed hp hc e))
theorem ent_spec {n : Nat} {adj : Nat → List Nat} {L : Nat → Nat → Bool} (hp : Pre n L) (ha : Adj n adj L) {main : Nat} (hm : main < n) (x : Nat) (hx : x < n) : SpecE adj L main (entF adj (groupsF L n n (fun _ => false)) main) x := by
  unfold entF
  rw [List.foldl_reverse]
  exact (inv_all hp ha hm n (fun _ => false) (GG.unv_le _ _) (fun a b _ h => by cases h)).done x ⟨hx, rfl⟩
end CC
