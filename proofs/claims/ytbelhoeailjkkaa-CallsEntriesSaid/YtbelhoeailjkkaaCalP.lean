import Derived.Test.YtbelhoeailjkkaaGraP
set_option linter.unusedVariables false
set_option linter.unusedSimpArgs false
/-! groups of nodes that lead to one another: plain -/
namespace Go.Proofs.Ytbelhoeailjkkaa
namespace CC
/-- what 'leads to' is like -/
structure Pre (n : Nat) (L : Nat → Nat → Bool) : Prop where
  refl : ∀ a, a < n → L a a = true
  trans : ∀ a b c, a < n → L a b = true → L b c = true → L a c = true
  lt : ∀ a b, a < n → L a b = true → b < n
def tog (L : Nat → Nat → Bool) (a b : Nat) : Bool := L a b && L b a
def grp (L : Nat → Nat → Bool) (n a : Nat) : List Nat := (List.range n).filter (tog L a)
def waitsB (L : Nat → Nat → Bool) (n : Nat) (T : Nat → Bool) (a : Nat) : Bool := (List.range n).any fun b => L a b && !T b && !tog L a b
def freeB (L : Nat → Nat → Bool) (n : Nat) (T : Nat → Bool) (a : Nat) : Bool := !T a && !waitsB L n T a
def nextO (L : Nat → Nat → Bool) (n : Nat) (T : Nat → Bool) : Option Nat := (List.range n).find? (freeB L n T)
/-- told, and a group's first ones -/
def putM (L : Nat → Nat → Bool) (T : Nat → Bool) (a m : Nat) : Nat → Bool := fun b => T b || (decide (b < m) && tog L a b)
def groupsF (L : Nat → Nat → Bool) (n : Nat) : Nat → (Nat → Bool) → List (List Nat)
  | 0, _ => []
  | f + 1, T => match nextO L n T with
    | none => []
    | some a => grp L n a :: groupsF L n f (putM L T a n)
def Closed (L : Nat → Nat → Bool) (n : Nat) (T : Nat → Bool) : Prop := ∀ a b, a < n → T a = true → L a b = true → T b = true

theorem next_is {L : Nat → Nat → Bool} {n : Nat} {T : Nat → Bool} {a : Nat} (h : nextO L n T = some a) : a < n ∧ T a = false ∧ waitsB L n T a = false := by
  have h1 := List.find?_some h
  have h2 := List.mem_of_find?_eq_some h
  rw [List.mem_range] at h2
  unfold freeB at h1
  simp only [Bool.and_eq_true, Bool.not_eq_true'] at h1
  exact ⟨h2, h1.1, h1.2⟩
theorem next_no {L : Nat → Nat → Bool} {n : Nat} {T : Nat → Bool} (h : nextO L n T = none) : ∀ a, a < n → freeB L n T a = false := by
  intro a ha
  have := List.find?_eq_none.1 h a (List.mem_range.2 ha)
  simpa using this
theorem waits_no {L : Nat → Nat → Bool} {n : Nat} {T : Nat → Bool} {a : Nat} (h : waitsB L n T a = false) {b : Nat} (hb : b < n) (hl : L a b = true) : T b = true ∨ tog L a b = true := by
  unfold waitsB at h
  rw [List.any_eq_false] at h
  have := h b (List.mem_range.2 hb)
  rw [hl] at this
  cases h1 : T b <;> cases h2 : tog L a b <;> simp_all
theorem waits_yes {L : Nat → Nat → Bool} {n : Nat} {T : Nat → Bool} {a : Nat} (h : waitsB L n T a = true) : ∃ b, b < n ∧ L a b = true ∧ T b = false ∧ tog L a b = false := by
  unfold waitsB at h
  rw [List.any_eq_true] at h
  obtain ⟨b, hb, h1⟩ := h
  rw [List.mem_range] at hb
  refine ⟨b, hb, ?_⟩
  cases h2 : T b <;> cases h3 : tog L a b <;> simp_all
theorem tog_comm (L : Nat → Nat → Bool) (a b : Nat) : tog L a b = tog L b a := by unfold tog; exact Bool.and_comm _ _
theorem tog_self {n : Nat} {L : Nat → Nat → Bool} (h : Pre n L) {a : Nat} (ha : a < n) : tog L a a = true := by unfold tog; rw [h.refl a ha]; rfl
theorem tog_iff {L : Nat → Nat → Bool} {a b : Nat} : tog L a b = true ↔ L a b = true ∧ L b a = true := by unfold tog; simp
theorem tog_trans {n : Nat} {L : Nat → Nat → Bool} (h : Pre n L) {a b c : Nat} (ha : a < n) (hc : c < n) (h1 : tog L a b = true) (h2 : tog L b c = true) : tog L a c = true := by
  rw [tog_iff] at *
  exact ⟨h.trans a b c ha h1.1 h2.1, h.trans c b a hc h2.2 h1.2⟩
theorem mem_grp {L : Nat → Nat → Bool} {n a b : Nat} : b ∈ grp L n a ↔ b < n ∧ tog L a b = true := by
  unfold grp; rw [List.mem_filter, List.mem_range]
theorem grp_nodup (L : Nat → Nat → Bool) (n a : Nat) : (grp L n a).Nodup := List.nodup_range.filter _
theorem grp_self {n : Nat} {L : Nat → Nat → Bool} (h : Pre n L) {a : Nat} (ha : a < n) : a ∈ grp L n a := mem_grp.2 ⟨ha, tog_self h ha⟩
theorem putM_iff {L : Nat → Nat → Bool} {T : Nat → Bool} {a m b : Nat} : putM L T a m b = true ↔ T b = true ∨ (b < m ∧ tog L a b = true) := by
  unfold putM; simp
/-- one that can be told there is, as long as not all are told -/
theorem next_some {n : Nat} {L : Nat → Nat → Bool} (h : Pre n L) {T : Nat → Bool} {a : Nat} (ha : a < n) (hT : T a = false) : ∃ c, nextO L n T = some c := by
  have main : ∀ k a, a < n → T a = false → GG.unv n (fun x => !L a x) ≤ k → ∃ c, c < n ∧ T c = false ∧ waitsB L n T c = false := by
    intro k
    induction k with
    | zero =>
      intro a ha hT hk
      have := GG.unv_pos (n := n) (B := fun x => !L a x) ha (by show (!L a a) = false; rw [h.refl a ha]; rfl)
      omega
    | succ k ih =>
      intro a ha hT hk
      cases hw : waitsB L n T a
      · exact ⟨a, ha, hT, hw⟩
      · obtain ⟨b, hb, h1, h2, h3⟩ := waits_yes hw
        have hba : L b a = false := by
          cases e : L b a
          · rfl
          · rw [tog_iff.2 ⟨h1, e⟩] at h3; cases h3
        have hself : (fun x => !L a x) a = false := by show (!L a a) = false; rw [h.refl a ha]; rfl
        have hm := GG.unv_mono n (B := GG.setB (fun x => !L a x) a) (C := fun x => !L b x) (by
          intro x hx
          rw [GG.setB_of] at hx
          rcases hx with e | e
          · rw [e]; show (!L b a) = true; rw [hba]; rfl
          · show (!L b x) = true
            cases e' : L b x
            · rfl
            · have := h.trans a b x ha h1 e'
              have e2 : (!L a x) = true := e
              rw [this] at e2; cases e2)
        have hs := GG.unv_set n (B := fun x => !L a x) ha hself
        exact ih b hb h2 (by omega)
  obtain ⟨c, hc, h1, h2⟩ := main _ a ha hT (Nat.le_refl _)
  cases e : nextO L n T with
  | some d => exact ⟨d, rfl⟩
  | none =>
    have := next_no e c hc
    unfold freeB at this
    rw [h1, h2] at this
    cases this
theorem unv_all {n : Nat} {T : Nat → Bool} (h : ∀ a, a < n → T a = true) : GG.unv n T = 0 := by
  unfold GG.unv
  rw [List.length_eq_zero_iff, List.filter_eq_nil_iff]
  intro x hx
  rw [h x (List.mem_range.1 hx)]
  decide
theorem unv_zero {n : Nat} {T : Nat → Bool} (h : GG.unv n T = 0) : ∀ a, a < n → T a = true := by
  intro a ha
  cases e : T a
  · have := GG.unv_pos ha e; omega
  · rfl
theorem next_stop {n : Nat} {L : Nat → Nat → Bool} (h : Pre n L) {T : Nat → Bool} (e : nextO L n T = none) : ∀ a, a < n → T a = true := by
  intro a ha
  cases hT : T a
  · obtain ⟨c, hc⟩ := next_some h ha hT
    rw [e] at hc; cases hc
  · rfl
theorem put_closed {n : Nat} {L : Nat → Nat → Bool} (h : Pre n L) {T : Nat → Bool} {a : Nat} (hc : Closed L n T) (e : nextO L n T = some a) : Closed L n (putM L T a n) := by
  obtain ⟨ha, h1, h2⟩ := next_is e
  intro x y hx hp hl
  rw [putM_iff] at hp ⊢
  rcases hp with hp | ⟨_, hp⟩
  · exact .inl (hc x y hx hp hl)
  · have hy := h.lt x y hx hl
    rcases waits_no h2 hy (h.trans a x y ha (tog_iff.1 hp).1 hl) with h3 | h3
    · exact .inl h3
    · exact .inr ⟨hy, h3⟩
/-- a group's nodes are not told yet -/
theorem grp_fresh {n : Nat} {L : Nat → Nat → Bool} {T : Nat → Bool} {a b : Nat} (hc : Closed L n T) (e : nextO L n T = some a) (hb : b ∈ grp L n a) : T b = false := by
  obtain ⟨ha, h1, h2⟩ := next_is e
  obtain ⟨hb, h3⟩ := mem_grp.1 hb
  cases hT : T b
  · rfl
  · have := hc b a hb hT (tog_iff.1 h3).2
    rw [h1] at this; cases this
theorem put_less {n : Nat} {L : Nat → Nat → Bool} (h : Pre n L) {T : Nat → Bool} {a : Nat} (e : nextO L n T = some a) : GG.unv n (putM L T a n) < GG.unv n T := by
  obtain ⟨ha, h1, h2⟩ := next_is e
  have hm := GG.unv_mono n (B := GG.setB T a) (C := putM L T a n) (by
    intro x hx
    rw [GG.setB_of] at hx
    rw [putM_iff]
    rcases hx with e | e
    · rw [e]; exact .inr ⟨ha, tog_self h ha⟩
    · exact .inl e)
  have hs := GG.unv_set n (B := T) ha h1
  omega
/-- fuel that is enough -/
theorem groups_step {n : Nat} {L : Nat → Nat → Bool} (h : Pre n L) {T : Nat → Bool} {f : Nat} (hf : GG.unv n T ≤ f) {a : Nat} (e : nextO L n T = some a) : ∃ f', GG.unv n (putM L T a n) ≤ f' ∧ groupsF L n f T = grp L n a :: groupsF L n f' (putM L T a n) := by
  have := put_less h e
  obtain ⟨f', rfl⟩ : ∃ f', f = f' + 1 := ⟨f - 1, by omega⟩
  refine ⟨f', by omega, ?_⟩
  show (match nextO L n T with | none => [] | some a => grp L n a :: groupsF L n f' (putM L T a n)) = _
  rw [e]
theorem groups_stop {n : Nat} {L : Nat → Nat → Bool} {T : Nat → Bool} (f : Nat) (e : nextO L n T = none) : groupsF L n f T = [] := by
  cases f with
  | zero => rfl
  | succ f =>
    show (match nextO L n T with | none => [] | some a => grp L n a :: groupsF L n f (putM L T a n)) = _
    rw [e]
theorem groups_mem {n : Nat} {L : Nat → Nat → Bool} (h : Pre n L) : ∀ (f : Nat) (T : Nat → Bool), GG.unv n T ≤ f → Closed L n T →
    ((groupsF L n f T).flatten.Nodup ∧ ∀ v, v ∈ (groupsF L n f T).flatten ↔ v < n ∧ T v = false) := by
  intro f
  induction f with
  | zero =>
    intro T hf hc
    refine ⟨by simp [groupsF], fun v => ⟨fun hv => by simp [groupsF] at hv, fun ⟨hv, hT⟩ => ?_⟩⟩
    have := unv_zero (n := n) (T := T) (by omega) v hv
    rw [hT] at this; cases this
  | succ f ih =>
    intro T hf hc
    cases e : nextO L n T with
    | none =>
      rw [groups_stop _ e]
      refine ⟨by simp, fun v => ⟨fun hv => by simp at hv, fun ⟨hv, hT⟩ => ?_⟩⟩
      have := next_stop h e v hv
      rw [hT] at this; cases this
    | some a =>
      have hl := put_less h e
      have e1 : groupsF L n (f + 1) T = grp L n a :: groupsF L n f (putM L T a n) := by
        show (match nextO L n T with | none => [] | some a => grp L n a :: groupsF L n f (putM L T a n)) = _
        rw [e]
      obtain ⟨i1, i2⟩ := ih (putM L T a n) (by omega) (put_closed h hc e)
      obtain ⟨ha, hT, hw⟩ := next_is e
      rw [e1, List.flatten_cons]
      refine ⟨?_, fun v => ?_⟩
      · rw [List.nodup_append]
        refine ⟨grp_nodup L n a, i1, fun x hx y hy e => ?_⟩
        subst e
        have h1 := ((i2 x).1 hy).2
        obtain ⟨hx1, hx2⟩ := mem_grp.1 hx
        rw [putM_iff.2 (.inr ⟨hx1, hx2⟩)] at h1; cases h1
      · rw [List.mem_append, i2, mem_grp]
        constructor
        · rintro (⟨h1, h2⟩ | ⟨h1, h2⟩)
          · exact ⟨h1, grp_fresh hc e (mem_grp.2 ⟨h1, h2⟩)⟩
          · refine ⟨h1, ?_⟩
            cases hTv : T v
            · rfl
            · rw [putM_iff.2 (.inl hTv)] at h2; cases h2
        · rintro ⟨h1, h2⟩
          cases h3 : tog L a v
          · refine .inr ⟨h1, ?_⟩
            cases h4 : putM L T a n v
            · rfl
            · rcases putM_iff.1 h4 with h5 | ⟨_, h5⟩
              · rw [h2] at h5; cases h5
              · rw [h3] at h5; cases h5
          · exact .inl ⟨h1, rfl⟩
theorem mem_flat {gs : List (List Nat)} {i v : Nat} (h : v ∈ gs[i]?.getD []) : v ∈ gs.flatten := by
  rw [List.mem_flatten]
  by_cases hi : i < gs.length
  · rw [List.getElem?_eq_getElem hi] at h
    exact ⟨gs[i], List.getElem_mem hi, h⟩
  · rw [List.getElem?_eq_none (by omega)] at h
    cases h
/-- which nodes are in one group, and which group stands ahead -/
theorem groups_rel {n : Nat} {L : Nat → Nat → Bool} (h : Pre n L) : ∀ (f : Nat) (T : Nat → Bool), GG.unv n T ≤ f → Closed L n T → ∀ (i j v u : Nat), v ∈ (groupsF L n f T)[i]?.getD [] → u ∈ (groupsF L n f T)[j]?.getD [] →
    tog L v u = decide (i = j) ∧ (L v u = true → j ≤ i) := by
  intro f
  induction f with
  | zero => intro T hf hc i j v u hv; simp [groupsF] at hv
  | succ f ih =>
    intro T hf hc i j v u hv hu
    cases e : nextO L n T with
    | none => rw [groups_stop _ e] at hv; simp at hv
    | some a =>
      have hl := put_less h e
      have e1 : groupsF L n (f + 1) T = grp L n a :: groupsF L n f (putM L T a n) := by
        show (match nextO L n T with | none => [] | some a => grp L n a :: groupsF L n f (putM L T a n)) = _
        rw [e]
      have hc' := put_closed h hc e
      have hm := (groups_mem h f (putM L T a n) (by omega) hc').2
      obtain ⟨ha, hT, hw⟩ := next_is e
      rw [e1] at hv hu
      have far : ∀ v u, v ∈ grp L n a → u < n → putM L T a n u = false → tog L v u = false ∧ L v u = false := by
        intro v u hv hu hp
        obtain ⟨hv1, hv2⟩ := mem_grp.1 hv
        have hL : L v u = false := by
          cases e2 : L v u
          · rfl
          · have h3 := h.trans a v u ha (tog_iff.1 hv2).1 e2
            have : putM L T a n u = true := by
              rcases waits_no hw hu h3 with h4 | h4
              · exact putM_iff.2 (.inl h4)
              · exact putM_iff.2 (.inr ⟨hu, h4⟩)
            rw [hp] at this; cases this
        refine ⟨?_, hL⟩
        unfold tog; rw [hL]; rfl
      cases i with
      | zero =>
        have hv0 : v ∈ grp L n a := hv
        cases j with
        | zero =>
          have hu0 : u ∈ grp L n a := hu
          obtain ⟨hv1, hv2⟩ := mem_grp.1 hv0
          obtain ⟨hu1, hu2⟩ := mem_grp.1 hu0
          refine ⟨?_, fun _ => Nat.le_refl _⟩
          rw [tog_trans h hv1 hu1 (by rw [tog_comm]; exact hv2) hu2]; rfl
        | succ j =>
          have hu0 : u ∈ (groupsF L n f (putM L T a n))[j]?.getD [] := by simpa using hu
          obtain ⟨hu1, hu2⟩ := (hm u).1 (mem_flat hu0)
          obtain ⟨h3, h4⟩ := far v u hv0 hu1 hu2
          refine ⟨?_, fun h5 => by rw [h4] at h5; cases h5⟩
          rw [h3]; symm; exact decide_eq_false (by omega)
      | succ i =>
        have hv0 : v ∈ (groupsF L n f (putM L T a n))[i]?.getD [] := by simpa using hv
        cases j with
        | zero =>
          have hu0 : u ∈ grp L n a := hu
          obtain ⟨hv1, hv2⟩ := (hm v).1 (mem_flat hv0)
          obtain ⟨h3, h4⟩ := far u v hu0 hv1 hv2
          refine ⟨?_, fun _ => Nat.zero_le _⟩
          rw [tog_comm, h3]; symm; exact decide_eq_false (by omega)
        | succ j =>
          have hu0 : u ∈ (groupsF L n f (putM L T a n))[j]?.getD [] := by simpa using hu
          obtain ⟨h3, h4⟩ := ih (putM L T a n) (by omega) hc' i j v u hv0 hu0
          refine ⟨?_, fun h5 => by have := h4 h5; omega⟩
          rw [h3]
          by_cases e3 : i = j
          · subst e3; simp
          · rw [decide_eq_false e3, decide_eq_false (by omega)]
end CC
/-- what ways lead to, in a graph -/
def leadL (to : List (List Int)) (a b : Nat) : Bool := GG.reachB to (-1) a b
theorem lead_pre {to : List (List Int)} (h : GG.rightG to = true) : CC.Pre to.length (leadL to) := by
  have hlt : ∀ a b, a < to.length → leadL to a b = true → b < to.length := fun a b ha hl => ((GG.reachB_iff h ha b).1 hl).lt (GG.adjN_lt h) ha
  refine ⟨fun a ha => (GG.reachB_iff h ha a).2 (.refl a), fun a b c ha h1 h2 => ?_, hlt⟩
  have hb := hlt a b ha h1
  exact (GG.reachB_iff h ha c).2 (((GG.reachB_iff h ha b).1 h1).trans ((GG.reachB_iff h hb c).1 h2))
/-- the groups of a graph, in the chapter's order -/
def groupsL (to : List (List Int)) : List (List Nat) := if GG.rightG to = true then CC.groupsF (leadL to) to.length to.length (fun _ => false) else []
theorem groups_facts {to : List (List Int)} (h : GG.rightG to = true) : (groupsL to).flatten.Nodup ∧ (∀ v, v ∈ (groupsL to).flatten ↔ v < to.length) ∧ (groupsL to).flatten.length = to.length ∧
    ∀ (i j v u : Nat), v ∈ (groupsL to)[i]?.getD [] → u ∈ (groupsL to)[j]?.getD [] → CC.tog (leadL to) v u = decide (i = j) ∧ (leadL to v u = true → j ≤ i) := by
  have hp := lead_pre h
  have hc : CC.Closed (leadL to) to.length (fun _ => false) := fun a b _ hT => by cases hT
  have e : groupsL to = CC.groupsF (leadL to) to.length to.length (fun _ => false) := by unfold groupsL; rw [if_pos h]
  obtain ⟨h1, h2⟩ := CC.groups_mem hp to.length (fun _ => false) (GG.unv_le _ _) hc
  rw [e]
  have h3 : ∀ v, v ∈ (CC.groupsF (leadL to) to.length to.length (fun _ => false)).flatten ↔ v < to.length := fun v => by rw [h2 v]; simp
  refine ⟨h1, h3, ?_, CC.groups_rel hp to.length (fun _ => false) (GG.unv_le _ _) hc⟩
  have := GG.same_len h1 List.nodup_range (fun x => by rw [h3 x, List.mem_range])
  rw [this, List.length_range]
end Go.Proofs.Ytbelhoeailjkkaa
