import Derived.Test.YtbelhoeailjkkaaCalE
set_option linter.unusedVariables false
set_option linter.unusedSimpArgs false
/-! the longest way to a node, looked for in rounds: plain -/
namespace Go.Proofs.Ytbelhoeailjkkaa
namespace CC
def farB (L : Nat → Nat → Bool) (n x : Nat) : Nat → Bool := fun y => !(decide (y < n) && L y x)
theorem farB_no {L : Nat → Nat → Bool} {n x y : Nat} : farB L n x y = false ↔ y < n ∧ L y x = true := by unfold farB; simp
theorem ent_bound {n : Nat} {adj : Nat → List Nat} {L : Nat → Nat → Bool} (hp : Pre n L) (ha : Adj n adj L) {main : Nat} (hm : main < n) {e : Nat → Int} (hs : ∀ x, x < n → SpecE adj L main e x) :
    ∀ (m : Nat) (x : Nat), x < n → 1 ≤ e x → e x ≤ m → e x ≤ GG.unv n (farB L n x) := by
  intro m
  induction m with
  | zero => intro x hx h1 h2; omega
  | succ m ih =>
    intro x hx h1 h2
    have s := hs x hx
    have hself : farB L n x x = false := farB_no.2 ⟨hx, hp.refl x hx⟩
    rcases (s.v (by omega) (by omega)).2.2 with ⟨v1, _⟩ | ⟨p, hpx, v1, v2⟩
    · have := GG.unv_pos hx hself
      omega
    · obtain ⟨hpn, _, hlp⟩ := ha.one p x hpx
      have i1 := ih p hpn v1 (by omega)
      have hL : L main x = true := by
        cases e' : L main x
        · have := s.z.2 e'; omega
        · rfl
      have hxp : L x p = false := by
        cases e' : L x p
        · rfl
        · have hc : circP adj L x := by
            rcases ha.head x p hx e' with e2 | ⟨j, hj, hl⟩
            · rw [← e2] at hpx; exact ⟨x, hpx, hp.refl x hx⟩
            · exact ⟨j, hj, hp.trans j p x (ha.one x j hj).2.1 hl hlp⟩
          have := s.m.2 ⟨hL, x, hL, hp.refl x hx, hc⟩
          omega
      have hm1 := GG.unv_mono n (B := GG.setB (farB L n x) x) (C := farB L n p) (by
        intro y hy
        rw [GG.setB_of] at hy
        cases e3 : farB L n p y
        · obtain ⟨q1, q2⟩ := farB_no.1 e3
          rcases hy with e2 | e2
          · rw [e2, hxp] at q2; cases q2
          · rw [farB_no.2 ⟨q1, hp.trans y p x q1 q2 hlp⟩] at e2; cases e2
        · rfl)
      have hm2 := GG.unv_set n hx hself
      omega
theorem ent_le {n : Nat} {adj : Nat → List Nat} {L : Nat → Nat → Bool} (hp : Pre n L) (ha : Adj n adj L) {main : Nat} (hm : main < n) {e : Nat → Int} (hs : ∀ x, x < n → SpecE adj L main e x) (x : Nat) (hx : x < n) (h1 : 1 ≤ e x) : e x ≤ n := by
  have := ent_bound hp ha hm hs (e x).toNat x hx h1 (by omega)
  have := GG.unv_le n (farB L n x)
  omega
/-- where an entry is a number, its node is in no circle -/
theorem ent_loop {n : Nat} {adj : Nat → List Nat} {L : Nat → Nat → Bool} (hp : Pre n L) {main : Nat} {e : Nat → Int} {x : Nat} (hx : x < n) (s : SpecE adj L main e x) (h1 : 1 ≤ e x) : x ∉ adj x := by
  intro hxx
  have hL : L main x = true := by
    cases e' : L main x
    · have := s.z.2 e'; omega
    · rfl
  have := s.m.2 ⟨hL, x, hL, hp.refl x hx, x, hxx, hp.refl x hx⟩
  omega

def ln (ns : List Int) (j : Nat) : Int := ns[j]?.getD 0
theorem ln_set {ns : List Int} {i : Nat} {v : Int} (hi : i < ns.length) (j : Nat) : ln (ns.set i v) j = if j = i then v else ln ns j := by
  unfold ln
  rw [List.getElem?_set]
  by_cases h : i = j
  · subst h; simp [hi]
  · rw [if_neg h, if_neg (fun h' => h h'.symm)]
/-- what is known where the longest ways to 'at' are looked for -/
structure LongH (n : Nat) (adj : Nat → List Nat) (L : Nat → Nat → Bool) (main at_ : Nat) (e : Nat → Int) : Prop where
  pre : Pre n L
  ha : Adj n adj L
  hm : main < n
  hat : at_ < n
  hl : L main at_ = true
  hs : ∀ x, x < n → SpecE adj L main e x
  no : ∀ k, k < n → L main k = true → L k at_ = true → ¬ circP adj L k
structure LongI (n : Nat) (L : Nat → Nat → Bool) (main at_ : Nat) (e : Nat → Int) (r : Nat) (ns : List Int) : Prop where
  len : ns.length = n
  bd : ∀ j, j < n → ln ns j = 0 ∨ (L main j = true ∧ 1 ≤ ln ns j ∧ ln ns j ≤ e j)
  full : ∀ j, j < n → L j at_ = true → 1 ≤ e j → e j ≤ r + 1 → e j ≤ ln ns j
theorem LongH.pos {n : Nat} {adj : Nat → List Nat} {L : Nat → Nat → Bool} {main at_ : Nat} {e : Nat → Int} (h : LongH n adj L main at_ e) {j : Nat} (hj : j < n) (h1 : L main j = true) (h2 : L j at_ = true) : 1 ≤ e j := by
  have s := h.hs j hj
  have z : e j ≠ 0 := fun e0 => by have := s.z.1 e0; rw [h1] at this; cases this
  have m : e j ≠ -1 := fun e0 => by
    obtain ⟨_, k, q1, q2, q3⟩ := s.m.1 e0
    have hk := h.pre.lt main k h.hm q1
    exact h.no k hk q1 (h.pre.trans k j at_ hk q2 h2) q3
  exact (s.v z m).1
theorem long_start {n : Nat} {adj : Nat → List Nat} {L : Nat → Nat → Bool} {main at_ : Nat} {e : Nat → Int} (h : LongH n adj L main at_ e) : LongI n L main at_ e 0 ((List.replicate n 0).set main 1) := by
  have hlen : main < (List.replicate n (0 : Int)).length := by simpa using h.hm
  have hz : ∀ j, ln (List.replicate n (0 : Int)) j = 0 := by
    intro j
    unfold ln
    by_cases hj : j < n
    · simp [hj]
    · simp [hj]
  have hv : ∀ j, ln ((List.replicate n (0 : Int)).set main 1) j = if j = main then 1 else 0 := fun j => by rw [ln_set hlen, hz]
  refine ⟨by simp, fun j hj => ?_, fun j hj h1 h2 h3 => ?_⟩
  · rw [hv]
    by_cases hjm : j = main
    · rw [if_pos hjm, hjm]
      exact .inr ⟨h.pre.refl main h.hm, by omega, h.pos h.hm (h.pre.refl main h.hm) h.hl⟩
    · rw [if_neg hjm]; exact .inl rfl
  · rw [hv]
    rcases ((h.hs j hj).v (by omega) (by omega)).2.2 with ⟨v1, v2⟩ | ⟨p, _, v1, v2⟩
    · rw [if_pos v2]; omega
    · omega
theorem long_relax {n : Nat} {adj : Nat → List Nat} {L : Nat → Nat → Bool} {main at_ : Nat} {e : Nat → Int} (h : LongH n adj L main at_ e) {r : Nat} {ns : List Int} (hi : LongI n L main at_ e r ns) {i j : Nat} (hj : j ∈ adj i) (h1 : 1 ≤ ln ns i) (h2 : L j at_ = true) (h3 : ln ns j < ln ns i + 1) :
    LongI n L main at_ e r (ns.set j (ln ns i + 1)) ∧ (∀ x, ln ns x ≤ ln (ns.set j (ln ns i + 1)) x) ∧ ln (ns.set j (ln ns i + 1)) j = ln ns i + 1 := by
  obtain ⟨hin, hjn, hlj⟩ := h.ha.one i j hj
  have hjl : j < ns.length := by rw [hi.len]; exact hjn
  have hv := fun x => ln_set (v := ln ns i + 1) hjl x
  have hmono : ∀ x, ln ns x ≤ ln (ns.set j (ln ns i + 1)) x := by
    intro x
    rw [hv]
    by_cases hx : x = j
    · rw [if_pos hx, hx]; omega
    · rw [if_neg hx]; omega
  refine ⟨⟨by rw [List.length_set]; exact hi.len, fun x hx => ?_, fun x hx q1 q2 q3 => Int.le_trans (hi.full x hx q1 q2 q3) (hmono x)⟩, hmono, by rw [hv, if_pos rfl]⟩
  rw [hv]
  by_cases hxj : x = j
  · rw [if_pos hxj, hxj]
    rcases hi.bd i hin with q | ⟨q1, q2, q3⟩
    · omega
    · have hm : L main j = true := h.pre.trans main i j h.hm q1 hlj
      have hpos := h.pos hjn hm h2
      have := ((h.hs j hjn).v (by omega) (by omega)).2.1 i hj
      exact .inr ⟨hm, by omega, by omega⟩
  · rw [if_neg hxj]; exact hi.bd x hx
/-- what a round has done, as far as row i, place k -/
def RoundI (n : Nat) (adj : Nat → List Nat) (L : Nat → Nat → Bool) (at_ : Nat) (e : Nat → Int) (r : Nat) (ns : List Int) (i : Nat) : Prop := ∀ p, p < i → ∀ j ∈ adj p, L j at_ = true → 1 ≤ e p → e p ≤ r + 1 → e p + 1 ≤ ln ns j
def RowI (adj : Nat → List Nat) (L : Nat → Nat → Bool) (at_ : Nat) (e : Nat → Int) (r : Nat) (ns : List Int) (i k : Nat) : Prop := ∀ j ∈ (adj i).take k, L j at_ = true → 1 ≤ e i → e i ≤ r + 1 → e i + 1 ≤ ln ns j
theorem RoundI.mono {n : Nat} {adj : Nat → List Nat} {L : Nat → Nat → Bool} {at_ : Nat} {e : Nat → Int} {r : Nat} {ns ms : List Int} {i : Nat} (h : RoundI n adj L at_ e r ns i) (hm : ∀ x, ln ns x ≤ ln ms x) : RoundI n adj L at_ e r ms i :=
  fun p hp j hj h1 h2 h3 => Int.le_trans (h p hp j hj h1 h2 h3) (hm j)
theorem RowI.mono {adj : Nat → List Nat} {L : Nat → Nat → Bool} {at_ : Nat} {e : Nat → Int} {r : Nat} {ns ms : List Int} {i k : Nat} (h : RowI adj L at_ e r ns i k) (hm : ∀ x, ln ns x ≤ ln ms x) : RowI adj L at_ e r ms i k :=
  fun j hj h1 h2 h3 => Int.le_trans (h j hj h1 h2 h3) (hm j)
theorem row_start (adj : Nat → List Nat) (L : Nat → Nat → Bool) (at_ : Nat) (e : Nat → Int) (r : Nat) (ns : List Int) (i : Nat) : RowI adj L at_ e r ns i 0 := fun j hj => by simp at hj
/-- one need more: looked at, and raised if it was lower -/
theorem row_next {n : Nat} {adj : Nat → List Nat} {L : Nat → Nat → Bool} {main at_ : Nat} {e : Nat → Int} (h : LongH n adj L main at_ e) {r : Nat} {ns : List Int} (hi : LongI n L main at_ e r ns) {i k : Nat} (hk : k < (adj i).length) (hr : RowI adj L at_ e r ns i k) (hq : L ((adj i)[k]?.getD 0) at_ = true → ln ns i + 1 ≤ ln ns ((adj i)[k]?.getD 0)) : RowI adj L at_ e r ns i (k + 1) := by
  intro j hj h1 h2 h3
  rw [List.take_succ_eq_append_getElem hk, List.mem_append] at hj
  rcases hj with hj | hj
  · exact hr j hj h1 h2 h3
  · have e1 := List.mem_singleton.1 hj
    have e2 : (adj i)[k]?.getD 0 = j := by rw [List.getElem?_eq_getElem hk, Option.getD_some, e1]
    rw [e2] at hq
    have hja : j ∈ adj i := by rw [e1]; exact List.getElem_mem hk
    obtain ⟨hin, _, hl⟩ := h.ha.one i j hja
    have := hi.full i hin (h.pre.trans i j at_ hin hl h1) h2 h3
    have := hq h1
    omega
theorem round_next {n : Nat} {adj : Nat → List Nat} {L : Nat → Nat → Bool} {at_ : Nat} {e : Nat → Int} {r : Nat} {ns : List Int} {i : Nat} (h : RoundI n adj L at_ e r ns i) (hr : RowI adj L at_ e r ns i (adj i).length) : RoundI n adj L at_ e r ns (i + 1) := by
  intro p hp j hj h1 h2 h3
  by_cases hpi : p = i
  · subst hpi
    exact hr j (by rw [List.take_length]; exact hj) h1 h2 h3
  · exact h p (by omega) j hj h1 h2 h3
/-- a row whose own number is 0 has nothing to raise -/
theorem row_zero {n : Nat} {adj : Nat → List Nat} {L : Nat → Nat → Bool} {main at_ : Nat} {e : Nat → Int} (h : LongH n adj L main at_ e) {r : Nat} {ns : List Int} (hi : LongI n L main at_ e r ns) {i : Nat} (h0 : ln ns i ≤ 0) (k : Nat) : RowI adj L at_ e r ns i k := by
  intro j hj h1 h2 h3
  have hja := List.mem_of_mem_take hj
  obtain ⟨hin, _, hl⟩ := h.ha.one i j hja
  have := hi.full i hin (h.pre.trans i j at_ hin hl h1) h2 h3
  omega
theorem long_round {n : Nat} {adj : Nat → List Nat} {L : Nat → Nat → Bool} {main at_ : Nat} {e : Nat → Int} (h : LongH n adj L main at_ e) {r : Nat} {ns : List Int} (hi : LongI n L main at_ e r ns) (hr : RoundI n adj L at_ e r ns n) : LongI n L main at_ e (r + 1) ns := by
  refine ⟨hi.len, hi.bd, fun j hj h1 h2 h3 => ?_⟩
  by_cases hle : e j ≤ r + 1
  · exact hi.full j hj h1 h2 hle
  · rcases ((h.hs j hj).v (by omega) (by omega)).2.2 with ⟨v1, _⟩ | ⟨p, hpj, v1, v2⟩
    · omega
    · have := hr p (h.ha.one p j hpj).1 j hpj h1 v1 (by omega)
      omega
theorem long_end {n : Nat} {adj : Nat → List Nat} {L : Nat → Nat → Bool} {main at_ : Nat} {e : Nat → Int} (h : LongH n adj L main at_ e) {ns : List Int} (hi : LongI n L main at_ e n ns) : ln ns at_ = e at_ := by
  have hpos := h.pos h.hat h.hl (h.pre.refl at_ h.hat)
  have hle := ent_le h.pre h.ha h.hm h.hs at_ h.hat hpos
  have := hi.full at_ h.hat (h.pre.refl at_ h.hat) hpos (by omega)
  rcases hi.bd at_ h.hat with q | ⟨_, _, q⟩ <;> omega
end CC
/-- the edges of a graph -/
theorem lead_adj {to : List (List Int)} (h : GG.rightG to = true) : CC.Adj to.length (GG.adjOf to) (leadL to) := by
  have hN : GG.adjN to (-1) = GG.adjOf to := GG.adjN_none to (-1) (by omega)
  have hiff : ∀ a, a < to.length → ∀ x, leadL to a x = true ↔ GG.Reach (GG.adjOf to) a x := fun a ha x => by rw [← hN]; exact GG.reachB_iff h ha x
  refine ⟨fun p y hy => ?_, fun a P ha h0 hs y hl => ?_, fun a y ha hl => ?_, fun p => ?_⟩
  · have hp := GG.adj_of_lt hy
    exact ⟨hp, GG.adj_lt h p y hy, (hiff p hp y).2 (.one hy)⟩
  · have hr := (hiff a ha y).1 hl
    clear hl
    induction hr with
    | refl => exact h0
    | step hij hk ih => exact hs _ _ ih ((hiff a ha _).2 hij) hk
  · rcases ((hiff a ha y).1 hl).cases_head with e | ⟨j, hj, hr⟩
    · exact .inl e
    · exact .inr ⟨j, hj, (hiff j (GG.adj_lt h a j hj) y).2 hr⟩
  · unfold GG.adjOf
    by_cases hp : p < to.length
    · have := GG.right_at h hp
      exact GG.nodup_toNat (fun j hj => (GG.row_in this j hj).1) (GG.row_nodup this)
    · rw [List.getElem?_eq_none (by omega)]; simp
/-- how deep each node is, seen from one -/
def entriesL (to : List (List Int)) (main : Nat) (x : Nat) : Int := CC.entF (GG.adjOf to) (groupsL to) main x
theorem entries_spec {to : List (List Int)} (h : GG.rightG to = true) {main : Nat} (hm : main < to.length) (x : Nat) (hx : x < to.length) : CC.SpecE (GG.adjOf to) (leadL to) main (entriesL to main) x := by
  unfold entriesL groupsL
  rw [if_pos h]
  exact CC.ent_spec (lead_pre h) (lead_adj h) hm x hx
end Go.Proofs.Ytbelhoeailjkkaa
