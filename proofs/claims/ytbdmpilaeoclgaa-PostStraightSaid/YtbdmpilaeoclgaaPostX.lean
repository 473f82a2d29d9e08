import Derived.Test.YtbdmpilaeoclgaaPostP
set_option linter.unusedSimpArgs false
set_option linter.unusedVariables false
/-! plain: what lies between a fork and its meeting -/
namespace Go.Proofs.Ytbdmpilaeoclgaa.DD
open GG
theorem lastN_hit {p : Nat → Bool} {j : Nat} : ∀ {n : Nat}, lastN p n = (j : Int) → p j = true
  | 0, h => by unfold lastN at h; omega
  | n + 1, h => by
    unfold lastN at h
    by_cases e : p n = true
    · rw [if_pos e] at h
      have : j = n := by omega
      subst this; exact e
    · rw [if_neg e] at h
      exact lastN_hit h
section
variable {to : List (List Int)}
def meetN (to : List (List Int)) (f : Nat) : Nat := (meetI to f).toNat
theorem meet_nat (to : List (List Int)) (f : Nat) : meetI to f = (meetN to f : Int) := by
  have := meetI_bd to f
  unfold meetN; omega
theorem meetN_le (to : List (List Int)) (f : Nat) : meetN to f ≤ to.length := by
  have := meetI_bd to f
  unfold meetN; omega
/-- the meeting is another node, and comes behind -/
theorem meet_is {f : Nat} (hm : meetN to f < to.length) : isM to f (meetN to f) = true := by
  have h := meet_nat to f
  have hb := lastN_bd (isM to f) to.length
  unfold meetI at h
  simp only at h
  split at h
  · omega
  · exact lastN_hit h
theorem meet_beh {f : Nat} (hm : meetN to f < to.length) : meetN to f ≠ f ∧ behB to (meetN to f) f = true := by
  have h := meet_is hm
  unfold isM at h
  rw [Bool.and_eq_true, Bool.and_eq_true, decide_eq_true_eq] at h
  exact h.1
theorem inRegion_iff (h : rightG to = true) {f : Nat} (hf : f < to.length) (i : Nat) :
    inRegion to f i = true ↔ 2 ≤ (to[f]?.getD []).length ∧ ∃ y ∈ adjOf to f, y ≠ meetN to f ∧ GG.Reach (cut (adjOf to) (meetN to f)) y i := by
  unfold inRegion markB
  rw [Bool.and_eq_true, decide_eq_true_eq, List.any_eq_true]
  refine and_congr_right fun _ => ?_
  constructor
  · rintro ⟨x, hx, hxx⟩
    rw [Bool.and_eq_true, decide_eq_true_eq] at hxx
    have hxr := row_in (right_at h hf) x hx
    obtain ⟨k, rfl⟩ : ∃ k : Nat, x = (k : Int) := ⟨x.toNat, by omega⟩
    rw [Int.toNat_natCast, meet_nat, reachB_iff h (by omega), adjN_cut] at hxx
    exact ⟨k, (adj_mem h hf k).2 hx, fun e => hxx.1 (by rw [e]), hxx.2⟩
  · rintro ⟨y, hy, hym, hr⟩
    refine ⟨(y : Int), (adj_mem h hf y).1 hy, ?_⟩
    rw [Bool.and_eq_true, decide_eq_true_eq, Int.toNat_natCast, meet_nat, reachB_iff h (adj_lt h f y hy), adjN_cut]
    exact ⟨by omega, hr⟩
theorem beh_no (h : rightG to = true) {a b : Nat} (hb : b < to.length) : behB to a b = false ↔ a ≠ b ∧ ∃ e, e < to.length ∧ exitB to e = true ∧ GG.Reach (cut (adjOf to) a) b e := by
  unfold behB
  rw [Bool.not_eq_false', List.any_eq_true]
  constructor
  · rintro ⟨e, he, hw⟩
    rw [Bool.and_eq_true, woB_iff h hb] at hw
    exact ⟨hw.1.1, e, List.mem_range.1 he, hw.2, hw.1.2⟩
  · rintro ⟨hab, e, he, hex, hr⟩
    exact ⟨e, List.mem_range.2 he, by rw [Bool.and_eq_true, woB_iff h hb]; exact ⟨⟨hab, hr⟩, hex⟩⟩
/-- a way goes round a node, or leads to it -/
theorem reach_via {adj : Nat → List Nat} {z i : Nat} (b : Nat) (h : GG.Reach adj z i) : (z ≠ b ∧ GG.Reach (cut adj b) z i) ∨ (GG.Reach adj z b ∧ GG.Reach adj b i) := by
  induction h with
  | refl =>
    by_cases e : z = b
    · subst e; exact .inr ⟨.refl _, .refl _⟩
    · exact .inl ⟨e, .refl _⟩
  | @step j k hj hk ih =>
    rcases ih with ⟨h1, h2⟩ | ⟨h1, h2⟩
    · by_cases e : k = b
      · subst e; exact .inr ⟨.step hj hk, .refl _⟩
      · exact .inl ⟨h1, .step h2 (mem_cut.2 ⟨hk, e⟩)⟩
    · exact .inr ⟨h1, .step h2 hk⟩
theorem cut_mono {adj : Nat → List Nat} {a z i : Nat} (h : GG.Reach (cut adj a) z i) : GG.Reach adj z i := by
  induction h with
  | refl => exact .refl _
  | step _ hk ih => exact .step ih (mem_cut.1 hk).1
theorem cut_swap {adj : Nat → List Nat} {a b z i : Nat} (h : GG.Reach (cut (cut adj a) b) z i) : GG.Reach (cut adj b) z i := by
  induction h with
  | refl => exact .refl _
  | step _ hk ih => exact .step ih (mem_cut.2 ⟨(mem_cut.1 (mem_cut.1 hk).1).1, (mem_cut.1 hk).2⟩)
/-- what a fork's region leads to lies in it, if it is not the meeting -/
theorem region_on (h : rightG to = true) {f i j : Nat} (hf : f < to.length) (hi : inRegion to f i = true) (hj : j ∈ adjOf to i) (hm : j ≠ meetN to f) : inRegion to f j = true := by
  obtain ⟨h2, y, hy, hym, hr⟩ := (inRegion_iff h hf i).1 hi
  exact (inRegion_iff h hf j).2 ⟨h2, y, hy, hym, .step hr (mem_cut.2 ⟨hj, hm⟩)⟩
theorem region_ne (h : rightG to = true) {f i : Nat} (hf : f < to.length) (hi : inRegion to f i = true) : i ≠ meetN to f := by
  obtain ⟨_, y, _, hym, hr⟩ := (inRegion_iff h hf i).1 hi
  exact cut_ne hym hr
/-- a fork has something in its region -/
theorem region_some (h : rightG to = true) {f : Nat} (hf : f < to.length) (h2 : 2 ≤ (to[f]?.getD []).length) : ∃ i, i < to.length ∧ inRegion to f i = true := by
  have hl : 2 ≤ (adjOf to f).length := by rw [adj_len]; exact h2
  have hd : (adjOf to f).Nodup := by
    have := right_at h hf
    exact nodup_toNat (fun j hj => (row_in this j hj).1) (row_nodup this)
  have h0 : (adjOf to f)[0] ∈ adjOf to f := List.getElem_mem _
  have h1 : (adjOf to f)[1] ∈ adjOf to f := List.getElem_mem _
  have hne : (adjOf to f)[0] ≠ (adjOf to f)[1] := fun e => by
    have := (List.getElem_inj (h₀ := by omega) (h₁ := by omega) hd).1 e
    omega
  by_cases e : (adjOf to f)[0] = meetN to f
  · exact ⟨_, adj_lt h f _ h1, (inRegion_iff h hf _).2 ⟨h2, _, h1, fun e' => hne (e.trans e'.symm), .refl _⟩⟩
  · exact ⟨_, adj_lt h f _ h0, (inRegion_iff h hf _).2 ⟨h2, _, h0, e, .refl _⟩⟩
/-- what a fork reaches and does not lie in its region is reached through the meeting -/
theorem region_wide (h : rightG to = true) {f i : Nat} (hf : f < to.length) (h2 : 2 ≤ (to[f]?.getD []).length) (hfi : f ≠ i) (hr : GG.Reach (adjOf to) f i) (hn : inRegion to f i = false) :
    meetN to f < to.length ∧ GG.Reach (adjOf to) (meetN to f) i := by
  rcases hr.cases_head with e | ⟨z, hz, hzi⟩
  · exact absurd e hfi
  · rcases reach_via (meetN to f) hzi with ⟨h3, h4⟩ | ⟨h3, h4⟩
    · have := (inRegion_iff h hf i).2 ⟨h2, z, hz, h3, h4⟩
      rw [hn] at this; cases this
    · exact ⟨h3.lt (adj_lt h) (adj_lt h f z hz), h4⟩
/-- regions nest -/
theorem region_nest (h : rightG to = true) (hl : to.length ≤ 255) {T : Nat → Int} (F : Fin (turnG to).length (adjOf (turnG to)) (plOf (turnG to)) T) {f g i : Nat} (hf : f < to.length) (hg : g < to.length)
    (hfg : inRegion to g f = true) (hif : inRegion to f i = true) : inRegion to g i = true := by
  have hn : (turnG to).length = to.length + 1 := turn_len to
  have ov : ∀ a k, k < to.length → (behB to a k = true ↔ Up T (k + 1) (a + 1)) := fun a k hk => by
    rw [← ov_turn h hl hk, ov_iff (turn_right h hl), ← F.dom (k + 1) (a + 1) (by rw [hn]; omega)]
  obtain ⟨h2, y, hy, hym, hyf⟩ := (inRegion_iff h hg f).1 hfg
  obtain ⟨_, z, hz, hzm, hzi⟩ := (inRegion_iff h hf i).1 hif
  refine (inRegion_iff h hg i).2 ⟨h2, y, hy, hym, ?_⟩
  have hfm := cut_ne hym hyf
  rcases reach_via (meetN to g) hzi with ⟨h3, h4⟩ | ⟨h3, _⟩
  · exact hyf.trans (GG.Reach.ahead (mem_cut.2 ⟨hz, h3⟩) (cut_swap h4))
  · exfalso
    have hmg : meetN to g < to.length := (cut_mono h3).lt (adj_lt h) (adj_lt h f z hz)
    obtain ⟨hgm, hbg⟩ := meet_beh hmg
    -- the one's meeting comes behind the fork in its region
    have hbf : behB to (meetN to g) f = true := by
      cases c : behB to (meetN to g) f
      · obtain ⟨_, e, he, hex, hr⟩ := (beh_no h hf).1 c
        have := (beh_no h hg).2 ⟨hgm, e, he, hex, (GG.Reach.ahead (mem_cut.2 ⟨hy, hym⟩) hyf).trans hr⟩
        rw [hbg] at this; cases this
      · rfl
    have u1 := (ov _ _ hf).1 hbf
    rcases meet_at h hl F hf with ⟨e1, e2⟩ | ⟨a, e1, e2, han⟩
    · have := u1.head_of e1 (by omega)
      have := F.inv.root_up this
      omega
    · have ea : meetN to f = a := by unfold meetN; rw [e2]; omega
      rw [ea] at hzm h3
      have u2 : Up T (a + 1) (meetN to g + 1) := u1.head_of e1 (by omega)
      have hbm : behB to a (meetN to g) = true := by
        cases c : behB to a (meetN to g)
        · obtain ⟨_, e, he, hex, hr⟩ := (beh_no h hmg).1 c
          have hfa : a ≠ f := by
            have := (meet_beh (to := to) (f := f) (by rw [ea]; exact han)).1
            rwa [ea] at this
          have := (beh_no h hf).2 ⟨hfa, e, he, hex, (GG.Reach.ahead (mem_cut.2 ⟨hz, hzm⟩) h3).trans hr⟩
          have h5 := (meet_beh (to := to) (f := f) (by rw [ea]; exact han)).2
          rw [ea, this] at h5; cases h5
        · rfl
      have u3 := (ov _ _ hmg).1 hbm
      have := F.inv.anti u2 u3
      exact cut_ne hzm h3 (by omega)
end
end Go.Proofs.Ytbdmpilaeoclgaa.DD
