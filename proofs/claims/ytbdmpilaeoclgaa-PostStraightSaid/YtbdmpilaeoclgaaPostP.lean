import Derived.Test.YtbdmpilaeoclgaaDomV
set_option linter.unusedSimpArgs false
set_option linter.unusedVariables false
/-! plain: where ways come together: a graph turned round, with the end as its first node -/
namespace Go.Proofs.Ytbdmpilaeoclgaa.DD
open GG
/-- what is reached from b without a -/
def woB (to : List (List Int)) (b a i : Nat) : Bool := decide (a ≠ b) && reachB to a b i
/-- does each way from b to an exit go through a? -/
def behB (to : List (List Int)) (a b : Nat) : Bool := !((List.range to.length).any fun i => woB to b a i && exitB to i)
def allEnds (to : List (List Int)) : Bool := (List.range to.length).all (endsB to)
/-- a graph turned round; its first node is the end -/
def exitsUp (to : List (List Int)) (m : Nat) : List Int := (exitsL to m).map fun (i : Nat) => (i : Int) + 1
def turnG (to : List (List Int)) : List (List Int) := exitsUp to to.length :: (List.range to.length).map fun i => (ledBy to i to.length).map (· + 1)
theorem turn_len (to : List (List Int)) : (turnG to).length = to.length + 1 := by simp [turnG]
theorem turn_first (to : List (List Int)) : (turnG to)[0]?.getD [] = exitsUp to to.length := rfl
theorem turn_at {to : List (List Int)} {i : Nat} (hi : i < to.length) : (turnG to)[i + 1]?.getD [] = (ledBy to i to.length).map (· + 1) := by
  unfold turnG
  rw [List.getElem?_cons_succ, List.getElem?_map, List.getElem?_range hi]; rfl
theorem mem_exits {to : List (List Int)} {m : Nat} {x : Int} : x ∈ exitsUp to m ↔ ∃ i : Nat, x = (i : Int) + 1 ∧ i < m ∧ exitB to i = true := by
  unfold exitsUp exitsL
  rw [List.mem_map]
  constructor
  · rintro ⟨i, hi, rfl⟩
    obtain ⟨h1, h2⟩ := List.mem_filter.1 hi
    exact ⟨i, rfl, List.mem_range.1 h1, h2⟩
  · rintro ⟨i, rfl, h1, h2⟩
    exact ⟨i, List.mem_filter.2 ⟨List.mem_range.2 h1, h2⟩, rfl⟩
theorem turn_right {to : List (List Int)} (h : rightG to = true) (hl : to.length ≤ 255) : rightG (turnG to) = true := by
  refine right_mk (by rw [turn_len]; omega) (by rw [turn_len]; omega) (fun i hi => ?_)
  rw [turn_len] at hi ⊢
  cases i with
  | zero =>
    rw [turn_first]
    refine row_mk (fun j hj => ?_) ?_
    · obtain ⟨k, rfl, hk, _⟩ := mem_exits.1 hj
      omega
    · unfold exitsUp exitsL
      rw [List.nodup_iff_pairwise_ne, List.pairwise_map]
      exact (List.nodup_iff_pairwise_ne.1 (List.nodup_range.filter _)).imp (fun h e => h (by omega))
  | succ i =>
    rw [turn_at (by omega)]
    refine row_mk (fun j hj => ?_) ?_
    · obtain ⟨x, hx, rfl⟩ := List.mem_map.1 hj
      obtain ⟨k, rfl, hk, _⟩ := mem_ledBy.1 hx
      omega
    · rw [List.nodup_iff_pairwise_ne, List.pairwise_map]
      exact (List.nodup_iff_pairwise_ne.1 (ledBy_nodup to i to.length)).imp (fun h e => h (by omega))
section
variable {to : List (List Int)}
theorem adj_turn0 (h : rightG to = true) (k : Nat) : k ∈ adjOf (turnG to) 0 ↔ ∃ e, k = e + 1 ∧ e < to.length ∧ exitB to e = true := by
  unfold adjOf
  rw [turn_first, List.mem_map]
  constructor
  · rintro ⟨x, hx, rfl⟩
    obtain ⟨e, rfl, h1, h2⟩ := mem_exits.1 hx
    exact ⟨e, by omega, h1, h2⟩
  · rintro ⟨e, rfl, h1, h2⟩
    exact ⟨(e : Int) + 1, mem_exits.2 ⟨e, rfl, h1, h2⟩, by omega⟩
theorem adj_turn (h : rightG to = true) {j : Nat} (hj : j < to.length) (k : Nat) : k ∈ adjOf (turnG to) (j + 1) ↔ ∃ e, k = e + 1 ∧ e < to.length ∧ j ∈ adjOf to e := by
  unfold adjOf
  rw [turn_at hj, List.map_map, List.mem_map]
  constructor
  · rintro ⟨x, hx, rfl⟩
    obtain ⟨e, rfl, h1, h2⟩ := mem_ledBy.1 hx
    exact ⟨e, by simp, h1, (adj_mem h h1 j).2 h2⟩
  · rintro ⟨e, rfl, h1, h2⟩
    exact ⟨(e : Int), mem_ledBy.2 ⟨e, rfl, h1, (adj_mem h h1 j).1 h2⟩, by simp⟩
/-- ways on in the graph turned round are ways to an exit -/
theorem turn_to {a : Nat} (h : rightG to = true) {x : Nat} (hr : GG.Reach (cut (adjOf (turnG to)) (a + 1)) 0 x) :
    x = 0 ∨ ∃ k e, x = k + 1 ∧ k < to.length ∧ k ≠ a ∧ e < to.length ∧ exitB to e = true ∧ GG.Reach (cut (adjOf to) a) k e := by
  induction hr with
  | refl => exact .inl rfl
  | @step j k hr hk ih =>
    obtain ⟨hk1, hk2⟩ := mem_cut.1 hk
    rcases ih with rfl | ⟨j', e, rfl, hj, hja, he, hex, hre⟩
    · obtain ⟨e, rfl, h1, h2⟩ := (adj_turn0 h k).1 hk1
      exact .inr ⟨e, e, rfl, h1, fun e' => hk2 (by rw [e']), h1, h2, .refl _⟩
    · obtain ⟨k', rfl, h1, h2⟩ := (adj_turn h hj k).1 hk1
      exact .inr ⟨k', e, rfl, h1, fun e' => hk2 (by rw [e']), he, hex, GG.Reach.ahead (mem_cut.2 ⟨h2, hja⟩) hre⟩
theorem cut_ne {adj : Nat → List Nat} {a b x : Nat} (hb : b ≠ a) (h : GG.Reach (cut adj a) b x) : x ≠ a := by
  cases h with
  | refl => exact hb
  | step _ hk => exact (mem_cut.1 hk).2
theorem turn_from {a b : Nat} (h : rightG to = true) (hba : b ≠ a) {x : Nat} (hb : b < to.length) (hr : GG.Reach (cut (adjOf to) a) b x) :
    GG.Reach (cut (adjOf (turnG to)) (a + 1)) 0 (x + 1) → GG.Reach (cut (adjOf (turnG to)) (a + 1)) 0 (b + 1) := by
  induction hr with
  | refl => exact id
  | @step j k hr hk ih =>
    intro hx
    obtain ⟨h1, _⟩ := mem_cut.1 hk
    have hjn := adj_of_lt h1
    have hkn := adj_lt h j k h1
    exact ih (.step hx (mem_cut.2 ⟨(adj_turn h hkn (j + 1)).2 ⟨j, rfl, hjn, h1⟩, fun e => cut_ne hba hr (by omega)⟩))
theorem woB_iff (h : rightG to = true) {b a i : Nat} (hb : b < to.length) : woB to b a i = true ↔ a ≠ b ∧ GG.Reach (cut (adjOf to) a) b i := by
  unfold woB
  rw [Bool.and_eq_true, decide_eq_true_eq, reachB_iff h hb, adjN_cut]
theorem beh_iff (h : rightG to = true) {a b : Nat} (hb : b < to.length) : behB to a b = true ↔ ¬ Av (adjOf (turnG to)) (a + 1) (b + 1) := by
  unfold behB
  rw [Bool.not_eq_true', List.any_eq_false]
  constructor
  · intro hno hav
    rcases turn_to h hav.2 with e | ⟨k, e, e1, _, h2, h3, h4, h5⟩
    · omega
    · have : k = b := by omega
      subst this
      exact hno e (List.mem_range.2 h3) (by rw [Bool.and_eq_true]; exact ⟨(woB_iff h hb).2 ⟨fun e => h2 e.symm, h5⟩, h4⟩)
  · intro hno i hi hw
    rw [Bool.and_eq_true] at hw
    obtain ⟨h1, h2⟩ := (woB_iff h hb).1 hw.1
    refine hno ⟨by omega, turn_from h (fun e => h1 e.symm) hb h2 (.step (.refl _) (mem_cut.2 ⟨(adj_turn0 h (i + 1)).2 ⟨i, rfl, List.mem_range.1 hi, hw.2⟩, fun e => ?_⟩))⟩
    exact cut_ne (fun e => h1 e.symm) h2 (by omega)
theorem ov_turn (h : rightG to = true) (hl : to.length ≤ 255) {a b : Nat} (hb : b < to.length) : ovB (turnG to) (a + 1) (b + 1) = behB to a b := by
  have h1 := ov_iff (turn_right h hl) (a + 1) (b + 1)
  have h2 := beh_iff h (a := a) hb
  cases c : behB to a b
  · cases c2 : ovB (turnG to) (a + 1) (b + 1)
    · rfl
    · exact absurd (h2.2 (h1.1 c2)) (by rw [c]; simp)
  · exact h1.2 (h2.1 c)
theorem cut_out {adj : Nat → List Nat} {a : Nat} (h : ∀ x, ∀ j ∈ adj x, j ≠ a) : cut adj a = adj := by
  funext x
  unfold cut
  exact List.filter_eq_self.2 fun j hj => decide_eq_true (h x j hj)
theorem adjN_far (h : rightG to = true) : adjN to ((to.length : Nat) : Int) = adjN to (-1) := by
  rw [adjN_none to (-1) (by decide), adjN_cut]
  exact cut_out fun x j hj e => by have := adj_lt h x j hj; omega
theorem beh_far (h : rightG to = true) {k : Nat} (hk : k < to.length) : behB to to.length k = !endsB to k := by
  unfold behB endsB
  congr 2
  funext i
  congr 1
  unfold woB reachB
  rw [adjN_far h, decide_eq_true (by omega), Bool.true_and]
theorem turn_reach (h : rightG to = true) (hl : to.length ≤ 255) {k : Nat} (hk : k < to.length) : reachB (turnG to) (-1) 0 (k + 1) = endsB to k := by
  have hr := turn_right h hl
  have h1 := av_iff hr (to.length + 1) (k + 1)
  have h2 := beh_iff h (a := to.length) hk
  rw [beh_far h hk] at h2
  have e : reachB (turnG to) ((to.length + 1 : Nat) : Int) 0 (k + 1) = reachB (turnG to) (-1) 0 (k + 1) := by
    have := adjN_far hr
    rw [turn_len] at this
    unfold reachB
    rw [this]
  rw [e, decide_eq_true (by omega), Bool.true_and] at h1
  cases c : endsB to k
  · rw [c] at h2
    cases c2 : reachB (turnG to) (-1) 0 (k + 1)
    · rfl
    · exact absurd (h1.2 c2) (h2.1 rfl)
  · rw [c] at h2
    exact h1.1 (Classical.byContradiction fun hn => by have := h2.2 hn; cases this)
/-- all nodes of the graph turned round are reached, if all end -/
theorem turn_all (h : rightG to = true) (hl : to.length ≤ 255) : allB (turnG to) = allEnds to := by
  unfold allB allEnds
  rw [turn_len, List.range_succ_eq_map, List.all_cons, List.all_map]
  have h0 : reachB (turnG to) (-1) 0 0 = true := (reachB_iff (turn_right h hl) (by rw [turn_len]; omega) 0).2 (.refl _)
  rw [h0, Bool.true_and, Bool.eq_iff_iff, List.all_eq_true, List.all_eq_true]
  constructor
  · intro hh k hk
    have := hh k hk
    rw [← turn_reach h hl (List.mem_range.1 hk)]; exact this
  · intro hh k hk
    have := hh k hk
    rw [← turn_reach h hl (List.mem_range.1 hk)] at this; exact this
/-- the meeting of a node; the number of nodes: the end -/
def isM (to : List (List Int)) (b a : Nat) : Bool := (decide (a ≠ b) && behB to a b) && (List.range to.length).all fun k => decide (k = b) || decide (k = a) || !behB to k b || behB to k a
def meetI (to : List (List Int)) (b : Nat) : Int := let x := lastN (isM to b) to.length; if x < 0 then (to.length : Int) else x
theorem meet_at (h : rightG to = true) (hl : to.length ≤ 255) {T : Nat → Int} (F : Fin (turnG to).length (adjOf (turnG to)) (plOf (turnG to)) T) {b : Nat} (hb : b < to.length) :
    (T (b + 1) = 0 ∧ meetI to b = to.length) ∨ ∃ a : Nat, T (b + 1) = ((a + 1 : Nat) : Int) ∧ meetI to b = (a : Int) ∧ a < to.length := by
  have hn : (turnG to).length = to.length + 1 := turn_len to
  have ov : ∀ a k, k < to.length → (behB to a k = true ↔ Up T (k + 1) (a + 1)) := fun a k hk => by
    rw [← ov_turn h hl hk, ov_iff (turn_right h hl), ← F.dom (k + 1) (a + 1) (by rw [hn]; omega)]
  obtain ⟨d, hd⟩ : ∃ d : Nat, T (b + 1) = (d : Int) := by
    rcases F.all (b + 1) (by rw [hn]; omega) with e | e
    · omega
    · exact e
  obtain ⟨_, hdn, hdp, _, _⟩ := F.inv.ok _ d hd
  cases d with
  | zero =>
    refine .inl ⟨hd, ?_⟩
    have hno : lastN (isM to b) to.length = -1 := lastN_none fun a ha => by
      unfold isM
      rw [Bool.and_eq_false_iff]; left
      rw [Bool.and_eq_false_iff]
      by_cases e : a = b
      · left; simp [e]
      · right
        cases c : behB to a b
        · rfl
        · have := ((ov a b hb).1 c).head_of hd (by omega)
          have := F.inv.root_up this
          omega
    unfold meetI
    simp only
    rw [hno, if_pos (by omega)]
  | succ a =>
    have han : a < to.length := by rw [hn] at hdn; omega
    have hab : a ≠ b := fun e => by subst e; omega
    have hone : lastN (isM to b) to.length = (a : Int) := by
      refine lastN_one han ?_ ?_
      · unfold isM
        rw [Bool.and_eq_true, Bool.and_eq_true, decide_eq_true_eq]
        refine ⟨⟨hab, (ov a b hb).2 (.one hd)⟩, List.all_eq_true.2 fun k hk => ?_⟩
        have hkn := List.mem_range.1 hk
        rw [Bool.or_eq_true, Bool.or_eq_true, Bool.or_eq_true, decide_eq_true_eq, decide_eq_true_eq]
        by_cases e : k = b
        · exact .inl (.inl (.inl e))
        · cases hc : behB to k b
          · exact .inl (.inr rfl)
          · exact .inr ((ov k a han).2 (((ov k b hb).1 hc).head_of hd (by omega)))
      · intro x hx hix
        unfold isM at hix
        rw [Bool.and_eq_true, Bool.and_eq_true, decide_eq_true_eq] at hix
        obtain ⟨⟨hxb, hov⟩, hall⟩ := hix
        have u1 := ((ov x b hb).1 hov).head_of hd (by omega)
        have h3 := List.all_eq_true.1 hall a (List.mem_range.2 han)
        rw [Bool.or_eq_true, Bool.or_eq_true, Bool.or_eq_true, decide_eq_true_eq, decide_eq_true_eq, (ov a b hb).2 (.one hd)] at h3
        have u2 : Up T (x + 1) (a + 1) := by
          rcases h3 with ((h3 | h3) | h3) | h3
          · exact absurd h3 hab
          · rw [h3]; exact .refl _
          · cases h3
          · exact (ov a x hx).1 h3
        have := F.inv.anti u1 u2
        omega
    refine .inr ⟨a, hd, ?_, han⟩
    unfold meetI
    simp only
    rw [hone, if_neg (by omega)]
/-- where ways come together; none, if nothing is told of the graph -/
def postOk (to : List (List Int)) : Bool := decide (to.length ≤ 255) && rightG to && allB to && allEnds to
def postL (to : List (List Int)) : List Int := if postOk to = true then (List.range to.length).map (meetI to) else []
theorem postOk_iff {to : List (List Int)} : postOk to = true ↔ to.length ≤ 255 ∧ rightG to = true ∧ allB to = true ∧ allEnds to = true := by
  unfold postOk
  rw [Bool.and_eq_true, Bool.and_eq_true, Bool.and_eq_true, decide_eq_true_eq, and_assoc, and_assoc]
theorem postL_no {to : List (List Int)} (h : postOk to = false) : postL to = [] := by unfold postL; rw [if_neg (by rw [h]; simp)]
theorem postL_yes {to : List (List Int)} (h : postOk to = true) : postL to = (List.range to.length).map (meetI to) := by unfold postL; rw [if_pos h]
theorem postL_len {to : List (List Int)} (h : postOk to = true) : (postL to).length = to.length := by rw [postL_yes h]; simp
theorem postL_at {to : List (List Int)} (h : postOk to = true) {i : Nat} (hi : i < to.length) : (postL to)[i]?.getD 0 = meetI to i := by rw [postL_yes h, List.getElem?_map, List.getElem?_range hi]; rfl
theorem meetI_bd (to : List (List Int)) (b : Nat) : 0 ≤ meetI to b ∧ meetI to b ≤ to.length := by
  unfold meetI
  have := lastN_bd (isM to b) to.length
  simp only
  split <;> omega
/-- which nodes are in a fork's region -/
def markB (to : List (List Int)) (m : Int) (f i : Nat) : Bool := (to[f]?.getD []).any fun x => decide (x ≠ m) && reachB to m x.toNat i
def inRegion (to : List (List Int)) (f i : Nat) : Bool := decide (2 ≤ (to[f]?.getD []).length) && markB to (meetI to f) f i
def regionL (to : List (List Int)) (f : Int) : List Int := if postOk to = true ∧ inB to.length f = true then ((List.range to.length).filter (inRegion to f.toNat)).map Int.ofNat else []
def heldL (to : List (List Int)) : List (List Int) := if postOk to = true then (List.range to.length).map fun i => ((List.range to.length).filter fun f => inRegion to f i).map Int.ofNat else []
end
end Go.Proofs.Ytbdmpilaeoclgaa.DD
