import Derived.Test.YtbelhoeailjkkaaCalM
set_option linter.unusedSimpArgs false
set_option linter.unusedVariables false
/-! calls: Entries -/
namespace Go.Proofs.Ytbelhoeailjkkaa
open Go.RowKit CC
theorem CC.groups_grp {L : Nat → Nat → Bool} {n : Nat} : ∀ (f : Nat) (T : Nat → Bool), ∀ g ∈ CC.groupsF L n f T, ∃ a, a < n ∧ g = CC.grp L n a := by
  intro f
  induction f with
  | zero => intro T g hg; simp [CC.groupsF] at hg
  | succ f ih =>
    intro T g hg
    cases e : CC.nextO L n T with
    | none => rw [CC.groups_stop _ e] at hg; simp at hg
    | some a =>
      have e1 : CC.groupsF L n (f + 1) T = CC.grp L n a :: CC.groupsF L n f (CC.putM L T a n) := by
        show (match CC.nextO L n T with | none => [] | some a => CC.grp L n a :: CC.groupsF L n f (CC.putM L T a n)) = _
        rw [e]
      rw [e1] at hg
      rcases List.mem_cons.1 hg with h | h
      · exact ⟨a, (CC.next_is e).1, h⟩
      · exact ih _ g h
theorem CC.groups_len {L : Nat → Nat → Bool} {n : Nat} (hp : CC.Pre n L) : ∀ (f : Nat) (T : Nat → Bool), (CC.groupsF L n f T).length ≤ GG.unv n T := by
  intro f
  induction f with
  | zero => intro T; simp [CC.groupsF]
  | succ f ih =>
    intro T
    cases e : CC.nextO L n T with
    | none => rw [CC.groups_stop _ e]; simp
    | some a =>
      have e1 : CC.groupsF L n (f + 1) T = CC.grp L n a :: CC.groupsF L n f (CC.putM L T a n) := by
        show (match CC.nextO L n T with | none => [] | some a => CC.grp L n a :: CC.groupsF L n f (CC.putM L T a n)) = _
        rw [e]
      have := ih (CC.putM L T a n)
      have := CC.put_less hp e
      rw [e1, List.length_cons]
      omega
/-- a group of a graph -/
theorem group_is {to : List (List Int)} (h : GG.rightG to = true) {g : List Nat} (hg : g ∈ groupsL to) : 0 < g.length ∧ g.length ≤ 256 ∧ ∀ x ∈ g, x < to.length := by
  unfold groupsL at hg
  rw [if_pos h] at hg
  obtain ⟨a, ha, rfl⟩ := CC.groups_grp _ _ g hg
  have hl := GG.right_len h
  refine ⟨List.length_pos_of_mem (CC.grp_self (lead_pre h) ha), ?_, fun x hx => (CC.mem_grp.1 hx).1⟩
  have := GG.pigeon to.length (CC.grp (leadL to) to.length a) (fun x hx => (CC.mem_grp.1 hx).1) (CC.grp_nodup _ _ _)
  omega
theorem groups_many {to : List (List Int)} (h : GG.rightG to = true) : (groupsL to).length ≤ 256 := by
  have hl := GG.right_len h
  unfold groupsL
  rw [if_pos h]
  have h1 := CC.groups_len (lead_pre h) to.length (fun _ => false)
  have h2 := GG.unv_le to.length (fun _ => false)
  omega
/-- the entries, behind so many groups -/
def entT (to : List (List Int)) (main t : Nat) : Nat → Int := ((groupsL to).reverse.take t).foldl (CC.stepE (GG.adjOf to)) (CC.startE main)
theorem entT_zero (to : List (List Int)) (main : Nat) : entT to main 0 = CC.startE main := by simp [entT]
theorem entT_succ {to : List (List Int)} (main : Nat) {t : Nat} (ht : t < (groupsL to).reverse.length) : entT to main (t + 1) = CC.stepE (GG.adjOf to) (entT to main t) ((groupsL to).reverse[t]?.getD []) := by
  unfold entT
  rw [List.take_succ_eq_append_getElem ht, List.foldl_append, List.getElem?_eq_getElem ht]
  rfl
theorem entT_all (to : List (List Int)) (main : Nat) {t : Nat} (ht : (groupsL to).reverse.length ≤ t) : entT to main t = entriesL to main := by
  unfold entT
  rw [List.take_of_length_le ht]
  rfl
/-- within a group -/
def inT (adj : Nat → List Nat) (e : Nat → Int) (g : List Nat) (q : Nat) : Nat → Int := (g.take q).foldl (fun e i => CC.leadF e i (adj i)) (if CC.circB adj g && CC.hasB e g then CC.downF e g else e)
theorem inT_succ (adj : Nat → List Nat) (e : Nat → Int) {g : List Nat} {q : Nat} (hq : q < g.length) : inT adj e g (q + 1) = CC.leadF (inT adj e g q) (g[q]?.getD 0) (adj (g[q]?.getD 0)) := by
  unfold inT
  rw [List.take_succ_eq_append_getElem hq, List.foldl_append, List.getElem?_eq_getElem hq]
  rfl
theorem inT_all (adj : Nat → List Nat) (e : Nat → Int) {g : List Nat} {q : Nat} (hq : g.length ≤ q) : inT adj e g q = CC.stepE adj e g := by
  unfold inT
  rw [List.take_of_length_le hq]
  rfl
theorem fold_bd {to : List (List Int)} (hr : GG.rightG to = true) {M : Int} (hM : 0 ≤ M) : ∀ (l : List Nat) (e : Nat → Int) (k : Nat), (∀ x ∈ l, x < to.length) → (∀ x, x < to.length → -1 ≤ e x ∧ e x ≤ M + 256 * k) → ∀ x, x < to.length → -1 ≤ l.foldl (fun e i => CC.leadF e i (GG.adjOf to i)) e x ∧ l.foldl (fun e i => CC.leadF e i (GG.adjOf to i)) e x ≤ M + 256 * ((k + l.length : Nat) : Int) := by
  intro l
  induction l with
  | nil => intro e k _ h x hx; have := h x hx; show -1 ≤ e x ∧ e x ≤ _; rw [List.length_nil]; omega
  | cons a t ih =>
    intro e k hl h x hx
    have hlen := GG.right_len hr
    have ha := hl a List.mem_cons_self
    have hrl := GG.row_len (GG.right_at hr ha)
    have h1 := CC.leadF_bd (n := to.length) ha (M := M + 256 * k) (by omega) h (GG.adjOf to a)
    rw [GG.adj_len] at h1
    have := ih (CC.leadF e a (GG.adjOf to a)) (k + 1) (fun y hy => hl y (List.mem_cons_of_mem _ hy)) (fun y hy => by have := h1 y hy; omega) x hx
    rw [List.length_cons]
    show -1 ≤ t.foldl _ (CC.leadF e a (GG.adjOf to a)) x ∧ t.foldl _ (CC.leadF e a (GG.adjOf to a)) x ≤ _
    omega
theorem inT_bd {to : List (List Int)} (hr : GG.rightG to = true) {e : Nat → Int} {g : List Nat} {M : Int} (hM : 0 ≤ M) (hg : ∀ x ∈ g, x < to.length) (h : ∀ x, x < to.length → -1 ≤ e x ∧ e x ≤ M) (q : Nat) : ∀ x, x < to.length → -1 ≤ inT (GG.adjOf to) e g q x ∧ inT (GG.adjOf to) e g q x ≤ M + 256 * (q : Int) := by
  intro x hx
  have h0 : ∀ x, x < to.length → -1 ≤ (if CC.circB (GG.adjOf to) g && CC.hasB e g then CC.downF e g else e) x ∧ (if CC.circB (GG.adjOf to) g && CC.hasB e g then CC.downF e g else e) x ≤ M + 256 * ((0 : Nat) : Int) := by
    intro x hx
    have := h x hx
    split
    · unfold CC.downF
      split <;> omega
    · omega
  have := fold_bd hr hM (g.take q) _ 0 (fun y hy => hg y (List.mem_of_mem_take hy)) h0 x hx
  have hq : (g.take q).length ≤ q := by rw [List.length_take]; omega
  unfold inT
  omega
theorem entT_bd {to : List (List Int)} (hr : GG.rightG to = true) (main : Nat) : ∀ (t : Nat), t ≤ (groupsL to).reverse.length → ∀ x, x < to.length → -1 ≤ entT to main t x ∧ entT to main t x ≤ 1 + 65536 * (t : Int) := by
  intro t
  induction t with
  | zero =>
    intro _ x hx
    rw [entT_zero]
    unfold CC.startE
    split <;> omega
  | succ t ih =>
    intro ht x hx
    have hg : (groupsL to).reverse[t]?.getD [] ∈ groupsL to := List.mem_reverse.1 (GG.getD_mem (by omega))
    obtain ⟨_, h2, h3⟩ := group_is hr hg
    rw [entT_succ main (by omega), ← inT_all (GG.adjOf to) _ (Nat.le_refl _)]
    have := inT_bd hr (by omega) h3 (ih (by omega)) ((groupsL to).reverse[t]?.getD []).length x hx
    omega
/-- .. as a list -/
def entL (to : List (List Int)) (main : Int) : List Int := if GG.rightG to = true ∧ GG.inB to.length main = true then (List.range to.length).map (entriesL to main.toNat) else []
theorem IntsC.row {W : World} {g n : Nat} {f : Nat → Int} (h : IntsC W g n f) : Row W.heap.size W (.slice (some ⟨g, 0, none⟩) n n) ((List.range n).map f) := by
  have hl : (intsV ((List.range n).map f)).length = n := by simp [intsV]
  refine .inr ⟨g, 0, n, by rw [hl], World.rowIs.lt h, by rw [hl]; exact Nat.le_refl _, fun j u hj => ?_⟩
  have hjn : j < n := by
    have := (List.getElem?_eq_some_iff.1 hj).1
    omega
  have hu : u = .int .i64 (f j) := by
    have : (intsV ((List.range n).map f))[j]? = some (.int .i64 (f j)) := by simp [intsV, hjn]
    rw [this] at hj
    exact (Option.some.inj hj).symm
  rw [hu, Nat.zero_add]
  exact World.rowIs.cell h hjn
end Go.Proofs.Ytbelhoeailjkkaa
