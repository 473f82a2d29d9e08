import Derived.Test.YtbdmpilaeoclgaaDomP
set_option linter.unusedSimpArgs false
set_option linter.unusedVariables false
/-! plain: dominators: the order of a walk; what the reference says -/
namespace Go.Proofs.Ytbdmpilaeoclgaa.DD
open GG
/-- each node told of a walk has one that leads to it told behind it, but for those that it begins with -/
def Par (adj : Nat → List Nat) (fr : Nat → Prop) (new : List Nat) : Prop := ∀ p x q, new = p ++ x :: q → fr x ∨ ∃ y ∈ q, x ∈ adj y
theorem par_app {adj : Nat → List Nat} {fr : Nat → Prop} {a b : List Nat} (h : Par adj fr a) (g : Par adj fr b) : Par adj fr (a ++ b) := by
  intro p x q e
  rcases append_split e with ⟨q', h1⟩ | ⟨p', rfl, h2⟩
  · rcases h p x q' h1 with k | ⟨y, hy, k⟩
    · exact .inl k
    · refine .inr ⟨y, ?_, k⟩
      subst h1
      have e' : p ++ x :: (q' ++ b) = p ++ x :: q := by rw [← e]; simp
      have := List.append_cancel_left e'
      simp at this
      rw [← this]; exact List.mem_append_left _ hy
  · exact g p' x q h2
theorem par_weak {adj : Nat → List Nat} {fr fr' : Nat → Prop} {a : List Nat} (h : Par adj fr a) (hf : ∀ x, fr x → fr' x) : Par adj fr' a :=
  fun p x q e => (h p x q e).imp (hf x) id
theorem par_fold {adj : Nat → List Nat} {f : Nat} (ih : ∀ (i : Nat) (s : GG.St), ∃ new, (dfs adj f i s).2 = s.2 ++ new ∧ Par adj (· = i) new) (l : List Nat) :
    ∀ (s : GG.St), ∃ new, (l.foldl (fun s j => dfs adj f j s) s).2 = s.2 ++ new ∧ Par adj (· ∈ l) new := by
  induction l with
  | nil => intro s; exact ⟨[], by simp, fun p x q e => by simp at e⟩
  | cons j l ihl =>
    intro s
    obtain ⟨a, ha, hpa⟩ := ih j s
    obtain ⟨b, hb, hpb⟩ := ihl (dfs adj f j s)
    exact ⟨a ++ b, by rw [List.foldl_cons, hb, ha, List.append_assoc], par_app (par_weak hpa (fun x e => by rw [e]; exact List.mem_cons_self)) (par_weak hpb (fun x e => List.mem_cons_of_mem _ e))⟩
theorem par_dfs {adj : Nat → List Nat} (f : Nat) : ∀ (i : Nat) (s : GG.St), ∃ new, (dfs adj f i s).2 = s.2 ++ new ∧ Par adj (· = i) new := by
  induction f with
  | zero => intro i s; exact ⟨[], by unfold dfs; simp, fun p x q e => by simp at e⟩
  | succ f ih =>
    intro i s
    unfold dfs
    by_cases hB : s.1 i = true
    · rw [if_pos hB]; exact ⟨[], by simp, fun p x q e => by simp at e⟩
    · rw [if_neg hB]
      obtain ⟨a, ha, hpa⟩ := par_fold ih (adj i) (setB s.1 i, s.2)
      refine ⟨a ++ [i], by show _ ++ [i] = _; rw [ha, List.append_assoc], fun p x q e => ?_⟩
      rcases append_split e with ⟨q', h1⟩ | ⟨p', rfl, h2⟩
      · have hq : q = q' ++ [i] := by
          subst h1
          have e' : p ++ x :: (q' ++ [i]) = p ++ x :: q := by rw [← e]; simp
          have := List.append_cancel_left e'
          simp at this
          exact this.symm
        rcases hpa p x q' h1 with k | ⟨y, hy, k⟩
        · exact .inr ⟨i, by rw [hq]; simp, k⟩
        · exact .inr ⟨y, by rw [hq]; exact List.mem_append_left _ hy, k⟩
      · cases p' with
        | nil => simp at h2; exact .inl h2.1.symm
        | cons z p' => simp at h2
/-- where a node stands in the order -/
def plOf (to : List (List Int)) (x : Nat) : Nat := (orderL to).idxOf (x : Int)
def allB (to : List (List Int)) : Bool := (List.range to.length).all (reachB to (-1) 0)
theorem all_at {to : List (List Int)} (h : allB to = true) {x : Nat} (hx : x < to.length) : reachB to (-1) 0 x = true := List.all_eq_true.1 h x (List.mem_range.2 hx)
theorem order_mem {to : List (List Int)} (h : rightG to = true) (ha : allB to = true) {x : Nat} : (x : Int) ∈ orderL to ↔ x < to.length := by
  rw [mem_order h]
  constructor
  · rintro ⟨_, h2, _⟩; omega
  · intro hx; exact ⟨by omega, by omega, by rw [Int.toNat_natCast]; exact all_at ha hx⟩
theorem order_len {to : List (List Int)} (h : rightG to = true) (ha : allB to = true) : (orderL to).length = to.length := by
  have h1 : ((List.range to.length).map Int.ofNat).Nodup := by
    rw [List.nodup_iff_pairwise_ne, List.pairwise_map]
    exact (List.nodup_iff_pairwise_ne.1 List.nodup_range).imp (fun h e => h (Int.ofNat.inj e))
  have := same_len h1 (order_nodup h) (fun x => by
    rw [mem_order h, List.mem_map]
    constructor
    · rintro ⟨y, hy, rfl⟩
      have := List.mem_range.1 hy
      exact ⟨Int.natCast_nonneg _, by show (y : Int) < _; omega, by show reachB to (-1) 0 (y : Int).toNat = true; rw [Int.toNat_natCast]; exact all_at ha this⟩
    · rintro ⟨h1, h2, h3⟩
      exact ⟨x.toNat, List.mem_range.2 (by omega), by show ((x.toNat : Nat) : Int) = x; omega⟩)
  rw [List.length_map, List.length_range] at this
  exact this.symm
theorem pl_at {to : List (List Int)} (h : rightG to = true) (ha : allB to = true) {x : Nat} (hx : x < to.length) : ∃ h' : plOf to x < (orderL to).length, (orderL to)[plOf to x] = (x : Int) := by
  have hm := (order_mem h ha).2 hx
  exact ⟨List.idxOf_lt_length_of_mem hm, List.getElem_idxOf (List.idxOf_lt_length_of_mem hm)⟩
theorem at_pl {to : List (List Int)} (h : rightG to = true) (ha : allB to = true) {q : Nat} (hq : q < to.length) : ∃ x : Nat, x < to.length ∧ (orderL to)[q]?.getD 0 = (x : Int) ∧ plOf to x = q := by
  have hl := order_len h ha
  have hq' : q < (orderL to).length := by omega
  rw [List.getElem?_eq_getElem hq', Option.getD_some]
  have hm := List.getElem_mem hq'
  obtain ⟨h1, h2, h3⟩ := (mem_order h _).1 hm
  refine ⟨((orderL to)[q]).toNat, by omega, by omega, ?_⟩
  unfold plOf
  rw [Int.toNat_of_nonneg h1]
  have hi := List.idxOf_lt_length_of_mem hm
  have e := List.getElem_idxOf hi
  exact (List.getElem_inj (h₀ := hi) (h₁ := hq') (order_nodup h)).1 e
theorem pl_ahead {to : List (List Int)} (h : rightG to = true) (ha : allB to = true) {k : Nat} (hk : k < to.length) (h0 : k ≠ 0) : ∃ u, u < to.length ∧ k ∈ adjOf to u ∧ plOf to u < plOf to k := by
  obtain ⟨new, hn, hp⟩ := par_dfs (adj := adjOf to) 257 0 ((fun _ => false), [])
  have hor : orderL to = new.reverse.map Int.ofNat := by
    unfold orderL runG runF
    show ((dfs (adjOf to) 257 0 ((fun _ => false), [])).2.reverse).map Int.ofNat = _
    rw [hn]; simp
  have hkm := (order_mem h ha).2 hk
  rw [hor] at hkm
  obtain ⟨k', hk', e⟩ := List.mem_map.1 hkm
  have : k' = k := Int.ofNat.inj e
  subst this
  obtain ⟨p, q, e1⟩ := List.append_of_mem (List.mem_reverse.1 hk')
  rcases hp p k' q e1 with e2 | ⟨y, hy, hyk⟩
  · exact absurd e2 h0
  · have hnd := order_nodup h
    have e3 : orderL to = (q.reverse.map Int.ofNat) ++ ((k' : Int) :: p.reverse.map Int.ofNat) := by
      rw [hor, e1]; simp
    rw [e3] at hnd
    have hnk : (k' : Int) ∉ q.reverse.map Int.ofNat := fun hm => ((List.nodup_append.1 hnd).2.2 _ hm _ List.mem_cons_self) rfl
    have hym : (y : Int) ∈ q.reverse.map Int.ofNat := List.mem_map.2 ⟨y, List.mem_reverse.2 hy, rfl⟩
    refine ⟨y, (order_mem h ha).1 (by rw [e3]; exact List.mem_append_left _ hym), hyk, ?_⟩
    unfold plOf
    rw [e3, List.idxOf_append, if_pos hym, List.idxOf_append, if_neg hnk, List.idxOf_cons_self]
    have := List.idxOf_lt_length_of_mem hym
    omega
theorem gr_of {to : List (List Int)} (h : rightG to = true) (ha : allB to = true) : Gr to.length (adjOf to) (plOf to) := by
  refine ⟨(right_len h).1, adj_lt h, ?_, fun x y hx hy e => ?_, fun x hx => ?_, fun k hk h0 => pl_ahead h ha hk h0⟩
  · obtain ⟨l, e⟩ := order_head (to := to)
    unfold plOf
    rw [e]; exact List.idxOf_cons_self
  · obtain ⟨h1, e1⟩ := pl_at h ha hx
    obtain ⟨h2, e2⟩ := pl_at h ha hy
    have : (orderL to)[plOf to x] = (orderL to)[plOf to y] := by congr 1
    rw [e1, e2] at this
    exact Int.ofNat.inj this
  · have := (pl_at h ha hx).1
    rw [order_len h ha] at this
    exact this
/-- which nodes dominate which: the reference -/
def ovB (to : List (List Int)) (a b : Nat) : Bool := decide (a = b) || !(decide (a ≠ 0) && reachB to a 0 b)
theorem adjN_cut (to : List (List Int)) (a : Nat) : adjN to (a : Int) = cut (adjOf to) a := by
  funext x
  unfold adjN cut
  exact List.filter_congr fun j _ => by
    by_cases e : j = a
    · subst e; simp
    · have : (j : Int) ≠ (a : Int) := by omega
      simp [e, this]
theorem av_iff {to : List (List Int)} (h : rightG to = true) (a k : Nat) : Av (adjOf to) a k ↔ (decide (a ≠ 0) && reachB to a 0 k) = true := by
  have := right_len h
  rw [Bool.and_eq_true, decide_eq_true_eq, reachB_iff h (by omega), adjN_cut]
  rfl
theorem ov_iff {to : List (List Int)} (h : rightG to = true) (a k : Nat) : ovB to a k = true ↔ ¬ Av (adjOf to) a k := by
  unfold ovB
  rw [Bool.or_eq_true, decide_eq_true_eq]
  constructor
  · rintro (e | e) hav
    · exact hav.ne e.symm
    · rw [(av_iff h a k).1 hav] at e; cases e
  · intro hn
    right
    cases e : (decide (a ≠ 0) && reachB to a 0 k)
    · rfl
    · exact absurd ((av_iff h a k).2 e) hn
def isB (to : List (List Int)) (b a : Nat) : Bool := (decide (a ≠ b) && ovB to a b) && (List.range to.length).all fun k => decide (k = b) || !ovB to k b || ovB to k a
def lastN (p : Nat → Bool) : Nat → Int
  | 0 => -1
  | n + 1 => if p n = true then (n : Int) else lastN p n
theorem lastN_none {p : Nat → Bool} : ∀ {n : Nat}, (∀ a, a < n → p a = false) → lastN p n = -1
  | 0, _ => rfl
  | n + 1, h => by unfold lastN; rw [if_neg (by rw [h n (by omega)]; simp)]; exact lastN_none (fun a ha => h a (by omega))
theorem lastN_one {p : Nat → Bool} {j : Nat} : ∀ {n : Nat}, j < n → p j = true → (∀ a, a < n → p a = true → a = j) → lastN p n = (j : Int)
  | 0, hj, _, _ => by omega
  | n + 1, hj, h, hu => by
    unfold lastN
    by_cases e : p n = true
    · rw [if_pos e, hu n (by omega) e]
    · rw [if_neg e]
      have : j ≠ n := fun e' => by subst e'; exact e h
      exact lastN_one (by omega) h (fun a ha => hu a (by omega))
theorem lastN_bd (p : Nat → Bool) : ∀ n, -1 ≤ lastN p n ∧ lastN p n < n
  | 0 => ⟨by unfold lastN; omega, by unfold lastN; omega⟩
  | n + 1 => by
    unfold lastN
    have := lastN_bd p n
    split <;> constructor <;> omega
/-- the immediate dominator: the reference -/
def domI (to : List (List Int)) (b : Nat) : Int := lastN (isB to b) to.length
theorem fin_at {to : List (List Int)} (h : rightG to = true) {T : Nat → Int} (F : Fin to.length (adjOf to) (plOf to) T) {b : Nat} (hb : b < to.length) : T b = domI to b := by
  have ov : ∀ a k, k < to.length → (ovB to a k = true ↔ Up T k a) := fun a k hk => (ov_iff h a k).trans (F.dom k a hk).symm
  rcases F.all b hb with rfl | ⟨j, hj⟩
  · rw [F.inv.root]
    unfold domI
    rw [lastN_none fun a ha => ?_]
    unfold isB
    rw [Bool.and_eq_false_iff]; left
    rw [Bool.and_eq_false_iff]
    by_cases e : a = 0
    · left; simp [e]
    · right
      cases hc : ovB to a 0
      · rfl
      · exact absurd (F.inv.root_up ((ov a 0 hb).1 hc)) e
  · obtain ⟨_, hjn, hjp, hjk, _⟩ := F.inv.ok b j hj
    have hjb : j ≠ b := fun e => by subst e; omega
    rw [hj]
    unfold domI
    refine (lastN_one hjn ?_ ?_).symm
    · unfold isB
      rw [Bool.and_eq_true, Bool.and_eq_true, decide_eq_true_eq]
      refine ⟨⟨hjb, (ov j b hb).2 (.one hj)⟩, List.all_eq_true.2 fun k hk => ?_⟩
      have hkn := List.mem_range.1 hk
      rw [Bool.or_eq_true, Bool.or_eq_true, decide_eq_true_eq]
      by_cases e : k = b
      · exact .inl (.inl e)
      · cases hc : ovB to k b
        · exact .inl (.inr rfl)
        · exact .inr ((ov k j hjn).2 (((ov k b hb).1 hc).head_of hj e))
    · intro a ha hia
      unfold isB at hia
      rw [Bool.and_eq_true, Bool.and_eq_true, decide_eq_true_eq] at hia
      obtain ⟨⟨hab, hov⟩, hall⟩ := hia
      have u1 := ((ov a b hb).1 hov).head_of hj hab
      have h3 := List.all_eq_true.1 hall j (List.mem_range.2 hjn)
      rw [Bool.or_eq_true, Bool.or_eq_true, decide_eq_true_eq, (ov j b hb).2 (.one hj)] at h3
      have u2 : Up T a j := by
        rcases h3 with (h3 | h3) | h3
        · exact absurd h3 hjb
        · cases h3
        · exact (ov j a ha).1 h3
      exact (F.inv.anti u1 u2)
def domsL (to : List (List Int)) : List Int := (List.range to.length).map (domI to)
/-- the tree of a graph; none, if it may not be, or a node is not reached -/
def treeL (to : List (List Int)) : List Int := if rightG to = true ∧ allB to = true then domsL to else []
theorem fin_list {to : List (List Int)} (h : rightG to = true) (ha : allB to = true) {T : Nat → Int} (F : Fin to.length (adjOf to) (plOf to) T) : (List.range to.length).map T = treeL to := by
  unfold treeL domsL
  rw [if_pos ⟨h, ha⟩]
  exact List.map_congr_left fun b hb => fin_at h F (List.mem_range.1 hb)
/-- those that lead to a node -/
def preds (to : List (List Int)) (i : Nat) : List Nat := (ledBy to i to.length).map Int.toNat
theorem mem_preds {to : List (List Int)} (h : rightG to = true) {i : Nat} (hi : i < to.length) (j : Nat) : j ∈ preds to i ↔ j < to.length ∧ i ∈ adjOf to j := by
  unfold preds
  rw [List.mem_map]
  constructor
  · rintro ⟨x, hx, rfl⟩
    obtain ⟨k, rfl, hk, hm⟩ := mem_ledBy.1 hx
    exact ⟨by omega, by rw [Int.toNat_natCast]; exact (adj_mem h hk i).2 hm⟩
  · rintro ⟨hj, hm⟩
    exact ⟨(j : Int), mem_ledBy.2 ⟨j, rfl, hj, (adj_mem h hj i).1 hm⟩, by simp⟩
end Go.Proofs.Ytbdmpilaeoclgaa.DD
