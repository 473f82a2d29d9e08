import Derived.Test.YtbelhoeailjkkaaGraB
import Derived.Deep.AppendLies
set_option linter.unusedSimpArgs false
set_option linter.unusedVariables false
/-! graphs: a table of rows that all grow; turned round -/
namespace Go.Proofs.Ytbelhoeailjkkaa
open Go.RowKit
/-- what is known of a table: the slices in it, each with a row of its own -/
structure Tab (W0 : World) (n : Nat) (rows : Nat → List Int) (vs : Nat → Value) (W : World) : Prop where
  tab : W.rowIs W0.heap.size 28 n vs
  own : ∀ j, j < n → W.ownsRow (W0.heap.size + 1) 3 1 (vs j) (rows j).length (intsV (rows j))
  apart : ∀ j k, j < n → k < n → j ≠ k → (vs j).ownBlock = none ∨ (vs j).ownBlock ≠ (vs k).ownBlock
  below : Below W0.heap.size W0 W
  size : W0.heap.size + 1 ≤ W.heap.size
def OwnG (W0 : World) (n : Nat) (rows : Nat → List Int) (W : World) : Prop := ∃ vs, Tab W0 n rows vs W
theorem OwnG.congr {W0 W : World} {n : Nat} {rows rows' : Nat → List Int} (h : OwnG W0 n rows W) (e : ∀ j, j < n → rows j = rows' j) : OwnG W0 n rows' W := by
  obtain ⟨vs, h1, h2, h3, h4, h5⟩ := h
  exact ⟨vs, h1, fun j hj => by rw [← e j hj]; exact h2 j hj, h3, h4, h5⟩
theorem ownG_new (W : World) (n : Nat) : OwnG W n (fun _ => []) (W.alloc (.cells (madeCells #[.slice none 0 0] n) 28)) :=
  ⟨fun _ => .slice none 0 0, World.rowIs_made W (.slice none 0 0) n 28, fun j _ => World.ownsRow_nil _ _ _ _, fun j k _ _ _ => .inl rfl, (Below.refl _ _).alloc (Nat.le_refl _) _, by simp⟩
theorem OwnG.graph {W0 W : World} {n : Nat} {rows : Nat → List Int} (h : OwnG W0 n rows W) : GraphM W.heap.size W (.slice (some ⟨W0.heap.size, 0, none⟩) n n) ((List.range n).map rows) := by
  obtain ⟨vs, h1, h2, h3, h4, h5⟩ := h
  refine ⟨(List.range n).map vs, .inr ⟨W0.heap.size, 0, n, by simp, World.rowIs.lt h1, by simp, fun j u hj => ?_⟩, by simp, fun j hj => ?_⟩
  · have hjn : j < n := by
      have := (List.getElem?_eq_some_iff.1 hj).1
      simpa using this
    rw [List.getElem?_map, List.getElem?_range hjn] at hj
    have := World.rowIs.cell h1 hjn
    rw [Nat.zero_add, this]
    exact hj
  · have hjn : j < n := by simpa using hj
    refine ⟨vs j, by rw [List.getElem?_map, List.getElem?_range hjn]; rfl, ?_⟩
    rw [List.getElem?_map, List.getElem?_range hjn]
    exact cells_of_row (h2 j hjn)
theorem Tab.app {W0 W w1 : World} {n : Nat} {rows : Nat → List Int} {vs : Nat → Value} (h : Tab W0 n rows vs W) {j : Nat} (hj : j < n) {x : Int} {g cap : Nat} {o : Obj}
    (ho : w1.ownsRow (W0.heap.size + 1) 3 1 (.slice (some ⟨g, 0, none⟩) ((rows j).length + 1) cap) ((rows j).length + 1) (intsV (rows j) ++ [.int .i64 x])) (hg : (W.alloc o).grownBy w1 (vs j).ownBlock) (hat : (vs j).ownBlock = some g ∨ g = W.heap.size + 1) :
    OwnG W0 n (fun k => if k = j then rows j ++ [x] else rows k) (w1.setCell ⟨W0.heap.size, j, none⟩ (.slice (some ⟨g, 0, none⟩) ((rows j).length + 1) cap)) ∧
      w1.cell? ⟨W0.heap.size, j, none⟩ = some (vs j) ∧ w1.frozen? ⟨W0.heap.size, j, none⟩ = false := by
  obtain ⟨h1, h2, h3, h4, h5⟩ := h
  have hb : ∀ k, (vs j).ownBlock = some k → W0.heap.size + 1 ≤ k ∧ k < W.heap.size := fun k e => (h2 j hj).lt k e
  have hgb : W0.heap.size + 1 ≤ g := by
    rcases hat with e | e
    · exact (hb g e).1
    · omega
  have h1' : w1.rowIs W0.heap.size 28 n vs := by
    refine h1.of_block ?_
    rw [hg.block _ (by simp; omega) (fun e => by have := (hb _ e.symm).1; omega)]
    exact heap_alloc_old W o (by omega)
  refine ⟨⟨fun k => if k = j then .slice (some ⟨g, 0, none⟩) ((rows j).length + 1) cap else vs k, World.rowIs.set h1' j _, fun k hk => ?_, fun k l hk hl hkl => ?_, ?_, ?_⟩, World.rowIs.cell h1' hj, World.rowIs.frozen h1' j⟩
  · have key : ∀ {v : Value} {m : Nat} {xs : List Value}, w1.ownsRow (W0.heap.size + 1) 3 1 v m xs → (w1.setCell ⟨W0.heap.size, j, none⟩ (.slice (some ⟨g, 0, none⟩) ((rows j).length + 1) cap)).ownsRow (W0.heap.size + 1) 3 1 v m xs := by
      intro v m xs hv
      refine ⟨hv.1, ?_⟩
      rcases hv.2 with hn | ⟨g', cap', cur, rfl, hb', hgg, rest⟩
      · exact .inl hn
      · exact .inr ⟨g', cap', cur, rfl, hb', by rw [blk_set_other _ _ _ _ (by simp; omega)]; exact hgg, rest⟩
    by_cases e : k = j
    · subst e
      simp only [if_true]
      refine key ?_
      have e1 : (rows k ++ [x]).length = (rows k).length + 1 := by simp
      have e2 : intsV (rows k ++ [x]) = intsV (rows k) ++ [.int .i64 x] := by simp [intsV]
      rw [e1, e2]; exact ho
    · simp only [if_neg e]
      exact key (((h2 k hk).alloc o).kept hg (h3 k j hk hj e))
  · by_cases e : k = j
    · subst e
      simp only [if_true, if_neg (fun e => hkl (Eq.symm e))]
      right
      intro e2
      have e2' : some g = (vs l).ownBlock := e2
      rcases hat with e1 | e1
      · rcases h3 l k hl hk (fun e => hkl e.symm) with h | h
        · rw [h] at e2'; cases e2'
        · exact h (e2'.symm.trans e1.symm)
      · have := ((h2 l hl).lt g e2'.symm).2
        omega
    · simp only [if_neg e]
      by_cases e3 : l = j
      · subst e3
        simp only [if_true]
        rcases hat with e1 | e1
        · rcases h3 k l hk hl hkl with h | h
          · exact .inl h
          · exact .inr (fun e2 => h (e2.trans e1.symm))
        · right
          intro e2
          have e2' : (vs k).ownBlock = some g := e2
          have := ((h2 k hk).lt g e2').2
          omega
      · simp only [if_neg e3]
        exact h3 k l hk hl hkl
  · exact ((h4.alloc (by omega) o).grown hg (by simp; omega) (fun k e => by have := (hb k e).1; omega)).setCell (by simp) _
  · have := hg.size; simp at this ⊢; omega
/-- the rows of the reference's Back: the node i is at k -/
def backAt (to : List (List Int)) (i k : Nat) (j : Nat) : List Int := GG.ledBy to j (if j < i then to.length else if j = i then k else 0)
theorem ledBy_zero (to : List (List Int)) (j : Nat) : GG.ledBy to j 0 = [] := by simp [GG.ledBy]
theorem ledBy_len (to : List (List Int)) (j m : Nat) : (GG.ledBy to j m).length ≤ m := by
  unfold GG.ledBy
  rw [List.length_map]
  have := List.length_filter_le (fun k => GG.leadsB to k (j : Int)) (List.range m)
  simpa using this
theorem backAt_yes {to : List (List Int)} {i k : Nat} (h : GG.leadsB to k i = true) (j : Nat) : (if j = i then backAt to i k i ++ [(k : Int)] else backAt to i k j) = backAt to i (k + 1) j := by
  unfold backAt
  by_cases e : j = i
  · subst e
    simp only [Nat.lt_irrefl, if_false, if_true]
    rw [GG.ledBy_succ, if_pos h]
  · rw [if_neg e, if_neg e, if_neg e]
theorem backAt_no {to : List (List Int)} {i k : Nat} (h : GG.leadsB to k i = false) (j : Nat) : backAt to i k j = backAt to i (k + 1) j := by
  unfold backAt
  by_cases e : j = i
  · subst e
    simp only [Nat.lt_irrefl, if_false, if_true]
    rw [GG.ledBy_succ, if_neg (by rw [h]; simp), List.append_nil]
  · rw [if_neg e, if_neg e]
theorem backAt_next (to : List (List Int)) (i : Nat) (j : Nat) : backAt to i to.length j = backAt to (i + 1) 0 j := by
  unfold backAt
  by_cases e : j < i
  · rw [if_pos e, if_pos (by omega)]
  · by_cases e2 : j = i
    · rw [if_neg e, if_pos e2, if_pos (by omega)]
    · rw [if_neg e, if_neg e2, if_neg (by omega)]
      split <;> rfl
theorem backAt_all (to : List (List Int)) (j : Nat) (hj : j < to.length) : backAt to to.length 0 j = GG.ledBy to j to.length := by unfold backAt; rw [if_pos hj]
def NewGraph (B : Nat) (l : List (List Int)) (e : Ending) (W W' : World) : Prop := ∃ v, e = .returned v ∧ GraphM W'.heap.size W' v l ∧ Below B W W'

end Go.Proofs.Ytbelhoeailjkkaa
