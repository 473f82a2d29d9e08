import Derived.Test.YtbdmpilaeoclgaaGraX
set_option linter.unusedSimpArgs false
set_option linter.unusedVariables false
/-! graphs: the reference's walk and order -/
namespace Go.Proofs.Ytbdmpilaeoclgaa
open Go.RowKit
theorem GG.dfs_been (adj : Nat → List Nat) (f i : Nat) (s : GG.St) (h : s.1 i = true) : GG.dfs adj f i s = s := by
  cases f with
  | zero => rfl
  | succ f => unfold GG.dfs; rw [if_pos h]
/-- what a walk of the reference keeps -/
structure ASt (W0 : World) (n : Nat) (s : GG.St) (bv : Value) (W : World) : Prop where
  been : FlagsN W W0.heap.size n s.1
  out : W.ownsRow (W0.heap.size + 1) 3 1 bv s.2.length (intsV (s.2.map Int.ofNat))
  below : Below W0.heap.size W0 W
  size : W0.heap.size + 1 ≤ W.heap.size
theorem ASt.mark {W0 W : World} {n : Nat} {s : GG.St} {bv : Value} (h : ASt W0 n s bv W) (i : Nat) : ASt W0 n (GG.setB s.1 i, s.2) bv (W.setCell ⟨W0.heap.size, i, none⟩ (.bool true)) := by
  refine ⟨h.been.set i, ⟨h.out.1, ?_⟩, h.below.setCell (by simp) _, by simpa using h.size⟩
  rcases h.out.2 with hn | ⟨g, cap, cur, rfl, hb', hgg, rest⟩
  · exact .inl hn
  · exact .inr ⟨g, cap, cur, rfl, hb', by rw [blk_set_other _ _ _ _ (by simp; omega)]; exact hgg, rest⟩
theorem ASt.told {W0 W w1 : World} {n i : Nat} {s : GG.St} {bv v' : Value} {o : Obj} (h : ASt W0 n s bv W)
    (ho : w1.ownsRow (W0.heap.size + 1) 3 1 v' (s.2.length + 1) (intsV (s.2.map Int.ofNat) ++ [.int .i64 (i : Int)])) (hg : (W.alloc o).grownBy w1 bv.ownBlock) : ASt W0 n (s.1, s.2 ++ [i]) v' w1 := by
  have hs := h.size
  refine ⟨h.been.of_block ?_, ?_, (h.below.alloc (by omega) o).grown hg (by simp; omega) (fun k e => by have := (h.out.lt k e).1; omega), by have := hg.size; simp at this; omega⟩
  · rw [hg.block _ (by simp; omega) (fun e => by have := (h.out.lt _ e.symm).1; omega)]
    exact heap_alloc_old W o (by omega)
  · have e : (s.2 ++ [i]).length = s.2.length + 1 := by simp
    have e2 : intsV ((s.2 ++ [i]).map Int.ofNat) = intsV (s.2.map Int.ofNat) ++ [.int .i64 (i : Int)] := by simp [intsV]
    show w1.ownsRow _ _ 1 v' (s.2 ++ [i]).length (intsV ((s.2 ++ [i]).map Int.ofNat))
    rw [e, e2]; exact ho
def AfterP (W0 : World) (n : Nat) (s : GG.St) (e : Ending) (W' : World) : Prop := ∃ bv, e = .returned (.tuple #[.slice (some ⟨W0.heap.size, 0, none⟩) n n, bv]) ∧ ASt W0 n s bv W'

end Go.Proofs.Ytbdmpilaeoclgaa
