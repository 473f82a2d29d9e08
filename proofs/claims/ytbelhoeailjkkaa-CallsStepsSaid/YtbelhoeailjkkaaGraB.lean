import Derived.Test.YtbelhoeailjkkaaGraO
import Derived.Test.YtbelhoeailjkkaaLaysG
import Derived.Lib.OwnBridge
set_option linter.unusedSimpArgs false
set_option linter.unusedVariables false
/-! graphs: Order -/
namespace Go.Proofs.Ytbelhoeailjkkaa
open Go.RowKit
def NewInts (B : Nat) (l : List Int) (e : Ending) (W W' : World) : Prop := ∃ v, e = .returned v ∧ Row W'.heap.size W' v l ∧ Below B W W'
def orderE (to : List (List Int)) : List Int := if GG.rightG to = true then GG.orderL to else []
theorem run_ne (adj : Nat → List Nat) : ∃ t : GG.St, GG.runG adj [0] = (t.1, t.2 ++ [0]) := by
  unfold GG.runG GG.runF
  obtain ⟨t, e⟩ := GG.dfs_head (adj := adj) (f := 256) (i := 0) (s := ((fun _ => false), [])) rfl
  simp only [List.foldl_cons, List.foldl_nil]
  exact ⟨t, e⟩
theorem walk_zero {v : Value} {to : List (List Int)} (u : Value) (W : World) (hr : GG.rightG to = true) (hv : GraphM W.heap.size W v to) (hu : Row W.heap.size W u [0]) :
    Calls Try.prog 34 #[v, u] W fun e W' => WalkP W.heap.size (GG.runG (GG.adjOf to) [0]) e W W' := by
  have h := walk_any u [0] W hr hv hu (by simp) (by intro x hx; rw [List.mem_singleton.1 hx]; have := GG.right_len hr; omega)
  have hm : List.map Int.toNat [(0 : Int)] = [0] := rfl
  rw [hm] at h
  exact h
end Go.Proofs.Ytbelhoeailjkkaa
