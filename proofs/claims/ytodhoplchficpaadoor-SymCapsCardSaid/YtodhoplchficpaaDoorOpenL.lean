import Derived.Test.YtodhoplchficpaaDoorOpenM
set_option linter.unusedSimpArgs false
set_option linter.unusedVariables false
/-! the arguments of layer 19's laws -/
namespace Go.Proofs.YtodhoplchficpaaDoor
open Go.ChangeShapes Go.WideShapes Go.ChangeAt Go.RowKit Go.Deep Go.Joins
set_option maxRecDepth 100000 in
/-- a label that came in -/
theorem open_lab {H : Type} {enc : TypeId × Value → H} {r : Reach} {b0 : Nat} {W : World} {v : Value} {d : DataW H} {p : List MemPlace}
    (hv : Value.okWide Tryd.prog W r b0 38 v) (h : DataW.Trod enc Tryd.prog W 0 (fun _ => true) true 38 v d p) :
    ∃ a m : Int, v = .agg #[.int .i64 a, .int .u64 m] ∧ (0 ≤ m ∧ m ≤ 18446744073709551615) ∧ (Lit.int .i64 a).wf = true := by
  obtain ⟨cs, rfl, hcs⟩ := okWide_struct Tryd.underlying38 hv
  obtain ⟨l⟩ := cs
  have c2 : Tryd.prog.cellsOf 38 = 2 := by kernel_rfl
  match l, hcs.trans c2 with
  | [u0, u1], _ =>
    obtain ⟨fuel, hf⟩ := h
    simp [Value.cells] at hf
    obtain ⟨a, m, e, hm, hw⟩ := open_labL rfl hf
    simp only [List.cons.injEq, and_true] at e
    obtain ⟨rfl, rfl⟩ := e
    exact ⟨a, m, rfl, hm, hw⟩
end Go.Proofs.YtodhoplchficpaaDoor
