import Derived.Test.YtbelhoeailjkkaaGraM
set_option linter.unusedSimpArgs false
set_option linter.unusedVariables false
/-! graphs: what only reads -/
namespace Go.Proofs.Ytbelhoeailjkkaa
open Go.RowKit

theorem node_any (v : Value) (n : Nat) (i : Int) (w : World) (hv : ∃ a cap, v = .slice a n cap) (hn : n ≤ 17592186044416) :
    Calls Try.prog 33 #[v, .int .i64 i] w fun e w' => e = .returned (.bool (GG.inB n i)) ∧ w = w' := by
  obtain ⟨a, cap, rfl⟩ := hv
  by_cases h : 0 ≤ i ∧ i < n
  · have HS := Lib.hid (show GG.inB n i = true from decide_eq_true h)
    obtain ⟨h1, h2⟩ := h
    go_enter Try.func33, Try.ntmps33
    go_wp2_with fail
    go_ret
    exact ⟨ret_bool HS.out.symm, rfl⟩
  · have HS := Lib.hid (show GG.inB n i = false from decide_eq_false h)
    by_cases h1 : 0 ≤ i
    · have h2 : ¬ i < n := fun h2 => h ⟨h1, h2⟩
      clear h
      go_enter Try.func33, Try.ntmps33
      go_wp2_with fail
      go_ret
      exact ⟨ret_bool HS.out.symm, rfl⟩
    · clear h
      go_enter Try.func33, Try.ntmps33
      go_wp2_with fail
      go_ret
      exact ⟨ret_bool HS.out.symm, rfl⟩

end Go.Proofs.Ytbelhoeailjkkaa
