import Derived.Test.YtkoofibhddkpiaaDoorGraW
set_option linter.unusedSimpArgs false
set_option linter.unusedVariables false
/-! graphs: rows that are the same (written by wip/tools/gen_graeq.py) -/
namespace Go.Proofs.YtkoofibhddkpiaaDoor.GG
theorem take_same {α : Type} {d : α} {xs ys : List α} {j : Nat} (h1 : j < xs.length) (h2 : j < ys.length) (h : xs.take j = ys.take j) (e : xs[j]?.getD d = ys[j]?.getD d) : xs.take (j + 1) = ys.take (j + 1) := by
  rw [List.getElem?_eq_getElem h1, List.getElem?_eq_getElem h2] at e
  simp only [Option.getD_some] at e
  rw [List.take_succ_eq_append_getElem h1, List.take_succ_eq_append_getElem h2, h, e]
theorem take_whole {α : Type} {xs ys : List α} {j : Nat} (h1 : xs.length ≤ j) (h2 : ys.length ≤ j) (h : xs.take j = ys.take j) : xs = ys := by
  rwa [List.take_of_length_le h1, List.take_of_length_le h2] at h
end Go.Proofs.YtkoofibhddkpiaaDoor.GG
namespace Go.Proofs.YtkoofibhddkpiaaDoor
open Go.RowKit
theorem BRow.cellAt {n₀ : Nat} {W : World} {a : Option Addr} {n cap : Nat} {xs : List Bool} (h : BRow n₀ W (.slice a n cap) xs) {k : Nat} (hk : k < xs.length) : ∃ b off, a = some ⟨b, off, none⟩ ∧ W.cell? ⟨b, off + k, none⟩ = some (.bool (xs[k]?.getD false)) := by
  obtain ⟨b, off, cap', e, _, hc⟩ := h.at (by omega)
  cases e
  exact ⟨b, off, rfl, hc k hk⟩

end Go.Proofs.YtkoofibhddkpiaaDoor
