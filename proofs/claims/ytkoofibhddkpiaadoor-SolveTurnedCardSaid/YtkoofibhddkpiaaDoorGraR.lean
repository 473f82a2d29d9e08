import Derived.Test.YtkoofibhddkpiaaDoorGraE
set_option linter.unusedSimpArgs false
set_option linter.unusedVariables false
/-! graphs: may a graph be? (the reference) -/
namespace Go.Proofs.YtkoofibhddkpiaaDoor.GG
theorem rowOk_nil (n : Nat) (row : List Int) : rowOk n (row.take 0) = true := by
  rw [List.take_zero]; exact row_mk (by simp) (by simp)
theorem rowOk_step {n : Nat} {row : List Int} {k : Nat} (hk : k < row.length) (h : rowOk n (row.take k) = true) (h1 : 0 ≤ row[k]?.getD 0) (h2 : row[k]?.getD 0 < n) (h3 : ∀ j, j < k → row[j]?.getD 0 ≠ row[k]?.getD 0) : rowOk n (row.take (k + 1)) = true := by
  rw [List.getElem?_eq_getElem hk] at h1 h2 h3
  simp only [Option.getD_some] at h1 h2 h3
  rw [List.take_succ_eq_append_getElem hk]
  refine row_mk (fun j hj => ?_) ?_
  · rcases List.mem_append.1 hj with h' | h'
    · exact row_in h j h'
    · rw [List.mem_singleton.1 h']; exact ⟨h1, h2⟩
  · rw [List.nodup_append]
    refine ⟨row_nodup h, by simp, fun a ha b hb e => ?_⟩
    rw [List.mem_singleton.1 hb] at e
    obtain ⟨i, hi, e2⟩ := List.mem_take_iff_getElem.1 ha
    exact h3 i (by omega) (by rw [List.getElem?_eq_getElem (show i < row.length by omega), Option.getD_some, e2, e])
theorem rowOk_all {n : Nat} {row : List Int} {k : Nat} (hk : row.length ≤ k) (h : rowOk n (row.take k) = true) : rowOk n row = true := by
  rwa [List.take_of_length_le hk] at h
theorem rows_step {to : List (List Int)} {i : Nat} (h : ∀ j, j < i → rowOk to.length (to[j]?.getD []) = true) (hi : rowOk to.length (to[i]?.getD []) = true) : ∀ j, j < i + 1 → rowOk to.length (to[j]?.getD []) = true := by
  intro j hj
  by_cases e : j = i
  · subst e; exact hi
  · exact h j (by omega)
end Go.Proofs.YtkoofibhddkpiaaDoor.GG
namespace Go.Proofs.YtkoofibhddkpiaaDoor
open Go.RowKit

end Go.Proofs.YtkoofibhddkpiaaDoor
