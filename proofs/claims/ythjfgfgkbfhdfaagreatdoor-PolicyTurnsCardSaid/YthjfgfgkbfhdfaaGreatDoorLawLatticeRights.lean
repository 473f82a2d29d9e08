import Derived.Test.YthjfgfgkbfhdfaaGreatDoorLatAll
set_option linter.unusedSimpArgs false
set_option linter.unusedVariables false
/-! LatticeRights: the walk -/
namespace Go.Proofs.YthjfgfgkbfhdfaaGreatDoor
open Go.RowKit

theorem cell_lt5 {w : World} {a : Addr} {v : Value} (h : w.cell? a = some v) : a.block < w.heap.size := by
  apply Classical.byContradiction; intro hn
  simp [World.cell?, Array.getElem?_eq_none (Nat.le_of_not_lt hn)] at h
/-- the cells that a copy takes over, in any later world -/
theorem news5 {k : IntKind} {w W : World} {x : Addr} {len cap : Nat} {zs : List Int} (hl : len ≤ cap) (hz : zs.length = cap) (hcell : ∀ i, i < zs.length → w.cell? (x.add i) = some (.int k (zs.getD i 0))) (hB : Below w.heap.size w W) :
    ∀ j u, ((zs.take len).map (Value.int k))[j]? = some u → W.cell? (x.add j) = some u := by
  intro j u hj
  rw [List.getElem?_map] at hj
  have hjl : j < len := by
    apply Classical.byContradiction; intro hn
    rw [List.getElem?_eq_none (by rw [List.length_take]; omega)] at hj
    simp at hj
  rw [List.getElem?_take_of_lt hjl, List.getElem?_eq_getElem (by omega)] at hj
  have hc := hcell j (by omega)
  simp at hj
  rw [List.getD_eq_getElem?_getD, List.getElem?_eq_getElem (by omega)] at hc
  simp at hc
  rw [hj] at hc
  exact (hB.cell (cell_lt5 hc)).trans hc
theorem nums_oneCell (k : IntKind) (l : List Int) : ∀ u ∈ l.map (Value.int k), u.oneCell' = true := by
  intro u hu
  obtain ⟨x, _, rfl⟩ := List.mem_map.1 hu
  rfl
theorem wide_take {zs : List Int} (h : ∀ x ∈ zs, 0 ≤ x ∧ x ≤ 18446744073709551615) (n : Nat) : Wide (zs.take n) := fun x hx => h x (List.mem_of_mem_take hx)
/-- an empty slice of the call's own -/
theorem nums_empty (n₀ : Nat) (W : World) (a : Option Addr) (cap : Nat) : Nums .u64 n₀ W (.slice a 0 cap) [] := .inl ⟨⟨_, _, rfl⟩, rfl⟩

end Go.Proofs.YthjfgfgkbfhdfaaGreatDoor
