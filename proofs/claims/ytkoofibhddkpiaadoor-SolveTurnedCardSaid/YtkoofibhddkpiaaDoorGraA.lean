import Derived.Test.YtkoofibhddkpiaaDoorGraR
import Derived.Great.Walk
set_option linter.unusedSimpArgs false
set_option linter.unusedVariables false
/-! graphs: an array of 256 bools -/
namespace Go.Proofs.YtkoofibhddkpiaaDoor
open Go.RowKit
def falses : Array Value := Array.replicate 256 (.bool false)
/-- what has been gone of a row -/
def goneB (row : List Int) (q : Nat) (x : Nat) : Bool := decide ((x : Int) ∈ row.take q)
theorem gone_zero (row : List Int) (x : Nat) : false = goneB row 0 x := by simp [goneB]
theorem gone_succ {row : List Int} {q : Nat} (hq : q < row.length) (h0 : 0 ≤ row[q]?.getD 0) (x : Nat) : GG.setB (goneB row q) (row[q]?.getD 0).toNat x = goneB row (q + 1) x := by
  rw [List.getElem?_eq_getElem hq] at h0 ⊢
  simp only [Option.getD_some] at h0 ⊢
  unfold goneB GG.setB
  rw [List.take_succ_eq_append_getElem hq]
  by_cases e : x = (row[q]).toNat
  · subst e
    rw [if_pos rfl, Int.toNat_of_nonneg h0]
    exact (decide_eq_true (List.mem_append.2 (.inr (List.mem_singleton.2 rfl)))).symm
  · rw [if_neg e]
    have : (x : Int) ≠ row[q] := fun h => e (by omega)
    simp only [List.mem_append, List.mem_singleton, this, or_false]
theorem gone_at {row : List Int} {q : Nat} (h0 : 0 ≤ row[q]?.getD 0) (h : goneB row q (row[q]?.getD 0).toNat = true) : ∃ j, j < q ∧ row[j]?.getD 0 = row[q]?.getD 0 := by
  unfold goneB at h
  have h := of_decide_eq_true h
  rw [Int.toNat_of_nonneg h0] at h
  obtain ⟨i, hi, e⟩ := List.mem_take_iff_getElem.1 h
  exact ⟨i, by omega, by rw [List.getElem?_eq_getElem (show i < row.length by omega), Option.getD_some, e]⟩
theorem gone_no {row : List Int} {q : Nat} (h0 : 0 ≤ row[q]?.getD 0) (h : goneB row q (row[q]?.getD 0).toNat = false) (j : Nat) (hj : j < q) (hq : q < row.length) : row[j]?.getD 0 ≠ row[q]?.getD 0 := by
  intro e
  unfold goneB at h
  refine (of_decide_eq_false h) ?_
  rw [Int.toNat_of_nonneg h0, ← e, List.getElem?_eq_getElem (show j < row.length by omega), Option.getD_some]
  exact List.mem_take_iff_getElem.2 ⟨j, by omega, rfl⟩
theorem bcell0 {W : World} {A B : World} (h : Below W.heap.size W A) (g : Below W.heap.size W B) (b o : Nat) (hb : b < W.heap.size) : B.cell? ⟨b, o, none⟩ = A.cell? ⟨b, o, none⟩ := (g.cell (p := ⟨b, o, none⟩) hb).trans (h.cell (p := ⟨b, o, none⟩) hb).symm
/-- what both say of a row that lay below -/
theorem Row.of_both {W A B : World} (h : Below W.heap.size W A) (g : Below W.heap.size W B) {v : Value} {xs : List Int} : Row W.heap.size A v xs → Row W.heap.size B v xs
  | .inl e => .inl e
  | .inr ⟨b, off, cap, e, hb, hl, hc⟩ => .inr ⟨b, off, cap, e, hb, hl, fun j u hj => (bcell0 h g b (off + j) hb).trans (hc j u hj)⟩
theorem bcell {W w1 : World} {B : Nat} (hb : Below B W w1) (b o : Nat) (h : b < B) : w1.cell? ⟨b, o, none⟩ = W.cell? ⟨b, o, none⟩ := hb.cell (p := ⟨b, o, none⟩) h

end Go.Proofs.YtkoofibhddkpiaaDoor
