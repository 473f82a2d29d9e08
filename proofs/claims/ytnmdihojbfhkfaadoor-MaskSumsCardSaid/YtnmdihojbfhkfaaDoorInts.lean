import Derived.Test.YtnmdihojbfhkfaaDoorBase
import Derived.Deep.Light
/-! slices of ints that a walk reads -/
namespace Go.Proofs.YtnmdihojbfhkfaaDoor
set_option linter.unusedVariables false
open Go.RowKit

/-- the slice value v holds the ints xs, in a block below n₀; or it is empty and there are none -/
def Ints (n₀ : Nat) (W : World) (v : Value) (xs : List Int) : Prop :=
  ((∃ a cap, v = .slice a 0 cap) ∧ xs = []) ∨ ∃ b off cap, v = .slice (some ⟨b, off, none⟩) xs.length cap ∧ b < n₀ ∧ xs.length ≤ cap ∧ ∀ j, j < xs.length → W.cell? ⟨b, off + j, none⟩ = some (.int .i64 (xs[j]?.getD 0))

theorem Ints.below {n₀ : Nat} {A B : World} (h : Below n₀ A B) {v : Value} {xs : List Int} : Ints n₀ A v xs → Ints n₀ B v xs
  | .inl e => .inl e
  | .inr ⟨b, off, cap, e, hb, hl, hc⟩ => .inr ⟨b, off, cap, e, hb, hl, fun j hj => (h.cell (p := ⟨b, off + j, none⟩) hb).trans (hc j hj)⟩
theorem Ints.mono {n n' : Nat} (h : n ≤ n') {A : World} {v : Value} {xs : List Int} : Ints n A v xs → Ints n' A v xs
  | .inl e => .inl e
  | .inr ⟨b, off, cap, e, hb, hl, hc⟩ => .inr ⟨b, off, cap, e, by omega, hl, hc⟩
theorem Ints.form {n₀ : Nat} {A : World} {v : Value} {xs : List Int} (h : Ints n₀ A v xs) : ∃ a cap, v = .slice a xs.length cap := by
  rcases h with ⟨⟨_, _, rfl⟩, rfl⟩ | ⟨b, off, cap, rfl, _⟩
  · exact ⟨_, _, rfl⟩
  · exact ⟨_, _, rfl⟩

theorem ints_of_row {W : World} {base : Nat} {e : TypeId} {v : Value} {l : List Int} (h : W.ownsRow base e 1 v l.length (l.map (Value.int .i64))) : Ints W.heap.size W v l := by
  have hlt := h.lt
  obtain ⟨_, ⟨rfl, h0⟩ | ⟨g, cap, cur, rfl, hb, hg, hn, hm, hs, hx⟩⟩ := h
  · exact .inl ⟨⟨_, _, rfl⟩, List.length_eq_zero_iff.1 h0⟩
  · refine .inr ⟨g, 0, cap, rfl, (hlt g rfl).2, hn, fun j hj => ?_⟩
    have hx' : cur.toList[j]? = some (.int .i64 (l[j]?.getD 0)) := by
      have : (cur.toList.take (l.length * 1))[j]? = (l.map (Value.int .i64))[j]? := by rw [hx]
      rw [List.getElem?_take_of_lt (by omega), List.getElem?_map] at this
      rw [this, List.getElem?_eq_getElem hj]; rfl
    simp only [World.cell?, hg, Nat.zero_add]
    simpa using hx'

theorem Tryd.infoInt : (Tryd.prog.info? 3).map (fun i => (i.zero, i.size, i.bytes)) = some (some (.int .i64 0), 1, 8) := by kernel_rfl
theorem cell_one_new (W : World) (v : Value) (t : TypeId) : ∀ j u, [v][j]? = some u → (W.alloc (.cells #[v] t)).cell? ((⟨W.heap.size, 0, none⟩ : Addr).add j) = some u := by
  intro j u hj
  match j, hj with
  | 0, hj => simp at hj; subst hj; simp [Addr.add]
theorem ints_of_isRow {w : World} {a : Option Addr} {len cap : Nat} {zs : List Int} (h : IsRow .i64 w a len cap zs) : Ints w.heap.size w (.slice a len cap) (zs.take len) := by
  by_cases h0 : len = 0
  · subst h0; exact .inl ⟨⟨_, _, rfl⟩, rfl⟩
  · rcases h with ⟨rfl, rfl, rfl, rfl⟩ | ⟨x, rfl, hl, hm, hz, hcell, _⟩
    · exact absurd rfl h0
    · obtain ⟨b, off, spot⟩ := x
      have hc := hcell 0 (by omega)
      have hspot : spot = none := by simpa [Addr.add] using World.cell?_spot hc
      subst hspot
      have hlt : b < w.heap.size := by
        apply Classical.byContradiction; intro hn
        simp [World.cell?, Addr.add, Array.getElem?_eq_none (Nat.le_of_not_lt hn)] at hc
      refine .inr ⟨b, off, cap, by rw [List.length_take, Nat.min_eq_left (by omega)], hlt, by rw [List.length_take]; omega, fun j hj => ?_⟩
      rw [List.length_take] at hj
      have := hcell j (by omega)
      rw [List.getElem?_take_of_lt (by omega)]
      rw [Addr.add_lit] at this
      simpa using this
end Go.Proofs.YtnmdihojbfhkfaaDoor
