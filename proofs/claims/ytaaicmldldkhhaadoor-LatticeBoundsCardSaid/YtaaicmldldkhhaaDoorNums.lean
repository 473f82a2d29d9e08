import Derived.Test.YtaaicmldldkhhaaDoorBase
import Derived.Deep.Light
/-! slices of numbers of one kind that a walk reads -/
namespace Go.Proofs.YtaaicmldldkhhaaDoor
set_option linter.unusedVariables false
open Go.RowKit

/-- the slice value v holds the numbers xs of kind k, in a block below n₀; or it is empty and there are none -/
def Nums (k : IntKind) (n₀ : Nat) (W : World) (v : Value) (xs : List Int) : Prop :=
  ((∃ a cap, v = .slice a 0 cap) ∧ xs = []) ∨ ∃ b off cap, v = .slice (some ⟨b, off, none⟩) xs.length cap ∧ b < n₀ ∧ xs.length ≤ cap ∧ ∀ j, j < xs.length → W.cell? ⟨b, off + j, none⟩ = some (.int k (xs[j]?.getD 0))

theorem Nums.below {k : IntKind} {n₀ : Nat} {A B : World} (h : Below n₀ A B) {v : Value} {xs : List Int} : Nums k n₀ A v xs → Nums k n₀ B v xs
  | .inl e => .inl e
  | .inr ⟨b, off, cap, e, hb, hl, hc⟩ => .inr ⟨b, off, cap, e, hb, hl, fun j hj => (h.cell (p := ⟨b, off + j, none⟩) hb).trans (hc j hj)⟩
theorem Nums.mono {k : IntKind} {n n' : Nat} (h : n ≤ n') {A : World} {v : Value} {xs : List Int} : Nums k n A v xs → Nums k n' A v xs
  | .inl e => .inl e
  | .inr ⟨b, off, cap, e, hb, hl, hc⟩ => .inr ⟨b, off, cap, e, by omega, hl, hc⟩
theorem Nums.form {k : IntKind} {n₀ : Nat} {A : World} {v : Value} {xs : List Int} (h : Nums k n₀ A v xs) : ∃ a cap, v = .slice a xs.length cap := by
  rcases h with ⟨⟨_, _, rfl⟩, rfl⟩ | ⟨b, off, cap, rfl, _⟩
  · exact ⟨_, _, rfl⟩
  · exact ⟨_, _, rfl⟩
theorem Nums.drewN {k : IntKind} {n₀ : Nat} {W : World} {v : Value} {xs : List Int} (h : Nums k n₀ W v xs) (d : Nat) : Nums k n₀ (W.drewN d) v xs :=
  h.below ⟨rfl, rfl, rfl, Nat.le_refl _, fun _ _ => rfl⟩
/-- where there is one, it lies in a block -/
theorem Nums.at {k : IntKind} {n₀ : Nat} {W : World} {v : Value} {xs : List Int} (h : Nums k n₀ W v xs) (h0 : 0 < xs.length) :
    ∃ b off cap, v = .slice (some ⟨b, off, none⟩) xs.length cap ∧ b < n₀ ∧ ∀ j, j < xs.length → W.cell? ⟨b, off + j, none⟩ = some (.int k (xs[j]?.getD 0)) := by
  rcases h with ⟨_, rfl⟩ | ⟨b, off, cap, e, hb, _, hc⟩
  · exact absurd h0 (by simp)
  · exact ⟨b, off, cap, e, hb, hc⟩

theorem nums_of_row {k : IntKind} {W : World} {base : Nat} {e : TypeId} {v : Value} {l : List Int} (h : W.ownsRow base e 1 v l.length (l.map (Value.int k))) : Nums k W.heap.size W v l := by
  have hlt := h.lt
  obtain ⟨_, ⟨rfl, h0⟩ | ⟨g, cap, cur, rfl, hb, hg, hn, hm, hs, hx⟩⟩ := h
  · exact .inl ⟨⟨_, _, rfl⟩, List.length_eq_zero_iff.1 h0⟩
  · refine .inr ⟨g, 0, cap, rfl, (hlt g rfl).2, hn, fun j hj => ?_⟩
    have hx' : cur.toList[j]? = some (.int k (l[j]?.getD 0)) := by
      have : (cur.toList.take (l.length * 1))[j]? = (l.map (Value.int k))[j]? := by rw [hx]
      rw [List.getElem?_take_of_lt (by omega), List.getElem?_map] at this
      rw [this, List.getElem?_eq_getElem hj]; rfl
    simp only [World.cell?, hg, Nat.zero_add]
    simpa using hx'
theorem nums_of_isRow {k : IntKind} {w : World} {a : Option Addr} {len cap : Nat} {zs : List Int} (h : IsRow k w a len cap zs) : Nums k w.heap.size w (.slice a len cap) (zs.take len) := by
  by_cases h0 : len = 0
  · subst h0; exact .inl ⟨⟨_, _, rfl⟩, rfl⟩
  · rcases h with ⟨rfl, rfl, rfl, rfl⟩ | ⟨x, rfl, hl, hm, hz, hcell, _⟩
    · exact absurd rfl h0
    · obtain ⟨b, off, spot⟩ := x
      have hc := hcell 0 (by omega)
      have hspot : spot = none := by simpa [Addr.add] using World.cell?_spot hc
      subst hspot
      have hlt : b < w.heap.size := by
        apply Classical.byContradiction; intro hn
        simp [World.cell?, Addr.add, Array.getElem?_eq_none (Nat.le_of_not_lt hn)] at hc
      refine .inr ⟨b, off, cap, by rw [List.length_take, Nat.min_eq_left (by omega)], hlt, by rw [List.length_take]; omega, fun j hj => ?_⟩
      rw [List.length_take] at hj
      have := hcell j (by omega)
      rw [List.getElem?_take_of_lt (by omega)]
      rw [Addr.add_lit] at this
      simpa using this
/-- the numbers that came in are of their kind -/
theorem isRow_u64 {w : World} {a : Option Addr} {len cap : Nat} {zs : List Int} (h : IsRow .u64 w a len cap zs) : ∀ x ∈ zs, 0 ≤ x ∧ x ≤ 18446744073709551615 := by
  rcases h with ⟨_, _, _, rfl⟩ | ⟨_, _, _, _, _, _, hw⟩
  · intro x hx; simp at hx
  · exact fun x hx => wf_u64_bd (hw x hx)
end Go.Proofs.YtaaicmldldkhhaaDoor
