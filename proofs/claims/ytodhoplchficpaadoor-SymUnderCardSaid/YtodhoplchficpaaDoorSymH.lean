import Derived.Test.YtodhoplchficpaaDoorSymS
import Derived.Test.YtodhoplchficpaaDoorOpenC
import Derived.Test.YtodhoplchficpaaDoorDoorZ
set_option linter.unusedSimpArgs false
set_option linter.unusedVariables false
/-! what the walks of layer 19's laws share -/
namespace Go.Proofs.YtodhoplchficpaaDoor
open Go.RowKit
open SV (Lab SysOk Least labs sumOf mu sumP at' natsL askT askI fanN lok ljoin val le Bnd)
theorem lit_keep {w w' : World} {g k : Nat} {T T' : TypeId} {cs : Array Value} (hg : w.grownBy w' (some g)) (h : w.heap[g]? = some (.cells #[] T)) (hk : w.heap[k]? = some (.cells cs T')) (hne : T ≠ T') : w'.heap[k]? = some (.cells cs T') :=
  (hg.block k (Array.getElem?_eq_some_iff.1 hk).1 (fun e => by cases e; rw [h] at hk; cases hk; exact hne rfl)).trans hk
theorem lab_keep {w w' : World} {g k : Nat} {T T' : TypeId} {cs : Array Value} (hg : w.grownBy w' (some g)) (h : w.heap[g]? = some (.cells #[] T)) (hk : w.heap[k]? = some (.cells cs T')) (hne : 0 < cs.size) : w'.heap[k]? = some (.cells cs T') :=
  (hg.block k (Array.getElem?_eq_some_iff.1 hk).1 (fun e => by cases e; rw [h] at hk; cases hk; exact absurd hne (by simp))).trans hk
theorem nums_src {k : IntKind} {n₀ : Nat} {W : World} {a : Option Addr} {c : Nat} {xs : List Int} (h : Nums k n₀ W (.slice a xs.length c) xs) (hn : a = none → c = 0) : (Value.slice a xs.length c = .slice none 0 0 ∧ xs.length = 0) ∨ ∃ ad c', Value.slice a xs.length c = .slice (some ad) xs.length c' ∧ ∀ j u, (xs.map (Value.int k))[j]? = some u → W.cell? (ad.add j) = some u := by
  rcases h with ⟨⟨a', c', e⟩, h0⟩ | ⟨b, off, cap, e, hb, hl, hcell⟩
  · subst h0
    cases a with
    | none => exact .inl ⟨by rw [hn rfl]; rfl, rfl⟩
    | some ad => exact .inr ⟨ad, c, rfl, fun j u hj => by simp at hj⟩
  · cases e
    refine .inr ⟨⟨b, off, none⟩, _, rfl, fun j u hj => ?_⟩
    rw [List.getElem?_map] at hj
    cases ex : xs[j]? with
    | none => rw [ex] at hj; cases hj
    | some x =>
      rw [ex] at hj
      have hj2 : j < xs.length := (List.getElem?_eq_some_iff.1 ex).1
      have h1 := hcell j hj2
      rw [Addr.add_lit, h1, ex]
      simpa using hj
/-- a call in its box -/
def CallB (W : World) (uv av : Value) (a m p1 p2 : Int) (V : World) : Prop := Below W.heap.size W V ∧ W.heap.size + 1 ≤ V.heap.size ∧ V.heap[W.heap.size]? = some (.cells #[uv, .int .i64 a, .int .u64 m, av, .int .i64 p1, .int .u64 p2] 46)
theorem CallB.on {W U V : World} {uv av : Value} {a m p1 p2 : Int} (h : CallB W uv av a m p1 p2 U) (hb : Below U.heap.size U V) : CallB W uv av a m p1 p2 V :=
  ⟨h.1.trans (hb.mono h.1.size), Nat.le_trans h.2.1 hb.size, (hb.block _ (by have := h.2.1; omega)).trans h.2.2⟩
theorem CallB.drew {W U : World} {uv av : Value} {a m p1 p2 : Int} (h : CallB W uv av a m p1 p2 U) : CallB W uv av a m p1 p2 U.drew := ⟨h.1.drew, h.2.1, h.2.2⟩
theorem CallB.cells {W V : World} {uv av : Value} {a m p1 p2 : Int} (h : CallB W uv av a m p1 p2 V) : V.cell? ⟨W.heap.size, 0, none⟩ = some uv ∧ V.cell? ⟨W.heap.size, 1, none⟩ = some (.int .i64 a) ∧ V.cell? ⟨W.heap.size, 2, none⟩ = some (.int .u64 m) ∧ V.cell? ⟨W.heap.size, 3, none⟩ = some av ∧ V.cell? ⟨W.heap.size, 4, none⟩ = some (.int .i64 p1) ∧ V.cell? ⟨W.heap.size, 5, none⟩ = some (.int .u64 p2) :=
  ⟨cell_of_row _ _ 0 _ _ _ h.2.2, cell_of_row _ _ 1 _ _ _ h.2.2, cell_of_row _ _ 2 _ _ _ h.2.2, cell_of_row _ _ 3 _ _ _ h.2.2, cell_of_row _ _ 4 _ _ _ h.2.2, cell_of_row _ _ 5 _ _ _ h.2.2⟩
theorem callB_start (W : World) (uv av : Value) (a m p1 p2 : Int) : CallB W uv av a m p1 p2 (W.alloc (.cells #[uv, .int .i64 a, .int .u64 m, av, .int .i64 p1, .int .u64 p2] 46)) :=
  ⟨(Below.refl _ _).alloc (Nat.le_refl _) _, by simp, heap_alloc_new _ _⟩
/-- the row behind the first -/
theorem Row.tail {n₀ : Nat} {W : World} {b off cap : Nat} {x : Int} {rest : List Int} (h : Row n₀ W (.slice (some ⟨b, off, none⟩) (rest.length + 1) cap) (x :: rest)) : Row n₀ W (.slice (some ⟨b, off + 1, none⟩) rest.length (cap - 1)) rest ∧ (cap = 1 → Row n₀ W (.slice (some ⟨b, off, none⟩) rest.length (cap - 1)) rest) ∧ rest.length + 1 ≤ cap ∧ b < n₀ ∧ W.cell? ⟨b, off, none⟩ = some (.int .i64 x) := by
  rcases h with ⟨⟨a, c, e, hn⟩, h0⟩ | ⟨b', off', cap', e, hb, hl, hc⟩
  · simp [intsV] at h0
  · simp only [Value.slice.injEq, Option.some.injEq, Addr.mk.injEq] at e
    obtain ⟨⟨rfl, rfl, _⟩, _, rfl⟩ := e
    rw [intsV_len] at hl
    simp only [List.length_cons] at hl
    refine ⟨.inr ⟨b, off + 1, cap - 1, by rw [intsV_len], hb, by rw [intsV_len]; omega, fun j u hj => ?_⟩, fun e1 => ?_, by omega, hb, hc 0 _ rfl⟩
    · have := hc (j + 1) u (by simpa [intsV] using hj)
      rw [show off + 1 + j = off + (j + 1) by omega]
      exact this
    · have e2 : rest = [] := List.length_eq_zero_iff.1 (by omega)
      subst e2
      exact .inl ⟨⟨_, _, rfl, fun e => by cases e⟩, rfl⟩
theorem row_of_isRow {w : World} {a : Option Addr} {len cap : Nat} {zs : List Int} (h : IsRow .i64 w a len cap zs) : Row w.heap.size w (.slice a len cap) (zs.take len) ∧ (zs.take len).length = len := by
  have hlen : (zs.take len).length = len := by
    rcases h with ⟨rfl, rfl, rfl, rfl⟩ | ⟨x, rfl, hl, hm, hz, _⟩
    · rfl
    · rw [List.length_take]; omega
  refine ⟨?_, hlen⟩
  by_cases h0 : len = 0
  · subst h0
    refine .inl ⟨⟨a, cap, rfl, fun e => ?_⟩, rfl⟩
    rcases h with ⟨_, _, rfl, _⟩ | ⟨x, e1, _⟩
    · rfl
    · rw [e] at e1; cases e1
  · rcases nums_of_isRow h with ⟨_, h1⟩ | ⟨b, off, cap', e, hb, hl, hc⟩
    · rw [h1] at hlen; exact absurd hlen.symm h0
    · simp only [Value.slice.injEq] at e
      obtain ⟨rfl, _, rfl⟩ := e
      refine .inr ⟨b, off, cap, by rw [intsV_len, hlen], hb, by rw [intsV_len]; exact hl, fun j u hj => ?_⟩
      unfold intsV at hj
      rw [List.getElem?_map] at hj
      cases ex : (zs.take len)[j]? with
      | none => rw [ex] at hj; cases hj
      | some x =>
        rw [ex] at hj
        have h1 := hc j (List.getElem?_eq_some_iff.1 ex).1
        rw [h1, ex]
        simpa using hj
end Go.Proofs.YtodhoplchficpaaDoor
