import Derived.Test.YtodhoplchficpaaDoorSolY
set_option linter.unusedSimpArgs false
set_option linter.unusedVariables false
/-! layer 17's reference: Right, Value -/
namespace Go.Proofs.YtodhoplchficpaaDoor
open Go.RowKit
open SV (Lab SysOk Least labs sumOf mu sumP at' natsL askT askI fanN lok Bnd val valT)
theorem bel_of_dN {W : World} (d : Nat) : Below W.heap.size W (W.drewN d) := ⟨rfl, rfl, rfl, Nat.le_refl _, fun _ _ => rfl⟩
theorem GraphM.atB {n₀ : Nat} {W : World} {b off n cap : Nat} {to : List (List Int)} (h : GraphM n₀ W (.slice (some ⟨b, off, none⟩) n cap) to) {j : Nat} (hj : j < to.length) :
    b < n₀ ∧ ∃ a' cap', W.cell? ⟨b, off + j, none⟩ = some (.slice a' (to[j]?.getD []).length cap') ∧ Row n₀ W (.slice a' (to[j]?.getD []).length cap') (to[j]?.getD []) := by
  refine ⟨?_, h.at hj⟩
  obtain ⟨vs, h1, h2, h3⟩ := h
  obtain ⟨b', off', cap', e, hb, _⟩ := h1.at (by omega)
  cases e
  exact hb
theorem Row.cellB {n₀ : Nat} {W : World} {a : Option Addr} {n cap : Nat} {xs : List Int} (h : Row n₀ W (.slice a n cap) xs) {k : Nat} (hk : k < xs.length) : ∃ b off, a = some ⟨b, off, none⟩ ∧ b < n₀ ∧ W.cell? ⟨b, off + k, none⟩ = some (.int .i64 (xs[k]?.getD 0)) := by
  obtain ⟨b, off, cap', e, hb, hc⟩ := h.at (by omega)
  cases e
  exact ⟨b, off, rfl, hb, hc k hk⟩
theorem one_lab {W : World} {N : Nat} {a m : Int} (h : W.heap[N]? = some (.cells #[.int .i64 a, .int .u64 m] 38)) : W.cell? ⟨N, 0, none⟩ = some (.int .i64 a) ∧ W.cell? ⟨N, 1, none⟩ = some (.int .u64 m) ∧ W.frozen? ⟨N, 0, none⟩ = false ∧ W.frozen? ⟨N, 1, none⟩ = false :=
  ⟨cell_of_row _ _ 0 _ _ _ h, cell_of_row _ _ 1 _ _ _ h, by simp [World.frozen?, h], by simp [World.frozen?, h]⟩
theorem put_lab {W : World} {N : Nat} {a m : Int} (h : W.heap[N]? = some (.cells #[.int .i64 a, .int .u64 m] 38)) (b k : Int) : ((W.setCell ⟨N, 0, none⟩ (.int .i64 b)).setCell ⟨N, 1, none⟩ (.int .u64 k)).heap[N]? = some (.cells #[.int .i64 b, .int .u64 k] 38) ∧ ∀ j, j ≠ N → ((W.setCell ⟨N, 0, none⟩ (.int .i64 b)).setCell ⟨N, 1, none⟩ (.int .u64 k)).heap[j]? = W.heap[j]? :=
  ⟨SS.set_obj (c := 1) (.int .u64 k) (SS.set_obj (c := 0) (.int .i64 b) h), fun j hj => (Below.heap_setCell _ _ _ _ hj).trans (Below.heap_setCell _ _ _ _ hj)⟩
def ValE (xs : List Int) (c : List (Int × Int)) (to : List (List Int)) (hr : LL.rightB xs = true) (hx : Wide xs) (l : List Lab) (i : Nat) (W : World) (e : Ending) (V : World) : Prop :=
  e = .returned (.agg #[.int .i64 ((val (labs xs hr hx) (sysL c to) l i).1 : Int), .int .u64 (val (labs xs hr hx) (sysL c to) l i).2]) ∧ Below W.heap.size W V
end Go.Proofs.YtodhoplchficpaaDoor
