import Derived.Test.YtodhoplchficpaaDoorMaskG
import Derived.Test.YtodhoplchficpaaDoorMaskList
import Derived.Maps.AppendAt
/-! the statements' own walk through a set: as many as are wanted -/
namespace Go.Proofs.YtodhoplchficpaaDoor
set_option linter.unusedVariables false
open Go.RowKit Go.Shelf

attribute [local go_sem] Oper.semAt_some

theorem row_mono {W : World} {b b' : Nat} {e : TypeId} {size : Nat} {v : Value} {k : Nat} {xs : List Value} (h : W.ownsRow b e size v k xs) (hb : b' ≤ b) : W.ownsRow b' e size v k xs := by
  obtain ⟨h1, h2 | ⟨g, cap, cur, rfl, hg, r⟩⟩ := h
  · exact ⟨h1, .inl h2⟩
  · exact ⟨h1, .inr ⟨g, cap, cur, rfl, Nat.le_trans hb hg, r⟩⟩
theorem row_grown {W w1 : World} {R : Nat} {e : TypeId} {size : Nat} {v : Value} {k : Nat} {xs : List Value} {tmp : Obj}
    (hrow : W.ownsRow R e size v k xs) (hR : R ≤ W.heap.size) (hgrow : (W.alloc tmp).grownBy w1 v.ownBlock) : Below R W w1 ∧ KeepsOthers W w1 := by
  refine ⟨((Below.refl R W).alloc hR tmp).grown hgrow (by first | (simp; done) | (simp; omega)) (fun j ej => (hrow.lt j ej).1), (KeepsOthers.alloc W tmp).trans (KeepsOthers.of_grownBy hgrow fun j o ej hj => ?_)⟩
  rcases (hrow.alloc tmp).2 with ⟨rfl, _⟩ | ⟨g, cap, cur, rfl, _, hgb, _⟩
  · simp [Value.ownBlock] at ej
  · obtain rfl : g = j := by simpa [Value.ownBlock] using ej
    rw [hgb] at hj; cases hj; rfl
theorem Boxed.below {W w1 : World} {R b : Nat} {t : TypeId} {u : Value} (h : Boxed W b t u) (hb : Below R W w1) (hlt : b < R) : Boxed w1 b t u := (hb.block b hlt).trans h
theorem row_setCell {W : World} {R B : Nat} {e : TypeId} {size : Nat} {v : Value} {k : Nat} {xs : List Value} (h : W.ownsRow R e size v k xs) (hB : B < R) (u : Value) : (W.setCell ⟨B, 0, none⟩ u).ownsRow R e size v k xs :=
  h.kept (grownBy_setCell' W B u) (by
    rcases h.2 with ⟨rfl, _⟩ | ⟨g, cap, cur, rfl, hg, _⟩
    · exact .inl rfl
    · refine .inr fun e' => ?_
      have : g = B := by simpa [Value.ownBlock] using e'
      omega)

/-- between two rounds: the box of what is collected, of the bound, of the set -/
def CollI (b Bs : Nat) (m most : Int) (pre : List Nat) (W : World) : Prop :=
  (∃ v, Boxed W (b + 1) 29 v ∧ W.ownsRow (Bs + 1) 3 1 v (MM.toI pre).length ((MM.toI pre).map (Value.int .i64)) ∧ True) ∧ Boxed W b 3 (.int .i64 most) ∧ Boxed W Bs 36 (.int .u64 m) ∧ (pre.length : Int) ≤ most
/-- where no more is wanted -/
def CollX (b Bs : Nat) (most : Int) (c : Code) (pre : List Nat) (W : World) : Prop :=
  c = .exit 0 ∧ ∃ (q : List Nat) (x : Nat), pre = q ++ [x] ∧ q.length = most.toNat ∧ ∃ v, Boxed W (b + 1) 29 v ∧ W.ownsRow (Bs + 1) 3 1 v (MM.toI q).length ((MM.toI q).map (Value.int .i64)) ∧ True
theorem CollI.own (b Bs : Nat) (m most : Int) : Own (CollI b Bs m most) := fun s A B row hs hg hr =>
  ⟨holdsRow_own (Bs + 1) (b + 1) 29 3 1 (fun pre : List Nat => (MM.toI pre).length) (fun pre => (MM.toI pre).map (Value.int .i64)) (fun _ _ => True) s A B row hs.1 hg hr,
    boxed_own b 3 (fun _ => .int .i64 most) s A B row hs.2.1 hg hr, boxed_own Bs 36 (fun _ => .int .u64 m) s A B row hs.2.2.1 hg hr, hs.2.2.2⟩
theorem CollX.own (b Bs : Nat) (most : Int) (c : Code) : Own (CollX b Bs most c) := fun s A B row hs hg hr =>
  ⟨hs.1, by obtain ⟨q, x, e, hq, hv⟩ := hs.2; exact ⟨q, x, e, hq, holdsRow_own (Bs + 1) (b + 1) 29 3 1 (fun pre : List Nat => (MM.toI pre).length) (fun pre => (MM.toI pre).map (Value.int .i64)) (fun _ _ => True) q A B row hv hg hr⟩⟩

theorem bits_five : ((MM.bitsOf 5).length : Int) = 2 := by decide

end Go.Proofs.YtodhoplchficpaaDoor
