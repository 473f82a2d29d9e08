import Derived.Test.YtkoofibhddkpiaaDoorGraP
import Derived.Deep.QuietTactic
import Derived.BigQuiet
import Derived.Deep.OwnRows
import Derived.Deep.LoopGhost
import Derived.StillTailTactics
set_option linter.unusedSimpArgs false
set_option linter.unusedVariables false
/-! graphs in memory -/
namespace Go.Proofs.YtkoofibhddkpiaaDoor
open Go.RowKit

/-- a slice that leads to these cells, in blocks below n₀ -/
def Cells (n₀ : Nat) (W : World) (v : Value) (vs : List Value) : Prop :=
  ((∃ a cap, v = .slice a 0 cap ∧ (a = none → cap = 0)) ∧ vs = []) ∨ ∃ b off cap, v = .slice (some ⟨b, off, none⟩) vs.length cap ∧ b < n₀ ∧ vs.length ≤ cap ∧ ∀ j u, vs[j]? = some u → W.cell? ⟨b, off + j, none⟩ = some u
theorem Cells.below {n₀ : Nat} {A B : World} (h : Below n₀ A B) {v : Value} {vs : List Value} : Cells n₀ A v vs → Cells n₀ B v vs
  | .inl e => .inl e
  | .inr ⟨b, off, cap, e, hb, hl, hc⟩ => .inr ⟨b, off, cap, e, hb, hl, fun j u hj => (h.cell (p := ⟨b, off + j, none⟩) hb).trans (hc j u hj)⟩
theorem Cells.mono {n n' : Nat} (h : n ≤ n') {A : World} {v : Value} {vs : List Value} : Cells n A v vs → Cells n' A v vs
  | .inl e => .inl e
  | .inr ⟨b, off, cap, e, hb, hl, hc⟩ => .inr ⟨b, off, cap, e, by omega, hl, hc⟩
theorem Cells.form {n₀ : Nat} {A : World} {v : Value} {vs : List Value} (h : Cells n₀ A v vs) : ∃ a cap, v = .slice a vs.length cap := by
  rcases h with ⟨⟨_, _, rfl, _⟩, rfl⟩ | ⟨b, off, cap, rfl, _⟩
  · exact ⟨_, _, rfl⟩
  · exact ⟨_, _, rfl⟩
theorem Cells.drewN {n₀ : Nat} {W : World} {v : Value} {vs : List Value} (h : Cells n₀ W v vs) (d : Nat) : Cells n₀ (W.drewN d) v vs :=
  h.below ⟨rfl, rfl, rfl, Nat.le_refl _, fun _ _ => rfl⟩
theorem Cells.at {n₀ : Nat} {W : World} {v : Value} {vs : List Value} (h : Cells n₀ W v vs) (h0 : 0 < vs.length) :
    ∃ b off cap, v = .slice (some ⟨b, off, none⟩) vs.length cap ∧ b < n₀ ∧ ∀ j u, vs[j]? = some u → W.cell? ⟨b, off + j, none⟩ = some u := by
  rcases h with ⟨_, rfl⟩ | ⟨b, off, cap, e, hb, _, hc⟩
  · exact absurd h0 (by simp)
  · exact ⟨b, off, cap, e, hb, hc⟩
theorem cells_empty (n₀ : Nat) (W : World) (a : Option Addr) (cap : Nat) (h : a = none → cap = 0) : Cells n₀ W (.slice a 0 cap) [] := .inl ⟨⟨a, cap, rfl, h⟩, rfl⟩
/-- as the source of a copy -/
theorem Cells.src {n₀ : Nat} {W : World} {v : Value} {vs : List Value} (h : Cells n₀ W v vs) :
    v = .slice none 0 0 ∧ vs.length = 0 ∨ ∃ ad c, v = .slice (some ad) vs.length c ∧ ∀ j u, vs[j]? = some u → W.cell? (ad.add j) = some u := by
  rcases h with ⟨⟨a, cap, rfl, hn⟩, rfl⟩ | ⟨b, off, cap, rfl, _, _, hc⟩
  · cases a with
    | none => rw [hn rfl]; exact .inl ⟨rfl, rfl⟩
    | some x => exact .inr ⟨x, cap, rfl, fun j u hj => by simp at hj⟩
  · exact .inr ⟨_, cap, rfl, fun j u hj => by rw [Addr.add_lit]; exact hc j u hj⟩
theorem cells_of_row {W : World} {base : Nat} {e : TypeId} {v : Value} {n : Nat} {vs : List Value} (h : W.ownsRow base e 1 v n vs) : Cells W.heap.size W v vs := by
  have hlt := h.lt
  obtain ⟨hl, ⟨rfl, h0⟩ | ⟨g, cap, cur, rfl, hb, hg, hn, hm, hs, hx⟩⟩ := h
  · have : vs = [] := List.length_eq_zero_iff.1 (by omega)
    subst this
    exact .inl ⟨⟨_, _, rfl, fun _ => rfl⟩, rfl⟩
  · have hn' : vs.length = n := by omega
    subst hn'
    refine .inr ⟨g, 0, cap, rfl, (hlt g rfl).2, hn, fun j u hj => ?_⟩
    have hjl : j < vs.length := (List.getElem?_eq_some_iff.1 hj).1
    have : (cur.toList.take (vs.length * 1))[j]? = vs[j]? := by rw [hx]
    rw [List.getElem?_take_of_lt (by omega), hj] at this
    simp only [World.cell?, hg, Nat.zero_add]
    simpa using this
def intsV (xs : List Int) : List Value := xs.map (Value.int .i64)
def boolsV (xs : List Bool) : List Value := xs.map Value.bool
theorem intsV_len (xs : List Int) : (intsV xs).length = xs.length := by simp [intsV]
theorem boolsV_len (xs : List Bool) : (boolsV xs).length = xs.length := by simp [boolsV]
theorem intsV_at {xs : List Int} {j : Nat} (h : j < xs.length) : (intsV xs)[j]? = some (.int .i64 (xs[j]?.getD 0)) := by simp [intsV, List.getElem?_eq_getElem h]
theorem boolsV_at {xs : List Bool} {j : Nat} (h : j < xs.length) : (boolsV xs)[j]? = some (.bool (xs[j]?.getD false)) := by simp [boolsV, List.getElem?_eq_getElem h]
/-- a row of integers -/
def Row (n₀ : Nat) (W : World) (v : Value) (xs : List Int) : Prop := Cells n₀ W v (intsV xs)
/-- a row of bools -/
def BRow (n₀ : Nat) (W : World) (v : Value) (xs : List Bool) : Prop := Cells n₀ W v (boolsV xs)
theorem Row.form {n₀ : Nat} {A : World} {v : Value} {xs : List Int} (h : Row n₀ A v xs) : ∃ a cap, v = .slice a xs.length cap := by
  obtain ⟨a, cap, rfl⟩ := Cells.form h
  exact ⟨a, cap, by rw [intsV_len]⟩
theorem BRow.form {n₀ : Nat} {A : World} {v : Value} {xs : List Bool} (h : BRow n₀ A v xs) : ∃ a cap, v = .slice a xs.length cap := by
  obtain ⟨a, cap, rfl⟩ := Cells.form h
  exact ⟨a, cap, by rw [boolsV_len]⟩
theorem Row.at {n₀ : Nat} {W : World} {v : Value} {xs : List Int} (h : Row n₀ W v xs) (h0 : 0 < xs.length) :
    ∃ b off cap, v = .slice (some ⟨b, off, none⟩) xs.length cap ∧ b < n₀ ∧ ∀ j, j < xs.length → W.cell? ⟨b, off + j, none⟩ = some (.int .i64 (xs[j]?.getD 0)) := by
  obtain ⟨b, off, cap, rfl, hb, hc⟩ := Cells.at h (by rw [intsV_len]; exact h0)
  exact ⟨b, off, cap, by rw [intsV_len], hb, fun j hj => hc j _ (intsV_at hj)⟩
theorem BRow.at {n₀ : Nat} {W : World} {v : Value} {xs : List Bool} (h : BRow n₀ W v xs) (h0 : 0 < xs.length) :
    ∃ b off cap, v = .slice (some ⟨b, off, none⟩) xs.length cap ∧ b < n₀ ∧ ∀ j, j < xs.length → W.cell? ⟨b, off + j, none⟩ = some (.bool (xs[j]?.getD false)) := by
  obtain ⟨b, off, cap, rfl, hb, hc⟩ := Cells.at h (by rw [boolsV_len]; exact h0)
  exact ⟨b, off, cap, by rw [boolsV_len], hb, fun j hj => hc j _ (boolsV_at hj)⟩
theorem Row.below {n₀ : Nat} {A B : World} (h : Below n₀ A B) {v : Value} {xs : List Int} (g : Row n₀ A v xs) : Row n₀ B v xs := Cells.below h g
theorem Row.mono {n n' : Nat} (h : n ≤ n') {A : World} {v : Value} {xs : List Int} (g : Row n A v xs) : Row n' A v xs := Cells.mono h g
theorem Row.drewN {n₀ : Nat} {W : World} {v : Value} {xs : List Int} (h : Row n₀ W v xs) (d : Nat) : Row n₀ (W.drewN d) v xs := Cells.drewN h d
theorem BRow.below {n₀ : Nat} {A B : World} (h : Below n₀ A B) {v : Value} {xs : List Bool} (g : BRow n₀ A v xs) : BRow n₀ B v xs := Cells.below h g
theorem BRow.mono {n n' : Nat} (h : n ≤ n') {A : World} {v : Value} {xs : List Bool} (g : BRow n A v xs) : BRow n' A v xs := Cells.mono h g
theorem BRow.drewN {n₀ : Nat} {W : World} {v : Value} {xs : List Bool} (h : BRow n₀ W v xs) (d : Nat) : BRow n₀ (W.drewN d) v xs := Cells.drewN h d

/-- a graph in memory: a row of rows -/
def GraphM (n₀ : Nat) (W : World) (v : Value) (to : List (List Int)) : Prop :=
  ∃ vs, Cells n₀ W v vs ∧ vs.length = to.length ∧ ∀ j, j < to.length → ∃ r, vs[j]? = some r ∧ Row n₀ W r (to[j]?.getD [])
theorem GraphM.below {n₀ : Nat} {A B : World} (h : Below n₀ A B) {v : Value} {to : List (List Int)} : GraphM n₀ A v to → GraphM n₀ B v to
  | ⟨vs, h1, h2, h3⟩ => ⟨vs, h1.below h, h2, fun j hj => by obtain ⟨r, e, g⟩ := h3 j hj; exact ⟨r, e, g.below h⟩⟩
theorem GraphM.mono {n n' : Nat} (h : n ≤ n') {A : World} {v : Value} {to : List (List Int)} : GraphM n A v to → GraphM n' A v to
  | ⟨vs, h1, h2, h3⟩ => ⟨vs, h1.mono h, h2, fun j hj => by obtain ⟨r, e, g⟩ := h3 j hj; exact ⟨r, e, g.mono h⟩⟩
theorem GraphM.drewN {n₀ : Nat} {W : World} {v : Value} {to : List (List Int)} (h : GraphM n₀ W v to) (d : Nat) : GraphM n₀ (W.drewN d) v to :=
  h.below ⟨rfl, rfl, rfl, Nat.le_refl _, fun _ _ => rfl⟩
theorem GraphM.form {n₀ : Nat} {A : World} {v : Value} {to : List (List Int)} (h : GraphM n₀ A v to) : ∃ a cap, v = .slice a to.length cap := by
  obtain ⟨vs, h1, h2, _⟩ := h
  obtain ⟨a, cap, rfl⟩ := h1.form
  exact ⟨a, cap, by rw [h2]⟩
/-- the row of a node -/
theorem GraphM.row {n₀ : Nat} {W : World} {v : Value} {to : List (List Int)} (h : GraphM n₀ W v to) {j : Nat} (hj : j < to.length) :
    ∃ b off cap r, v = .slice (some ⟨b, off, none⟩) to.length cap ∧ W.cell? ⟨b, off + j, none⟩ = some r ∧ Row n₀ W r (to[j]?.getD []) := by
  obtain ⟨vs, h1, h2, h3⟩ := h
  obtain ⟨b, off, cap, rfl, hb, hc⟩ := h1.at (by omega)
  obtain ⟨r, e, g⟩ := h3 j hj
  exact ⟨b, off, cap, r, by rw [h2], hc j r e, g⟩
/-- .. with its address at hand -/
theorem GraphM.at {n₀ : Nat} {W : World} {b off n cap : Nat} {to : List (List Int)} (h : GraphM n₀ W (.slice (some ⟨b, off, none⟩) n cap) to) {j : Nat} (hj : j < to.length) :
    ∃ a' cap', W.cell? ⟨b, off + j, none⟩ = some (.slice a' (to[j]?.getD []).length cap') ∧ Row n₀ W (.slice a' (to[j]?.getD []).length cap') (to[j]?.getD []) := by
  obtain ⟨b', off', cap', r, e, hc, hr⟩ := h.row hj
  cases e
  obtain ⟨a', c', rfl⟩ := hr.form
  exact ⟨a', c', hc, hr⟩
theorem GraphM.addr {n₀ : Nat} {W : World} {v : Value} {to : List (List Int)} (h : GraphM n₀ W v to) (h0 : 0 < to.length) : ∃ b off cap, v = .slice (some ⟨b, off, none⟩) to.length cap := by
  obtain ⟨b, off, cap, r, e, _⟩ := h.row h0
  exact ⟨b, off, cap, e⟩
theorem Row.cellAt {n₀ : Nat} {W : World} {a : Option Addr} {n cap : Nat} {xs : List Int} (h : Row n₀ W (.slice a n cap) xs) {k : Nat} (hk : k < xs.length) : ∃ b off, a = some ⟨b, off, none⟩ ∧ W.cell? ⟨b, off + k, none⟩ = some (.int .i64 (xs[k]?.getD 0)) := by
  obtain ⟨b, off, cap', e, _, hc⟩ := h.at (by omega)
  cases e
  exact ⟨b, off, rfl, hc k hk⟩
/-- no row is too long to be gone through -/
def Small (to : List (List Int)) : Prop := to.length ≤ 17592186044416 ∧ ∀ row ∈ to, row.length ≤ 17592186044416
theorem Small.row {to : List (List Int)} (h : Small to) (j : Nat) : (to[j]?.getD []).length ≤ 17592186044416 := by
  cases e : to[j]? with
  | none => simp
  | some x => exact h.2 x (List.mem_of_getElem? e)
end Go.Proofs.YtkoofibhddkpiaaDoor
