import Derived.Test.YtopffoklhfpjpaaGreatDoorQueM
set_option linter.unusedSimpArgs false
set_option linter.unusedVariables false
/-! queue: events in memory -/
namespace Go.Proofs.YtopffoklhfpjpaaGreatDoor
open Go.RowKit
/-- an event: its kind, what it names, its value, its function, its place -/
structure Ev where
  k : Int
  r : Int
  v : Int
  f : Int
  a : Int
def evC (e : Ev) : List Value := [.int .u8 e.k, .int .i64 e.r, .int .i64 e.v, .int .i64 e.f, .int .i64 e.a]
def ev0 : Ev := ⟨0, 0, 0, 0, 0⟩
def evAt (es : List Ev) (j : Nat) : Ev := es[j]?.getD ev0
def EvRow (n₀ : Nat) (W : World) (v : Value) (es : List Ev) : Prop :=
  ((∃ a cap, v = .slice a 0 cap ∧ (a = none → cap = 0)) ∧ es = []) ∨ ∃ b off cap, v = .slice (some ⟨b, off, none⟩) es.length cap ∧ b < n₀ ∧ es.length ≤ cap ∧ ∀ j, j < es.length → ∀ k u, (evC (es[j]?.getD ev0))[k]? = some u → W.cell? ⟨b, off + j * 5 + k, none⟩ = some u
theorem EvRow.below {n₀ : Nat} {A B : World} (h : Below n₀ A B) {v : Value} {es : List Ev} : EvRow n₀ A v es → EvRow n₀ B v es
  | .inl e => .inl e
  | .inr ⟨b, off, cap, e, hb, hl, hc⟩ => .inr ⟨b, off, cap, e, hb, hl, fun j hj k u hk => (h.cell (p := ⟨b, off + j * 5 + k, none⟩) hb).trans (hc j hj k u hk)⟩
theorem EvRow.mono {n n' : Nat} (h : n ≤ n') {A : World} {v : Value} {es : List Ev} : EvRow n A v es → EvRow n' A v es
  | .inl e => .inl e
  | .inr ⟨b, off, cap, e, hb, hl, hc⟩ => .inr ⟨b, off, cap, e, by omega, hl, hc⟩
theorem EvRow.form {n₀ : Nat} {A : World} {v : Value} {es : List Ev} (h : EvRow n₀ A v es) : ∃ a cap, v = .slice a es.length cap := by
  rcases h with ⟨⟨_, _, rfl, _⟩, rfl⟩ | ⟨b, off, cap, rfl, _⟩
  · exact ⟨_, _, rfl⟩
  · exact ⟨_, _, rfl⟩
theorem EvRow.at {n₀ : Nat} {W : World} {a : Option Addr} {n cap : Nat} {es : List Ev} (h : EvRow n₀ W (.slice a n cap) es) {j : Nat} (hj : j < es.length) :
    ∃ b off, a = some ⟨b, off, none⟩ ∧ b < n₀ ∧ ∀ k u, (evC (evAt es j))[k]? = some u → W.cell? ⟨b, off + j * 5 + k, none⟩ = some u := by
  rcases h with ⟨_, rfl⟩ | ⟨b, off, c, e, hb, _, hc⟩
  · simp at hj
  · cases e
    exact ⟨b, off, rfl, hb, hc j hj⟩
theorem EvRow.drewN {n₀ : Nat} {W : World} {v : Value} {es : List Ev} (h : EvRow n₀ W v es) (d : Nat) : EvRow n₀ (W.drewN d) v es :=
  h.below ⟨rfl, rfl, rfl, Nat.le_refl _, fun _ _ => rfl⟩
def evCells (es : List Ev) : List Value := es.flatMap evC
theorem evCells_len (es : List Ev) : (evCells es).length = es.length * 5 := by
  induction es with
  | nil => rfl
  | cons e es ih => simp [evCells, evC, List.flatMap_cons] at ih ⊢; omega
theorem evCells_at (es : List Ev) (j k : Nat) (hj : j < es.length) (u : Value) (h : (evC (es[j]?.getD ev0))[k]? = some u) : (evCells es)[j * 5 + k]? = some u := by
  have hk : k < 5 := (List.getElem?_eq_some_iff.1 h).1
  induction es generalizing j with
  | nil => simp at hj
  | cons e es ih =>
    unfold evCells
    rw [List.flatMap_cons]
    cases j with
    | zero =>
      rw [List.getElem?_append_left (by simp [evC]; omega)]
      simpa using h
    | succ j =>
      have hl : (evC e).length = 5 := rfl
      rw [List.getElem?_append_right (by rw [hl]; omega), hl, show (j + 1) * 5 + k - 5 = j * 5 + k by omega]
      exact ih j (by simpa using hj) (by simpa using h)
theorem ev_of_row {W : World} {base : Nat} {v : Value} {es : List Ev} (h : W.ownsRow base 44 5 v es.length (evCells es)) : EvRow W.heap.size W v es := by
  have hlt := h.lt
  obtain ⟨hl, ⟨rfl, h0⟩ | ⟨g, cap, cur, rfl, hb, hg, hn, hm, hs, hx⟩⟩ := h
  · have : es = [] := List.length_eq_zero_iff.1 h0
    subst this
    exact .inl ⟨⟨_, _, rfl, fun _ => rfl⟩, rfl⟩
  · refine .inr ⟨g, 0, cap, rfl, (hlt g rfl).2, hn, fun j hj k u hk => ?_⟩
    have hk5 : k < 5 := (List.getElem?_eq_some_iff.1 hk).1
    have h1 := evCells_at es j k hj u hk
    rw [← hx, List.getElem?_take_of_lt (by omega)] at h1
    simp only [World.cell?, hg, Nat.zero_add]
    simpa using h1
theorem evC_one (e : Ev) : ∀ u ∈ evC e, u.oneCell' = true := by
  intro u hu
  simp only [evC, List.mem_cons, List.mem_nil_iff, or_false] at hu
  rcases hu with rfl | rfl | rfl | rfl | rfl <;> rfl
theorem evCells_snoc (es : List Ev) (e : Ev) : evCells (es ++ [e]) = evCells es ++ evC e := by simp [evCells]
theorem evCells_one (es : List Ev) : ∀ u ∈ evCells es, u.oneCell' = true := by
  intro u hu
  obtain ⟨e, _, h⟩ := List.mem_flatMap.1 hu
  exact evC_one e u h
/-- as the source of a copy -/
theorem EvRow.src {n₀ : Nat} {W : World} {v : Value} {es : List Ev} (h : EvRow n₀ W v es) :
    v = .slice none 0 0 ∧ es.length = 0 ∨ ∃ ad c, v = .slice (some ad) es.length c ∧ ∀ j u, (evCells es)[j]? = some u → W.cell? (ad.add j) = some u := by
  rcases h with ⟨⟨a, cap, rfl, hn⟩, rfl⟩ | ⟨b, off, cap, rfl, _, _, hc⟩
  · cases a with
    | none => rw [hn rfl]; exact .inl ⟨rfl, rfl⟩
    | some x => exact .inr ⟨x, cap, rfl, fun j u hj => by simp [evCells] at hj⟩
  · refine .inr ⟨_, cap, rfl, fun j u hj => ?_⟩
    have hjl : j < es.length * 5 := by
      have := (List.getElem?_eq_some_iff.1 hj).1
      rwa [evCells_len] at this
    have hq : j / 5 < es.length := by omega
    have hk : ∃ u', (evC (es[j / 5]?.getD ev0))[j % 5]? = some u' := ⟨_, List.getElem?_eq_getElem (show j % 5 < 5 by omega)⟩
    obtain ⟨u', hu'⟩ := hk
    have h1 := evCells_at es (j / 5) (j % 5) hq u' hu'
    rw [show j / 5 * 5 + j % 5 = j by omega, hj] at h1
    cases h1
    have h2 := hc (j / 5) hq (j % 5) u hu'
    rw [Addr.add_lit]
    rwa [Nat.add_assoc, show j / 5 * 5 + j % 5 = j by omega] at h2
theorem run_zeroEv (w : World) : (zeroValue 44).run Tryz.prog w = .ok (.agg #[.int .u8 0, .int .i64 0, .int .i64 0, .int .i64 0, .int .i64 0]) w := by
  have h := Tryz.infoQEvent
  cases hi : Tryz.prog.info? 44 with
  | none => rw [hi] at h; cases h
  | some i =>
    rw [hi] at h
    simp only [Option.map_some, Option.some.injEq, Prod.mk.injEq] at h
    simp [zeroValue, typeInfo, hi, h.1]
/-- an event is loaded whole -/
theorem wpList_loadEv {ops : Array Oper} {rest : List Oper} {o : Oper} {a : Act} {w : World} {Q : Exit → Act → World → Prop} (hgd : o.guard = none) (x : Operand) (ho : o.op = .load 44 x)
    (blk off : Nat) (hx : a.eval x = .pointer (some ⟨blk, off, none⟩)) (e : Ev) (hc : ∀ k u, (evC e)[k]? = some u → w.cell? ⟨blk, off + k, none⟩ = some u)
    (h : wpList Tryz.prog ops Q rest (a.put o.dst (.agg #[.int .u8 e.k, .int .i64 e.r, .int .i64 e.v, .int .i64 e.f, .int .i64 e.a])) w) : wpList Tryz.prog ops Q (o :: rest) a w := by
  have hl : (loadCells ⟨blk, off, none⟩ 5).run Tryz.prog w = .ok #[.int .u8 e.k, .int .i64 e.r, .int .i64 e.v, .int .i64 e.f, .int .i64 e.a] w :=
    run_loadCells_list (P := Tryz.prog) w ⟨blk, off, none⟩ (evC e) (fun j u hu => by
      rw [Addr.add_lit]
      exact hc j u hu)
  have hagg : (isAgg 44).run Tryz.prog w = .ok true w := by kernel_rfl
  have hs : (sizeOf 44).run Tryz.prog w = .ok 5 w := by kernel_rfl
  refine wpList_plain hgd fun K hK => ?_
  unfold Oper.wp execOp
  simp only [ho, hx, Instr.loadAt, Instr.sureAddr, Sem.run_bind, Sem.run_pure, Result.andThen_ok]
  simp only [loadVar, Sem.run_bind, hagg, hs, hl, Result.andThen_ok, if_true, Sem.run_pure]
  exact hK _ _ h
end Go.Proofs.YtopffoklhfpjpaaGreatDoor
