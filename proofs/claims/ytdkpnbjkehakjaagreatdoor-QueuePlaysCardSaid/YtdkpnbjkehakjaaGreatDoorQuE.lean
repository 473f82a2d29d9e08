import Derived.Test.YtdkpnbjkehakjaaGreatDoorQuR
import Derived.Deep.QuietTactic
import Derived.BigQuiet
import Derived.ChangeKeysEq
import Derived.Laws.StructEq
set_option linter.unusedSimpArgs false
set_option linter.unusedVariables false
/-! queue: rows that are the same -/
namespace Go.Proofs.YtdkpnbjkehakjaaGreatDoor.QQ
theorem take_same {α : Type} {d : α} {xs ys : List α} {j : Nat} (h1 : j < xs.length) (h2 : j < ys.length) (h : xs.take j = ys.take j) (e : xs[j]?.getD d = ys[j]?.getD d) : xs.take (j + 1) = ys.take (j + 1) := by
  rw [List.getElem?_eq_getElem h1, List.getElem?_eq_getElem h2] at e
  simp only [Option.getD_some] at e
  rw [List.take_succ_eq_append_getElem h1, List.take_succ_eq_append_getElem h2, h, e]
theorem take_whole {α : Type} {xs ys : List α} {j : Nat} (h1 : xs.length ≤ j) (h2 : ys.length ≤ j) (h : xs.take j = ys.take j) : xs = ys := by
  rwa [List.take_of_length_le h1, List.take_of_length_le h2] at h
end Go.Proofs.YtdkpnbjkehakjaaGreatDoor.QQ
namespace Go.Proofs.YtdkpnbjkehakjaaGreatDoor
open Go.RowKit

/-! slices.Equal -/
set_option maxHeartbeats 1600000 in
theorem equal_any (a b : Value) (xs ys : List Int) (n : Nat) (w : World) (ha : Row n w a xs) (hb : Row n w b ys) (hx : xs.length ≤ 17592186044416) (hy : ys.length ≤ 17592186044416) :
    Calls Tryz.prog 35 #[a, b] w fun e w' => e = .returned (.bool (decide (xs = ys))) ∧ ∃ d, w' = w.drewN d := by
  obtain ⟨aa, ca, rfl⟩ := ha.form
  obtain ⟨ab, cb, rfl⟩ := hb.form
  by_cases hl : xs.length = ys.length
  · have hne : ((xs.length : Int) != (ys.length : Int)) = false := by rw [bne_eq_false_iff_eq]; omega
    have hl1 : xs.length ≤ ys.length := by omega
    have hl2 : ys.length ≤ xs.length := by omega
    have HL := Lib.hid hl
    have HA := Lib.hid ha
    have HB := Lib.hid hb
    clear hl ha hb
    go_enter Tryz.func35, Tryz.ntmps35
    go_wp2_with fail
    go_loopw [13] (fun k wr => ∃ j d : Nat, j ≤ xs.length ∧ k = .int .i64 (j : Int) ∧ wr = w.drewN d ∧ RowKit.Hid (xs.take j = ys.take j)) (fun k _ => xs.length - (intOf k).toNat)
    case atStart => exact ⟨0, 0, by omega, rfl, rfl, Lib.hid rfl⟩
    case round =>
      obtain ⟨j, d, hj, rfl, rfl, HT⟩ := hrel
      by_cases hlt : j < xs.length
      · obtain ⟨xb, xo, rfl, hx1⟩ := HA.out.cellAt hlt
        obtain ⟨yb, yo, rfl, hy1⟩ := HB.out.cellAt (show j < ys.length by omega)
        have i1 : (0 : Int) ≤ j ∧ (j : Int) < xs.length := by omega
        have i2 : (0 : Int) ≤ j ∧ (j : Int) < ys.length := by omega
        obtain ⟨x, ex⟩ : ∃ x, x = xs[j]?.getD 0 := ⟨_, rfl⟩
        obtain ⟨y, ey⟩ : ∃ y, y = ys[j]?.getD 0 := ⟨_, rfl⟩
        rw [← ex] at hx1
        rw [← ey] at hy1
        have EX := Lib.hid ex
        have EY := Lib.hid ey
        clear ex ey
        by_cases hxy : x = y
        · subst hxy
          have HT' := Lib.hid (QQ.take_same hlt (show j < ys.length by omega) HT.out (EX.out.symm.trans EY.out))
          have hn2 : (x != x) = false := bne_self_eq_false x
          clear HT EX EY
          go_wp2_with fail
          go_quiet (fail)
          go_wp2_with fail
          go_roundw
          case rel => exact ⟨j + 1, _, by omega, by go_num, (by first | rfl | exact World.drewN_drewN _ _ _), HT'⟩
          case measure => simp [intOf]; omega
        · have HS := Lib.hid (show decide (xs = ys) = false from decide_eq_false (fun e => hxy (by rw [EX.out, EY.out, e])))
          have hn2 : (x != y) = true := bne_iff_ne.2 hxy
          clear HT EX EY hxy
          
          go_wp2_with fail
          go_quiet (fail)
          go_wp2_with fail
          go_ret
          exact ⟨ret_bool HS.out.symm, _, (by first | rfl | exact World.drewN_drewN _ _ _)⟩
      · have HS := Lib.hid (show decide (xs = ys) = true from decide_eq_true (QQ.take_whole (by omega) (by omega) HT.out))
        clear HT
        go_wp2_with fail
        go_ret
        exact ⟨ret_bool HS.out.symm, _, rfl⟩
  · have hne : ((xs.length : Int) != (ys.length : Int)) = true := by rw [bne_iff_ne]; omega
    have HS := Lib.hid (show decide (xs = ys) = false from decide_eq_false (fun e => hl (by rw [e])))
    clear hl ha hb
    go_enter Tryz.func35, Tryz.ntmps35
    go_wp2_with fail
    go_ret
    exact ⟨ret_bool HS.out.symm, 0, rfl⟩


/-! the reference's same -/
end Go.Proofs.YtdkpnbjkehakjaaGreatDoor

/-! queue: events in memory -/
namespace Go.Proofs.YtdkpnbjkehakjaaGreatDoor
open Go.RowKit
/-- an event: its kind, what it names, its value, its function, its place -/
structure Ev where
  k : Int
  r : Int
  v : Int
  f : Int
  a : Int
def evC (e : Ev) : List Value := [.int .u8 e.k, .int .i64 e.r, .int .i64 e.v, .int .i64 e.f, .int .i64 e.a]
def ev0 : Ev := ⟨0, 0, 0, 0, 0⟩
def evAt (es : List Ev) (j : Nat) : Ev := es[j]?.getD ev0
def EvRow (n₀ : Nat) (W : World) (v : Value) (es : List Ev) : Prop :=
  ((∃ a cap, v = .slice a 0 cap ∧ (a = none → cap = 0)) ∧ es = []) ∨ ∃ b off cap, v = .slice (some ⟨b, off, none⟩) es.length cap ∧ b < n₀ ∧ es.length ≤ cap ∧ ∀ j, j < es.length → ∀ k u, (evC (es[j]?.getD ev0))[k]? = some u → W.cell? ⟨b, off + j * 5 + k, none⟩ = some u
theorem EvRow.below {n₀ : Nat} {A B : World} (h : Below n₀ A B) {v : Value} {es : List Ev} : EvRow n₀ A v es → EvRow n₀ B v es
  | .inl e => .inl e
  | .inr ⟨b, off, cap, e, hb, hl, hc⟩ => .inr ⟨b, off, cap, e, hb, hl, fun j hj k u hk => (h.cell (p := ⟨b, off + j * 5 + k, none⟩) hb).trans (hc j hj k u hk)⟩
theorem EvRow.mono {n n' : Nat} (h : n ≤ n') {A : World} {v : Value} {es : List Ev} : EvRow n A v es → EvRow n' A v es
  | .inl e => .inl e
  | .inr ⟨b, off, cap, e, hb, hl, hc⟩ => .inr ⟨b, off, cap, e, by omega, hl, hc⟩
theorem EvRow.form {n₀ : Nat} {A : World} {v : Value} {es : List Ev} (h : EvRow n₀ A v es) : ∃ a cap, v = .slice a es.length cap := by
  rcases h with ⟨⟨_, _, rfl, _⟩, rfl⟩ | ⟨b, off, cap, rfl, _⟩
  · exact ⟨_, _, rfl⟩
  · exact ⟨_, _, rfl⟩
theorem EvRow.at {n₀ : Nat} {W : World} {a : Option Addr} {n cap : Nat} {es : List Ev} (h : EvRow n₀ W (.slice a n cap) es) {j : Nat} (hj : j < es.length) :
    ∃ b off, a = some ⟨b, off, none⟩ ∧ b < n₀ ∧ ∀ k u, (evC (evAt es j))[k]? = some u → W.cell? ⟨b, off + j * 5 + k, none⟩ = some u := by
  rcases h with ⟨_, rfl⟩ | ⟨b, off, c, e, hb, _, hc⟩
  · simp at hj
  · cases e
    exact ⟨b, off, rfl, hb, hc j hj⟩
theorem EvRow.drewN {n₀ : Nat} {W : World} {v : Value} {es : List Ev} (h : EvRow n₀ W v es) (d : Nat) : EvRow n₀ (W.drewN d) v es :=
  h.below ⟨rfl, rfl, rfl, Nat.le_refl _, fun _ _ => rfl⟩
def evCells (es : List Ev) : List Value := es.flatMap evC
theorem evCells_len (es : List Ev) : (evCells es).length = es.length * 5 := by
  induction es with
  | nil => rfl
  | cons e es ih => simp [evCells, evC, List.flatMap_cons] at ih ⊢; omega
theorem evCells_at (es : List Ev) (j k : Nat) (hj : j < es.length) (u : Value) (h : (evC (es[j]?.getD ev0))[k]? = some u) : (evCells es)[j * 5 + k]? = some u := by
  have hk : k < 5 := (List.getElem?_eq_some_iff.1 h).1
  induction es generalizing j with
  | nil => simp at hj
  | cons e es ih =>
    unfold evCells
    rw [List.flatMap_cons]
    cases j with
    | zero =>
      rw [List.getElem?_append_left (by simp [evC]; omega)]
      simpa using h
    | succ j =>
      have hl : (evC e).length = 5 := rfl
      rw [List.getElem?_append_right (by rw [hl]; omega), hl, show (j + 1) * 5 + k - 5 = j * 5 + k by omega]
      exact ih j (by simpa using hj) (by simpa using h)
theorem ev_of_row {W : World} {base : Nat} {v : Value} {es : List Ev} (h : W.ownsRow base 44 5 v es.length (evCells es)) : EvRow W.heap.size W v es := by
  have hlt := h.lt
  obtain ⟨hl, ⟨rfl, h0⟩ | ⟨g, cap, cur, rfl, hb, hg, hn, hm, hs, hx⟩⟩ := h
  · have : es = [] := List.length_eq_zero_iff.1 h0
    subst this
    exact .inl ⟨⟨_, _, rfl, fun _ => rfl⟩, rfl⟩
  · refine .inr ⟨g, 0, cap, rfl, (hlt g rfl).2, hn, fun j hj k u hk => ?_⟩
    have hk5 : k < 5 := (List.getElem?_eq_some_iff.1 hk).1
    have h1 := evCells_at es j k hj u hk
    rw [← hx, List.getElem?_take_of_lt (by omega)] at h1
    simp only [World.cell?, hg, Nat.zero_add]
    simpa using h1
theorem evC_one (e : Ev) : ∀ u ∈ evC e, u.oneCell' = true := by
  intro u hu
  simp only [evC, List.mem_cons, List.mem_nil_iff, or_false] at hu
  rcases hu with rfl | rfl | rfl | rfl | rfl <;> rfl
theorem evCells_snoc (es : List Ev) (e : Ev) : evCells (es ++ [e]) = evCells es ++ evC e := by simp [evCells]
theorem evCells_one (es : List Ev) : ∀ u ∈ evCells es, u.oneCell' = true := by
  intro u hu
  obtain ⟨e, _, h⟩ := List.mem_flatMap.1 hu
  exact evC_one e u h
/-- as the source of a copy -/
theorem EvRow.src {n₀ : Nat} {W : World} {v : Value} {es : List Ev} (h : EvRow n₀ W v es) :
    v = .slice none 0 0 ∧ es.length = 0 ∨ ∃ ad c, v = .slice (some ad) es.length c ∧ ∀ j u, (evCells es)[j]? = some u → W.cell? (ad.add j) = some u := by
  rcases h with ⟨⟨a, cap, rfl, hn⟩, rfl⟩ | ⟨b, off, cap, rfl, _, _, hc⟩
  · cases a with
    | none => rw [hn rfl]; exact .inl ⟨rfl, rfl⟩
    | some x => exact .inr ⟨x, cap, rfl, fun j u hj => by simp [evCells] at hj⟩
  · refine .inr ⟨_, cap, rfl, fun j u hj => ?_⟩
    have hjl : j < es.length * 5 := by
      have := (List.getElem?_eq_some_iff.1 hj).1
      rwa [evCells_len] at this
    have hq : j / 5 < es.length := by omega
    have hk : ∃ u', (evC (es[j / 5]?.getD ev0))[j % 5]? = some u' := ⟨_, List.getElem?_eq_getElem (show j % 5 < 5 by omega)⟩
    obtain ⟨u', hu'⟩ := hk
    have h1 := evCells_at es (j / 5) (j % 5) hq u' hu'
    rw [show j / 5 * 5 + j % 5 = j by omega, hj] at h1
    cases h1
    have h2 := hc (j / 5) hq (j % 5) u hu'
    rw [Addr.add_lit]
    rwa [Nat.add_assoc, show j / 5 * 5 + j % 5 = j by omega] at h2
theorem run_zeroEv (w : World) : (zeroValue 44).run Tryz.prog w = .ok (.agg #[.int .u8 0, .int .i64 0, .int .i64 0, .int .i64 0, .int .i64 0]) w := by
  have h := Tryz.infoQEvent
  cases hi : Tryz.prog.info? 44 with
  | none => rw [hi] at h; cases h
  | some i =>
    rw [hi] at h
    simp only [Option.map_some, Option.some.injEq, Prod.mk.injEq] at h
    simp [zeroValue, typeInfo, hi, h.1]
/-- an event is loaded whole -/
theorem wpList_loadEv {ops : Array Oper} {rest : List Oper} {o : Oper} {a : Act} {w : World} {Q : Exit → Act → World → Prop} (hgd : o.guard = none) (x : Operand) (ho : o.op = .load 44 x)
    (blk off : Nat) (hx : a.eval x = .pointer (some ⟨blk, off, none⟩)) (e : Ev) (hc : ∀ k u, (evC e)[k]? = some u → w.cell? ⟨blk, off + k, none⟩ = some u)
    (h : wpList Tryz.prog ops Q rest (a.put o.dst (.agg #[.int .u8 e.k, .int .i64 e.r, .int .i64 e.v, .int .i64 e.f, .int .i64 e.a])) w) : wpList Tryz.prog ops Q (o :: rest) a w := by
  have hl : (loadCells ⟨blk, off, none⟩ 5).run Tryz.prog w = .ok #[.int .u8 e.k, .int .i64 e.r, .int .i64 e.v, .int .i64 e.f, .int .i64 e.a] w :=
    run_loadCells_list (P := Tryz.prog) w ⟨blk, off, none⟩ (evC e) (fun j u hu => by
      rw [Addr.add_lit]
      exact hc j u hu)
  have hagg : (isAgg 44).run Tryz.prog w = .ok true w := by kernel_rfl
  have hs : (sizeOf 44).run Tryz.prog w = .ok 5 w := by kernel_rfl
  refine wpList_plain hgd fun K hK => ?_
  unfold Oper.wp execOp
  simp only [ho, hx, Instr.loadAt, Instr.sureAddr, Sem.run_bind, Sem.run_pure, Result.andThen_ok]
  simp only [loadVar, Sem.run_bind, hagg, hs, hl, Result.andThen_ok, if_true, Sem.run_pure]
  exact hK _ _ h
end Go.Proofs.YtdkpnbjkehakjaaGreatDoor

/-! layer 15's reference: a row; which events may be; lists of events that are the same; a copy of rows -/
namespace Go.Proofs.YtdkpnbjkehakjaaGreatDoor
open Go.RowKit
/-- a row by any number -/
def rowZ (to : List (List Int)) (i : Int) : List Int := if 0 ≤ i then rowAt to i.toNat else []
theorem rrow_any (a : Value) (to : List (List Int)) (n : Nat) (i : Int) (w : World) (ha : GraphM n w a to) (hl : to.length ≤ 17592186044416) :
    Calls Tryz.prog 24 #[a, .int .i64 i] w fun e w' => (∃ v, e = .returned v ∧ Row n w v (rowZ to i)) ∧ w = w' := by
  obtain ⟨aa, ca, rfl⟩ := ha.form
  by_cases h0 : i < 0
  · have t1 : decide (i < 0) = true := decide_eq_true h0
    have HE := Lib.hid (show Row n w (.slice none 0 0) (rowZ to i) by unfold rowZ; rw [if_neg (by omega)]; exact cells_empty _ _ _ _ (fun _ => rfl))
    clear ha h0
    go_enter Tryz.func24, Tryz.ntmps24
    go_wp2_with fail
    go_ret
    exact ⟨⟨_, rfl, HE.out⟩, rfl⟩
  · have t1 : decide (i < 0) = false := decide_eq_false h0
    obtain ⟨q, rfl⟩ : ∃ q : Nat, i = q := ⟨i.toNat, by omega⟩
    have hz : rowZ to (q : Int) = rowAt to q := by unfold rowZ; rw [if_pos (by omega)]; rfl
    by_cases h1 : (to.length : Int) ≤ q
    · have t2 : decide ((to.length : Int) ≤ q) = true := decide_eq_true h1
      have t3 : decide (to.length ≤ q) = true := decide_eq_true (by omega)
      have HE := Lib.hid (show Row n w (.slice none 0 0) (rowZ to q) by rw [hz]; unfold rowAt; rw [List.getElem?_eq_none (by omega)]; exact cells_empty _ _ _ _ (fun _ => rfl))
      clear ha h0 h1 hz
      go_enter Tryz.func24, Tryz.ntmps24
      go_wp2_with fail
      go_ret
      exact ⟨⟨_, rfl, HE.out⟩, rfl⟩
    · have t2 : decide ((to.length : Int) ≤ q) = false := decide_eq_false h1
      have t3 : decide (to.length ≤ q) = false := decide_eq_false (by omega)
      obtain ⟨xb, xo, xc, e1⟩ := ha.addr (by omega)
      cases e1
      obtain ⟨ra, rac, hx1, hrx⟩ := ha.at (show q < to.length by omega)
      have i1 : (0 : Int) ≤ q ∧ (q : Int) < to.length := by omega
      have HE := Lib.hid (show Row n w (.slice ra (to[q]?.getD []).length rac) (rowZ to q) by rw [hz]; exact hrx)
      clear ha h0 h1 hz hrx
      go_enter Tryz.func24, Tryz.ntmps24
      go_wp2_with fail
      go_ret
      exact ⟨⟨_, rfl, HE.out⟩, rfl⟩

set_option maxHeartbeats 1600000 in
theorem good_any (a0 a3 : Option Addr) (nL c0 nO c3 : Nat) (v1 v2 v4 : Value) (k r v f a : Int) (w : World) :
    Calls Tryz.prog 26 #[.agg #[.slice a0 nL c0, v1, v2, .slice a3 nO c3, v4], .agg #[.int .u8 k, .int .i64 r, .int .i64 v, .int .i64 f, .int .i64 a]] w fun e w' => e = .returned (.bool (allowB nO nL k r f a)) ∧ Below w.heap.size w w' := by
  have HB := Lib.hid (show Below w.heap.size w ((w.alloc (.cells #[.slice a0 nL c0, v1, v2, .slice a3 nO c3, v4] 26)).alloc (.cells #[.int .u8 k, .int .i64 r, .int .i64 v, .int .i64 f, .int .i64 a] 44)) from ((Below.refl _ _).alloc (Nat.le_refl _) _).alloc (by simp) _)
  obtain ⟨m, hm⟩ : ∃ m : Int, m = (if k = 1 then (nO : Int) else if k = 2 then (nL : Int) else -1) := ⟨_, rfl⟩
  have hk : (k == 1) = true ∧ (k == 2) = false ∧ m = nO ∨ (k == 1) = false ∧ (k == 2) = true ∧ m = nL ∨ (k == 1) = false ∧ (k == 2) = false ∧ m = -1 := by
    by_cases e1 : k = 1
    · exact .inl ⟨beq_iff_eq.2 e1, beq_eq_false_iff_ne.2 (by omega), by rw [hm, if_pos e1]⟩
    · by_cases e2 : k = 2
      · exact .inr (.inl ⟨beq_eq_false_iff_ne.2 e1, beq_iff_eq.2 e2, by rw [hm, if_neg e1, if_pos e2]⟩)
      · exact .inr (.inr ⟨beq_eq_false_iff_ne.2 e1, beq_eq_false_iff_ne.2 e2, by rw [hm, if_neg e1, if_neg e2]⟩)
  have hv : decide (0 ≤ r) = false ∧ allowB nO nL k r f a = false ∨ decide (0 ≤ r) = true ∧ decide (r < m) = false ∧ allowB nO nL k r f a = false ∨ decide (0 ≤ r) = true ∧ decide (r < m) = true ∧ decide (0 ≤ f) = false ∧ allowB nO nL k r f a = false ∨ decide (0 ≤ r) = true ∧ decide (r < m) = true ∧ decide (0 ≤ f) = true ∧ allowB nO nL k r f a = decide (0 ≤ a) := by
    have key : (decide (0 ≤ r) && decide (r < (if k = 1 then (nO : Int) else if k = 2 then (nL : Int) else 0))) = (decide (0 ≤ r) && decide (r < m)) := by
      rw [hm]
      by_cases e1 : k = 1
      · rw [if_pos e1, if_pos e1]
      · rw [if_neg e1, if_neg e1]
        by_cases e2 : k = 2
        · rw [if_pos e2, if_pos e2]
        · rw [if_neg e2, if_neg e2]
          by_cases e3 : 0 ≤ r
          · rw [decide_eq_true e3, decide_eq_false (show ¬ r < 0 by omega), decide_eq_false (show ¬ r < -1 by omega)]
          · rw [decide_eq_false e3]; rfl
    unfold allowB
    rw [key]
    cases decide (0 ≤ r) <;> cases decide (r < m) <;> cases decide (0 ≤ f) <;> simp
  clear hm
  rcases hk with ⟨k1, k2, rfl⟩ | ⟨k1, k2, rfl⟩ | ⟨k1, k2, rfl⟩ <;> rcases hv with ⟨t1, hv⟩ | ⟨t1, t2, hv⟩ | ⟨t1, t2, t3, hv⟩ | ⟨t1, t2, t3, hv⟩
  all_goals
    have HV := Lib.hid hv
    clear hv
    go_enter Tryz.func26, Tryz.ntmps26
    go_wp2_with fail
    go_ret
    exact ⟨ret_bool HV.out.symm, HB.out⟩

set_option maxRecDepth 100000 in
set_option maxHeartbeats 3200000 in
theorem rcopy15_any (a : Value) (to : List (List Int)) (w : World) (ha : GraphM w.heap.size w a to) (hx : Small to) (hl : to.length ≤ 4294967296) :
    Calls Tryz.prog 6 #[a] w fun e w' => ∃ v, e = .returned v ∧ GraphM w'.heap.size w' v to ∧ Below w.heap.size w w' := by
  obtain ⟨aa, ca, rfl⟩ := ha.form
  obtain ⟨i0, hi, hz0, hz1, hz2⟩ := info_parts Tryz.infoQInt
  obtain ⟨j0, hj, hy0, hy1, hy2⟩ := info_parts Tryz.infoQRow
  have HA := Lib.hid ha
  have HX := Lib.hid hx
  clear ha hx
  go_enter Tryz.func6, Tryz.ntmps6
  go_wp2_with fail
  go_loopw [3, 4] (fun o k wr => ∃ (i : Nat) (vs : List Value), i ≤ to.length ∧ k = .int .i64 (i : Int) ∧ wr.ownsRow w.heap.size 29 1 o i vs ∧ QQ.Rows w.heap.size wr vs (to.take i) ∧ Below w.heap.size w wr) (fun _ k _ => to.length - (intOf k).toNat)
  case atStart => exact ⟨0, [], by omega, rfl, World.ownsRow_nil _ _ _ _, QQ.Rows.nil _ _, Below.refl _ _⟩
  case round =>
    obtain ⟨i, vs, hi', rfl, hO, hR, hB⟩ := hrel
    have HO := Lib.hid hO
    have HR := Lib.hid hR
    have HB := Lib.hid hB
    clear hO hR hB
    by_cases hlt : i < to.length
    · obtain ⟨xb, xo, xc, e1⟩ := HA.out.addr (by omega)
      cases e1
      have HB1 := Lib.hid (HB.out.alloc HB.out.size (.cells #[] 2))
      obtain ⟨ra, rac, hx1, hrx⟩ := (HA.out.below HB1.out).at hlt
      have i1 : (0 : Int) ≤ i ∧ (i : Int) < to.length := by omega
      have b1 := HX.out.row i
      have HT := Lib.hid (show to.take i ++ [to[i]?.getD []] = to.take (i + 1) by rw [List.take_succ_eq_append_getElem hlt, List.getElem?_eq_getElem hlt]; rfl)
      obtain ⟨r, er⟩ : ∃ r, r = to[i]?.getD [] := ⟨_, rfl⟩
      rw [← er] at hx1 hrx b1 HT
      have HRX := Lib.hid (Cells.src (show Cells w.heap.size (wr.alloc (.cells #[] 2)) (.slice ra r.length rac) (intsV r) from hrx))
      clear er hrx
      go_wp2_with (first
        | (at_builtin
           refine wpList_append_any rfl _ _ 29 rfl w.heap.size 2 i0 (.int .i64 0) 1 8 Tryz.underlying29 hi hz0 hz1 hz2 rfl (by decide) (.slice (some ⟨wr.heap.size, 0, none⟩) 0 0) 0 [] rfl (QQ.litRow wr HB.out.size (by decide) rfl) (.slice ra r.length rac) r.length (intsV r) rfl (by rw [intsV_len, Nat.mul_one]) (by have h := HRX.out; rw [intsV_len] at h; exact h) (QQ.oneInts r) (by unfold maxLen; omega) (by omega) (by have := HB.out.size; simp; omega) ?_
           intro v1 w1 ho hg
           have ho := QQ.own00 ho
           obtain ⟨va, vc, rfl⟩ := QQ.ownOf ho
           have HC := Lib.hid (QQ.copy_in HB.out HR.out HO.out HB.out.size ho hg)
           clear ho hg)
        | (at_builtin
           refine wpList_append_any rfl _ _ 27 rfl w.heap.size 29 j0 (.slice none 0 0) 1 24 Tryz.underlying27 hj hy0 hy1 hy2 rfl (by decide) u3 i vs rfl (HC.out.2.1.alloc _) (.slice (some ⟨w1.heap.size, 0, none⟩) 1 1) 1 [.slice va r.length vc] rfl rfl (.inr ⟨_, _, rfl, QQ.cellOne _ _ _ rfl⟩) (by intro u hu; rw [List.mem_singleton.1 hu]; rfl) (by unfold maxLen; omega) (by omega) (by have := HC.out.2.2.2; simp; omega) ?_
           intro v2 w2 ho hg
           have HD := Lib.hid (show w2.ownsRow w.heap.size 29 1 v2 (i + 1) (vs ++ [.slice va r.length vc]) ∧ QQ.Rows w.heap.size w2 (vs ++ [.slice va r.length vc]) (to.take (i + 1)) ∧ Below w.heap.size w w2 from ⟨ho, by rw [← HT.out]; exact (HC.out.1.alloc _).kept (HC.out.2.1.alloc _) (by decide) hg, (HC.out.2.2.1.alloc HC.out.2.2.2 _).grown hg (by have := HC.out.2.2.2; simp; omega) (fun k e => (HC.out.2.1.lt k e).1)⟩)
           clear ho hg))
      go_roundw
      case rel => exact ⟨i + 1, _, by omega, by go_num, HD.out.1, HD.out.2.1, HD.out.2.2⟩
      case measure => simp [intOf]; omega
    · have HS := Lib.hid (show i = to.length ∧ to.take i = to from ⟨by omega, List.take_of_length_le (by omega)⟩)
      have HE := Lib.hid (show GraphM wr.heap.size wr u3 to by
        have h1 := HR.out
        have h2 := HO.out
        rw [HS.out.2] at h1
        rw [HS.out.1] at h2
        exact h1.graph h2)
      go_wp2_with fail
      go_ret
      exact ⟨_, rfl, HE.out, HB.out⟩
end Go.Proofs.YtdkpnbjkehakjaaGreatDoor

/-! layer 15's reference: lists of events that are the same -/
namespace Go.Proofs.YtdkpnbjkehakjaaGreatDoor
open Go.RowKit
set_option maxRecDepth 100000 in
theorem eq_ev (a b c d e : Int) (w : World) : (Op.equalIn 10000 44 (.agg #[.int .u8 a, .int .i64 b, .int .i64 c, .int .i64 d, .int .i64 e]) (.agg #[.int .u8 a, .int .i64 b, .int .i64 c, .int .i64 d, .int .i64 e])).run Tryz.prog w = .ok true w := by
  go_simp
theorem ev_cells {n : Nat} {W : World} {a : Option Addr} {m cap : Nat} {es : List Ev} (h : EvRow n W (.slice a m cap) es) {j : Nat} (hj : j < es.length) :
    ∃ b off, a = some ⟨b, off, none⟩ ∧ b < n ∧ W.cell? ⟨b, off + j * 5, none⟩ = some (.int .u8 (evAt es j).k) ∧ W.cell? ⟨b, off + j * 5 + 1, none⟩ = some (.int .i64 (evAt es j).r) ∧ W.cell? ⟨b, off + j * 5 + 2, none⟩ = some (.int .i64 (evAt es j).v) ∧ W.cell? ⟨b, off + j * 5 + 3, none⟩ = some (.int .i64 (evAt es j).f) ∧ W.cell? ⟨b, off + j * 5 + 4, none⟩ = some (.int .i64 (evAt es j).a) := by
  obtain ⟨b, off, e, hb, hc⟩ := h.at hj
  exact ⟨b, off, e, hb, hc 0 _ rfl, hc 1 _ rfl, hc 2 _ rfl, hc 3 _ rfl, hc 4 _ rfl⟩

set_option maxRecDepth 100000 in
set_option maxHeartbeats 1600000 in
theorem events_same (a b : Value) (es : List Ev) (n : Nat) (w : World) (ha : EvRow n w a es) (hb : EvRow n w b es) (hx : es.length ≤ 17592186044416) :
    Calls Tryz.prog 15 #[a, b] w fun e w' => e = .returned (.bool true) ∧ ∃ d, w' = w.drewN d := by
  obtain ⟨aa, ca, rfl⟩ := ha.form
  obtain ⟨ab, cb, rfl⟩ := hb.form
  have hne : ((es.length : Int) != (es.length : Int)) = false := bne_self_eq_false _
  have HA := Lib.hid ha
  have HB := Lib.hid hb
  clear ha hb
  go_enter Tryz.func15, Tryz.ntmps15
  go_wp2_with fail
  go_loopw [5] (fun k wr => ∃ j d : Nat, j ≤ es.length ∧ k = .int .i64 (j : Int) ∧ RowKit.Hid (wr = w.drewN d)) (fun k _ => es.length - (intOf k).toNat)
  case atStart => exact ⟨0, 0, by omega, rfl, Lib.hid rfl⟩
  case round =>
    obtain ⟨j, d, hj, rfl, HW⟩ := hrel
    by_cases hlt : j < es.length
    · obtain ⟨xb, xo, rfl, _, x0, x1, x2, x3, x4⟩ := ev_cells (show EvRow n wr _ es by rw [HW.out]; exact HA.out.drewN d) hlt
      obtain ⟨yb, yo, rfl, _, y0, y1, y2, y3, y4⟩ := ev_cells (show EvRow n wr _ es by rw [HW.out]; exact HB.out.drewN d) hlt
      have i1 : (0 : Int) ≤ j ∧ (j : Int) < es.length := by omega
      have hE := eq_ev (evAt es j).k (evAt es j).r (evAt es j).v (evAt es j).f (evAt es j).a
      go_wp2_with fail
      go_quiet (fail)
      go_wp2_with fail
      go_roundw
      case rel => exact ⟨j + 1, _, by omega, by go_num, Lib.hid (by rw [HW.out]; exact World.drewN_drewN _ _ _)⟩
      case measure => simp [intOf]; omega
    · go_wp2_with fail
      go_ret
      exact ⟨rfl, _, HW.out⟩
end Go.Proofs.YtdkpnbjkehakjaaGreatDoor
