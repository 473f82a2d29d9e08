import Derived.Test.YtkoofibhddkpiaaDoorSolY
import Derived.Deep.Upon
set_option linter.unusedSimpArgs false
set_option linter.unusedVariables false
/-! SolveTurned: needs in another order, plain; a copy whose rows are turned one by one, in memory -/
namespace Go.Proofs.YtkoofibhddkpiaaDoor
open Go.RowKit
open SV (Lab SysOk Least labs sumOf mu sumP at' natsL askT askI fanN lok Bnd val valT)
namespace SV
variable {L : Type} [Inhabited L] [DecidableEq L] {M : Semi L}
/-- systems with the same labels, whose values need the same, have the same least labels -/
theorem same_least {S T : Sys L} (hC : T.C = S.C) (hN : ∀ i, i < S.C.length → ∀ j, j ∈ S.nd i ↔ j ∈ T.nd i) {l m : List L} (h : Least M S l) (g : Least M T m) : l = m := by
  have hm : Bnd M S m := ⟨g.1.len.trans (by rw [hC]), fun i hi => g.1.ok i (by rw [hC]; exact hi), fun i hi => by have := g.1.base i (by rw [hC]; exact hi); rwa [hC] at this, fun i hi j hj => g.1.need i (by rw [hC]; exact hi) j ((hN i hi j).1 hj)⟩
  have hl : Bnd M T l := ⟨h.1.len.trans (by rw [hC]), fun i hi => h.1.ok i (by rw [← hC]; exact hi), fun i hi => by have := h.1.base i (by rw [← hC]; exact hi); rwa [← hC] at this, fun i hi j hj => h.1.need i (by rw [← hC]; exact hi) j ((hN i (by rw [← hC]; exact hi) j).2 hj)⟩
  refine at_ext (h.1.len.trans (by rw [← hC]; exact g.1.len.symm)) (fun i hi => ?_)
  have hi' : i < S.C.length := by rw [← h.1.len]; exact hi
  exact le_anti (M := M) (h.1.ok i hi') (hm.ok i hi') (h.2 m hm i hi') (g.2 l hl i (by rw [hC]; exact hi'))
end SV
/-- rows of the same numbers -/
def Same2 (a b : List (List Int)) : Prop := a.length = b.length ∧ ∀ (j : Nat) (x : Int), x ∈ a[j]?.getD [] ↔ x ∈ b[j]?.getD []
theorem Same2.symm {a b : List (List Int)} (h : Same2 a b) : Same2 b a := ⟨h.1.symm, fun j x => (h.2 j x).symm⟩
theorem rows_same {n : Nat} {a b : List (List Int)} (h : Same2 a b) (hall : a.all (rowIn n) = true) : b.all (rowIn n) = true := by
  rw [List.all_eq_true] at hall ⊢
  intro r hr
  obtain ⟨j, hj, rfl⟩ := List.mem_iff_getElem.1 hr
  unfold rowIn
  rw [List.all_eq_true]
  intro x hx
  have h1 : x ∈ a[j]?.getD [] := (h.2 j x).2 (by rw [List.getElem?_eq_getElem hj]; exact hx)
  have hj' : j < a.length := by rw [h.1]; exact hj
  rw [List.getElem?_eq_getElem hj'] at h1
  have h2 := hall _ (List.getElem_mem hj')
  unfold rowIn at h2
  exact List.all_eq_true.1 h2 x h1
theorem sysB_same (xs : List Int) (c : List (Int × Int)) {a b : List (List Int)} (h : Same2 a b) : sysB xs c a = sysB xs c b := by
  have e : a.all (rowIn c.length) = b.all (rowIn c.length) := Bool.eq_iff_iff.2 ⟨rows_same h, rows_same h.symm⟩
  unfold sysB
  rw [e, h.1]
theorem least_same {xs : List Int} {c : List (Int × Int)} (hr : LL.rightB xs = true) (hw : Wide xs) {a b : List (List Int)} (h : Same2 a b) {sol sol2 : List Lab} (h1 : Least (labs xs hr hw) (sysL c a) sol) (h2 : Least (labs xs hr hw) (sysL c b) sol2) : sol = sol2 :=
  SV.same_least (S := sysL c a) (T := sysL c b) rfl (fun i _ j => by
    rw [nd_at, nd_at, List.mem_map, List.mem_map]
    exact ⟨fun ⟨x, hx, e⟩ => ⟨x, (h.2 i x).1 hx, e⟩, fun ⟨x, hx, e⟩ => ⟨x, (h.2 i x).2 hx, e⟩⟩) h1 h2
/-- a row turned, its first need once more -/
def turnL (r : List Int) : List Int := r.reverse ++ r.take 1
theorem turn_mem (r : List Int) (x : Int) : x ∈ turnL r ↔ x ∈ r := by
  unfold turnL
  rw [List.mem_append, List.mem_reverse]
  exact ⟨fun h => h.elim id List.mem_of_mem_take, .inl⟩
theorem turn_len (r : List Int) : (turnL r).length ≤ r.length + 1 := by
  unfold turnL
  rw [List.length_append, List.length_reverse, List.length_take]
  omega
/-- the rows behind i rounds -/
def turnT (tq : List (List Int)) (i : Nat) : List (List Int) := (tq.take i).map turnL ++ tq.drop i
theorem turnT_len (tq : List (List Int)) (i : Nat) : (turnT tq i).length = tq.length := by
  unfold turnT
  rw [List.length_append, List.length_map, ← List.length_append, List.take_append_drop]
theorem turnT_zero (tq : List (List Int)) : turnT tq 0 = tq := by simp [turnT]
theorem turnT_at (tq : List (List Int)) (i j : Nat) : (turnT tq i)[j]?.getD [] = if j < i then turnL (tq[j]?.getD []) else tq[j]?.getD [] := by
  have e0 : turnL [] = [] := rfl
  unfold turnT
  by_cases h : j < i
  · rw [if_pos h]
    by_cases h2 : j < tq.length
    · rw [List.getElem?_append_left (by rw [List.length_map, List.length_take]; omega), List.getElem?_map, List.getElem?_take_of_lt h, List.getElem?_eq_getElem h2]
      rfl
    · rw [List.getElem?_eq_none (by rw [List.length_append, List.length_map, ← List.length_append, List.take_append_drop]; omega), List.getElem?_eq_none (by omega)]
      rfl
  · rw [if_neg h]
    by_cases h2 : i ≤ tq.length
    · rw [List.getElem?_append_right (by rw [List.length_map, List.length_take]; omega), List.length_map, List.length_take, List.getElem?_drop]
      congr 2
      omega
    · rw [List.getElem?_eq_none (by rw [List.length_append, List.length_map, ← List.length_append, List.take_append_drop]; omega), List.getElem?_eq_none (by omega)]
theorem turnT_same (tq : List (List Int)) (i : Nat) : Same2 tq (turnT tq i) := ⟨(turnT_len tq i).symm, fun j x => by
  rw [turnT_at]
  split
  · exact (turn_mem _ _).symm
  · exact Iff.rfl⟩
theorem turnT_next {tq : List (List Int)} {i : Nat} (hi : i < tq.length) : (turnT tq i).set i (turnL (tq[i]?.getD [])) = turnT tq (i + 1) := by
  apply List.ext_getElem (by rw [List.length_set, turnT_len, turnT_len])
  intro j h1 h2
  have e1 : ∀ {l : List (List Int)} (h : j < l.length), l[j] = l[j]?.getD [] := fun h => by rw [List.getElem?_eq_getElem h]; rfl
  rw [e1 h1, e1 h2, turnT_at, List.getElem?_set]
  by_cases e : i = j
  · subst e
    rw [if_pos rfl, if_pos (by rw [turnT_len]; exact hi), if_pos (by omega)]
    rfl
  · rw [if_neg e, turnT_at]
    by_cases h : j < i
    · rw [if_pos h, if_pos (by omega)]
    · rw [if_neg h, if_neg (by omega)]

/-- a row somewhere, in none of the blocks F -/
def RowF (B : Nat) (F : Nat → Prop) (w : World) (r : Value) (xs : List Int) : Prop := Row w.heap.size w r xs ∧ ∀ k, r.ownBlock = some k → B ≤ k ∧ k < w.heap.size ∧ ¬ F k
theorem RowF.keep {B : Nat} {F : Nat → Prop} {w w' : World} {r : Value} {xs : List Int} (h : RowF B F w r xs) (hs : w.heap.size ≤ w'.heap.size) (hk : ∀ k, r.ownBlock = some k → w'.heap[k]? = w.heap[k]?) : RowF B F w' r xs := by
  refine ⟨?_, fun k e => ⟨(h.2 k e).1, Nat.lt_of_lt_of_le (h.2 k e).2.1 hs, (h.2 k e).2.2⟩⟩
  rcases h.1 with e | ⟨b, off, cap, rfl, hb, hl, hc⟩
  · exact .inl e
  · exact .inr ⟨b, off, cap, rfl, Nat.lt_of_lt_of_le hb hs, hl, fun j u hj => (World.cell?_of_block (a := ⟨b, off + j, none⟩) (hk b rfl)).trans (hc j u hj)⟩
/-- a copy of a system in memory of its own; the rows below i may lie anywhere in it, the others are owned -/
structure TurnS (w5 : World) (T gb : Nat) (av gv : Value) (n : Nat) (cells vs : List Value) (ts : List (List Int)) (i : Nat) (w : World) : Prop where
  b : Below w5.heap.size w5 w
  c : w.ownsRow w5.heap.size 49 2 av n cells
  g : w.ownsRow w5.heap.size 29 1 gv ts.length vs
  gk : ∀ k, gv.ownBlock = some k → k = gb
  t : w.heap[T]? = some (.cells #[av, gv] 26)
  l : w5.heap.size ≤ T ∧ T < w.heap.size
  done : ∀ j, j < i → j < ts.length → ∃ r, vs[j]? = some r ∧ RowF w5.heap.size (fun k => k = gb ∨ k = T ∨ av.ownBlock = some k) w r (ts[j]?.getD [])
  rest : ∀ j, i ≤ j → j < ts.length → ∃ r, vs[j]? = some r ∧ w.ownsRow w5.heap.size 3 1 r (ts[j]?.getD []).length (intsV (ts[j]?.getD []))
  ap : Apart vs
theorem TurnS.on {w5 w w' : World} {T gb n i : Nat} {av gv : Value} {cells vs : List Value} {ts : List (List Int)} (h : TurnS w5 T gb av gv n cells vs ts i w) (hb : Below w.heap.size w w') : TurnS w5 T gb av gv n cells vs ts i w' :=
  ⟨h.b.trans (hb.mono h.b.size), SS.own_of_block h.c (fun j e => hb.block j (h.c.lt j e).2), SS.own_of_block h.g (fun j e => hb.block j (h.g.lt j e).2), h.gk, (hb.block _ h.l.2).trans h.t, ⟨h.l.1, Nat.lt_of_lt_of_le h.l.2 hb.size⟩,
    fun j h1 h2 => by obtain ⟨r, e, g⟩ := h.done j h1 h2; exact ⟨r, e, g.keep hb.size (fun k ek => hb.block k (g.2 k ek).2.1)⟩,
    fun j h1 h2 => by obtain ⟨r, e, g⟩ := h.rest j h1 h2; exact ⟨r, e, SS.own_of_block g (fun k ek => hb.block k (g.lt k ek).2)⟩, h.ap⟩
theorem TurnS.drewN {w5 w : World} {T gb n i : Nat} {av gv : Value} {cells vs : List Value} {ts : List (List Int)} (h : TurnS w5 T gb av gv n cells vs ts i w) (d : Nat) : TurnS w5 T gb av gv n cells vs ts i (w.drewN d) := h.on ⟨rfl, rfl, rfl, Nat.le_refl _, fun _ _ => rfl⟩
theorem own_type {w : World} {B e n size : Nat} {v : Value} {xs : List Value} (h : w.ownsRow B e size v n xs) {k : Nat} (hk : v.ownBlock = some k) : ∃ cur, w.heap[k]? = some (.cells cur e (0, 0)) := by
  rcases h.2 with ⟨rfl, _⟩ | ⟨g, cap, cur, rfl, _, hg, _⟩
  · cases hk
  · cases hk; exact ⟨cur, hg⟩
/-- an owned row's block is none of the others' -/
theorem TurnS.far {w5 w : World} {T gb n i : Nat} {av gv : Value} {cells vs : List Value} {ts : List (List Int)} (h : TurnS w5 T gb av gv n cells vs ts i w) (h0 : gv.ownBlock = some gb) {r : Value} {m : Nat} {ys : List Value} (hr : w.ownsRow w5.heap.size 3 1 r m ys) {k : Nat} (hk : r.ownBlock = some k) : ¬ (k = gb ∨ k = T ∨ av.ownBlock = some k) := by
  obtain ⟨cur, e1⟩ := own_type hr hk
  rintro (rfl | rfl | e)
  · obtain ⟨c2, e2⟩ := own_type h.g h0
    rw [e1] at e2
    cases e2
  · rw [h.t] at e1
    cases e1
  · obtain ⟨c2, e2⟩ := own_type h.c e
    rw [e1] at e2
    cases e2
theorem TurnS.tg {w5 w : World} {T gb n i : Nat} {av gv : Value} {cells vs : List Value} {ts : List (List Int)} (h : TurnS w5 T gb av gv n cells vs ts i w) (h0 : gv.ownBlock = some gb) : T ≠ gb ∧ av.ownBlock ≠ some gb ∧ av.ownBlock ≠ some T := by
  obtain ⟨c2, e2⟩ := own_type h.g h0
  refine ⟨fun e => ?_, fun e => ?_, fun e => ?_⟩
  · subst e; rw [h.t] at e2; cases e2
  · obtain ⟨c3, e3⟩ := own_type h.c e; rw [e3] at e2; cases e2
  · obtain ⟨c3, e3⟩ := own_type h.c e; have h1 := h.t; rw [e3] at h1; cases h1
theorem apart_set {vs : List Value} {q : Nat} {u v' : Value} {N : Nat} (h : Apart vs) (hu : vs[q]? = some u) (hl : ∀ (j b : Nat) (r : Value), vs[j]? = some r → r.ownBlock = some b → b < N) (hn : ∀ b, v'.ownBlock = some b → u.ownBlock = some b ∨ N ≤ b) : Apart (vs.set q v') := by
  have hq : q < vs.length := (List.getElem?_eq_some_iff.1 hu).1
  intro j k r s b hjk hj hk hr hs
  rw [List.getElem?_set] at hj hk
  by_cases e1 : q = j
  · subst e1
    rw [if_pos rfl, if_pos hq] at hj
    cases hj
    rw [if_neg hjk] at hk
    rcases hn b hr with h1 | h1
    · exact h q k u s b hjk hu hk h1 hs
    · have := hl k b s hk hs; omega
  · rw [if_neg e1] at hj
    by_cases e2 : q = k
    · subst e2
      rw [if_pos rfl, if_pos hq] at hk
      cases hk
      rcases hn b hs with h1 | h1
      · exact h j q r u b hjk hj hu hr h1
      · have := hl j b r hj hr; omega
    · rw [if_neg e2] at hk
      exact h j k r s b hjk hj hk hr hs
theorem TurnS.lt {w5 w : World} {T gb n i : Nat} {av gv : Value} {cells vs : List Value} {ts : List (List Int)} (h : TurnS w5 T gb av gv n cells vs ts i w) : ∀ (j b : Nat) (r : Value), vs[j]? = some r → r.ownBlock = some b → b < w.heap.size := by
  intro j b r hj hb
  have hl : vs.length = ts.length := by have := h.g.1; omega
  have h1 := (List.getElem?_eq_some_iff.1 hj).1
  by_cases e : j < i
  · obtain ⟨r', e', g⟩ := h.done j e (by omega)
    rw [hj] at e'; cases e'
    exact (g.2 b hb).2.1
  · obtain ⟨r', e', g⟩ := h.rest j (by omega) (by omega)
    rw [hj] at e'; cases e'
    exact (g.lt b hb).2
/-- one row written anew -/
theorem TurnS.upd {w5 w w' : World} {T gb n i i' q : Nat} {av gv : Value} {cells vs : List Value} {ts : List (List Int)} {row : List Int} {u v' : Value} (h : TurnS w5 T gb av gv n cells vs ts i w) (hgv : ∃ gs, gv = .slice (some ⟨gb, 0, none⟩) ts.length gs) (hq : q < ts.length) (hu : vs[q]? = some u)
    (hub : ∀ k, u.ownBlock = some k → w5.heap.size ≤ k ∧ ¬ (k = gb ∨ k = T ∨ av.ownBlock = some k)) (hg : w.grownBy w' u.ownBlock) (hn : ∀ b, v'.ownBlock = some b → u.ownBlock = some b ∨ w.heap.size ≤ b) (hi : ∀ j, j ≠ q → (j < i' ↔ j < i))
    (hd : q < i' → RowF w5.heap.size (fun k => k = gb ∨ k = T ∨ av.ownBlock = some k) w' v' row) (ho : i' ≤ q → w'.ownsRow w5.heap.size 3 1 v' row.length (intsV row)) :
    TurnS w5 T gb av gv n cells (vs.set q v') (ts.set q row) i' (w'.setCell ⟨gb, q, none⟩ v') := by
  obtain ⟨gs, rfl⟩ := hgv
  have h0 : (Value.slice (some ⟨gb, 0, none⟩) ts.length gs).ownBlock = some gb := rfl
  have hB : w5.heap.size ≤ gb := (h.g.lt gb rfl).1
  obtain ⟨htg, hag, haT⟩ := h.tg h0
  have hvl : vs.length = ts.length := by have := h.g.1; omega
  have hk : ∀ j, j ≠ gb → (w'.setCell ⟨gb, q, none⟩ v').heap[j]? = w'.heap[j]? := fun j hj => Below.heap_setCell _ _ _ _ hj
  have hz : (w'.setCell ⟨gb, q, none⟩ v').heap.size = w'.heap.size := by simp [World.setCell]
  have hne : ∀ {v : Value}, (∀ k, u.ownBlock = some k → v.ownBlock ≠ some k) → v.ownBlock = none ∨ v.ownBlock ≠ u.ownBlock := fun {v} hv => by
    cases e : v.ownBlock with
    | none => exact .inl rfl
    | some b => exact .inr (fun e2 => hv b e2.symm e)
  have g1 := h.g.kept hg (hne (fun k e e2 => (hub k e).2 (.inl (h.gk k e2))))
  have c1 := h.c.kept hg (hne (fun k e e2 => (hub k e).2 (.inr (.inr e2))))
  have q1 := (World.ownsRow.stored g1 q v').1
  have keep : ∀ {j : Nat} {r : Value}, j ≠ q → vs[j]? = some r → (∀ k, r.ownBlock = some k → k < w.heap.size ∧ k ≠ gb) → ∀ k, r.ownBlock = some k → (w'.setCell ⟨gb, q, none⟩ v').heap[k]? = w.heap[k]? := by
    intro j r hj hr hk2 k ek
    rw [hk k (hk2 k ek).2]
    exact hg.block k (hk2 k ek).1 (fun e => h.ap j q r u k hj hr hu ek e.symm)
  refine ⟨(h.b.grown hg h.b.size (fun k e => (hub k e).1)).setCell (p := ⟨gb, q, none⟩) hB _, SS.own_of_block c1 (fun k e => hk k (fun e2 => hag (by rw [← e2]; exact e))), by rw [List.length_set]; exact q1, h.gk,
    (hk T htg).trans ((hg.block T h.l.2 (fun e => (hub T e.symm).2 (.inr (.inl rfl)))).trans h.t), ⟨h.l.1, by rw [hz]; exact Nat.lt_of_lt_of_le h.l.2 hg.size⟩, fun j hj hjl => ?_, fun j hj hjl => ?_, apart_set h.ap hu h.lt hn⟩
  · rw [List.length_set] at hjl
    by_cases e : j = q
    · subst e
      refine ⟨v', by rw [List.getElem?_set_self (by omega)], ?_⟩
      rw [List.getElem?_set_self (by omega)]
      have hd' := hd hj
      exact hd'.keep (by rw [hz]; exact Nat.le_refl _) (fun k ek => hk k (fun e2 => (hd'.2 k ek).2.2 (.inl e2)))
    · obtain ⟨r, er, g⟩ := h.done j ((hi j e).1 hj) hjl
      refine ⟨r, by rw [List.getElem?_set_ne (fun h => e h.symm)]; exact er, ?_⟩
      rw [List.getElem?_set_ne (fun h => e h.symm)]
      exact g.keep (by rw [hz]; exact hg.size) (keep e er (fun k ek => ⟨(g.2 k ek).2.1, fun e2 => (g.2 k ek).2.2 (.inl e2)⟩))
  · rw [List.length_set] at hjl
    by_cases e : j = q
    · subst e
      refine ⟨v', by rw [List.getElem?_set_self (by omega)], ?_⟩
      rw [List.getElem?_set_self (by omega)]
      have ho' := ho hj
      refine SS.own_of_block ho' (fun k ek => hk k (fun e2 => ?_))
      obtain ⟨c2, e3⟩ := own_type ho' ek
      obtain ⟨c3, e4⟩ := own_type g1 h0
      rw [e2, e4] at e3
      cases e3
    · have hji : ¬ j < i := fun e2 => absurd ((hi j e).2 e2) (by omega)
      obtain ⟨r, er, g⟩ := h.rest j (by omega) hjl
      refine ⟨r, by rw [List.getElem?_set_ne (fun h => e h.symm)]; exact er, ?_⟩
      rw [List.getElem?_set_ne (fun h => e h.symm)]
      exact SS.own_of_block g (keep e er (fun k ek => ⟨(g.lt k ek).2, fun e2 => h.far h0 g ek (.inl e2)⟩))
/-- all rows turned: a graph -/
theorem TurnS.graph {w5 w : World} {T gb n i : Nat} {av gv : Value} {cells vs : List Value} {ts : List (List Int)} (h : TurnS w5 T gb av gv n cells vs ts i w) (hi : ts.length ≤ i) : GraphM w.heap.size w gv ts :=
  ⟨vs, cells_of_row h.g, by have := h.g.1; omega, fun j hj => by obtain ⟨r, e, g⟩ := h.done j (by omega) hj; exact ⟨r, e, g.1⟩⟩
/-- the copy, as it is made -/
theorem turnS_start {w5 w6 : World} {T gb n : Nat} {av gv : Value} {cells vs : List Value} {tq : List (List Int)} (hc : w6.ownsRow w5.heap.size 49 2 av n cells) (hg : w6.ownsRow w5.heap.size 29 1 gv tq.length vs) (hr : GG.Rows w5.heap.size w6 vs tq) (hb : Below w5.heap.size w5 w6) (ha : Apart vs)
    (hT : w6.heap.size = T) (hk : gv.ownBlock.getD 0 = gb) : TurnS w5 T gb av gv n cells vs tq 0 (w6.alloc (.cells #[av, gv] 26)) := by
  subst hT
  refine ⟨hb.alloc hb.size _, hc.alloc _, hg.alloc _, fun k e => by rw [← hk, e]; rfl, heap_alloc_new _ _, ⟨hb.size, by simp⟩, fun j h => absurd h (Nat.not_lt_zero _), fun j _ hj => ?_, ha⟩
  obtain ⟨r, e, g⟩ := (hr.alloc (.cells #[av, gv] 26)).2 j hj
  exact ⟨r, e, g⟩
/-- the second half of an owned row -/
theorem half_row {w : World} {B n m : Nat} {b cap : Nat} {xs ys : List Int} (h : w.ownsRow B 3 1 (.slice (some ⟨b, 0, none⟩) n cap) n (intsV (xs ++ ys))) (hm : ys.length = m) : Row w.heap.size w (.slice (some ⟨b, xs.length, none⟩) m (cap - xs.length)) ys := by
  have hlen : (intsV (xs ++ ys)).length = n := by have := h.1; omega
  rw [intsV_len, List.length_append] at hlen
  have hn : n ≤ cap ∧ cap ≤ maxLen := by
    rcases h.2 with ⟨e, _⟩ | ⟨g, cp, cur, e, _, _, h3, h4, _⟩
    · cases e
    · cases e; exact ⟨h3, h4⟩
  subst hm
  refine .inr ⟨b, xs.length, cap - xs.length, by rw [intsV_len], (h.lt b rfl).2, by rw [intsV_len]; omega, fun j u hj => ?_⟩
  have hj' : j < ys.length := by have := (List.getElem?_eq_some_iff.1 hj).1; rwa [intsV_len] at this
  have h3 := h.cellAt (xs.length + j) (by omega)
  rw [h3]
  unfold intsV at hj ⊢
  rw [List.map_append, List.getElem?_append_right (by rw [List.length_map]; omega), List.length_map, Nat.add_sub_cancel_left]
  exact hj
theorem cells_last {xs : List Int} {x : Int} : intsV (xs ++ [x]) = intsV xs ++ [.int .i64 x] := by simp [intsV]
/-- one number more behind a row that lies anywhere in a block of one's own -/
theorem run_append_tail {w : World} {B : Nat} {b n cap off c : Nat} {zs : List Value} (h : w.ownsRow B 3 1 (.slice (some ⟨b, 0, none⟩) n cap) n zs) {ys : List Int} (hoff : off + ys.length = n) (hc : c = cap - off) (hys : Row w.heap.size w (.slice (some ⟨b, off, none⟩) ys.length c) ys)
    (i : TypeInfo) (hi : Tryd.prog.info? 3 = some i) (hz : i.zero = some (.int .i64 0)) (hsize : i.size = 1) (hby : i.bytes = 8) (t ty : TypeId) (ht : Tryd.prog.underlying t = some (.slice 3)) {x : Int} {ad : Addr} {cx : Nat} (hx : ∀ j u, ([.int .i64 x] : List Value)[j]? = some u → w.cell? (ad.add j) = some u) (hs : ys.length ≤ 1000000) :
    ∃ v' w', (Builtin.append_ #[t, t] ty #[.slice (some ⟨b, off, none⟩) ys.length c, .slice (some ad) 1 cx]).run Tryd.prog w = .ok v' w' ∧ w.grownBy w' (some b) ∧ Row w'.heap.size w' v' (ys ++ [x]) ∧ (∃ g o c', v' = .slice (some ⟨g, o, none⟩) (ys.length + 1) c' ∧ g < w'.heap.size ∧ (g = b ∨ w.heap.size ≤ g)) := by
  have hz1 : ((.int .i64 0 : Value)).cells.size = 1 := rfl
  have hcap : n ≤ cap ∧ cap ≤ maxLen := by
    rcases h.2 with ⟨e, _⟩ | ⟨g, cp, cur, e, _, _, h3, h4, _⟩
    · cases e
    · cases e; exact ⟨h3, h4⟩
  have holds : ∀ j u, (intsV ys)[j]? = some u → w.cell? ((⟨b, off, none⟩ : Addr).add j) = some u := by
    intro j u hj
    have hj' : j < ys.length := by have := (List.getElem?_eq_some_iff.1 hj).1; rwa [intsV_len] at this
    obtain ⟨b2, o2, c2, e, _, hcl⟩ := hys.at (by omega)
    cases e
    rw [Addr.add_lit, hcl j hj', ← hj, intsV_at hj']
  by_cases hfit : ys.length + 1 ≤ c
  · obtain ⟨cur, hg⟩ := own_type h rfl
    have hcs : cur.size = cap := by
      rcases h.2 with ⟨e, _⟩ | ⟨g, cp, cur', e, _, hg', _, _, h5, _⟩
      · cases e
      · cases e
        rw [hg] at hg'
        cases hg'
        omega
    have hcell : ∀ j, j < cap → (w.cell? ⟨b, j, none⟩).isSome = true := fun j hj => by
      simp only [World.cell?, hg]
      rw [Array.getElem?_eq_getElem (by omega)]
      rfl
    have hfree : ∀ j, w.frozen? ⟨b, j, none⟩ = false := fun j => own_freeZ h j
    have hrun := run_append_room_cells (P := Tryd.prog) (w := w) t ty 3 i ht hi b off ys.length c ad 1 cx [.int .i64 x] (by rw [hsize]; rfl) hx (by intro u hu; rw [List.mem_singleton.1 hu]; rfl) hfit (fun j hj => by rw [hsize]; exact hcell _ (by simp at hj; omega)) (fun j _ => hfree _)
    rw [hsize, Nat.mul_one] at hrun
    have hk : ∀ k, k ≠ b → (w.setCells b (off + ys.length) [.int .i64 x]).heap[k]? = w.heap[k]? := fun k hk => Below.heap_setCell _ _ _ _ hk
    have hcl := World.cell?_setCells_in b [.int .i64 x] (off + ys.length) w (fun j hj => hcell _ (by simp at hj; omega))
    have hcout := fun (j : Nat) (hj : j < off + ys.length) => World.cell?_setCells_out b [.int .i64 x] (off + ys.length) w ⟨b, j, none⟩ (fun _ _ => Or.inl hj)
    have hsz : (w.setCells b (off + ys.length) [.int .i64 x]).heap.size = w.heap.size := by simp [World.setCells, World.setCell]
    refine ⟨_, _, hrun, ⟨rfl, rfl, rfl, by rw [hsz]; exact Nat.le_refl _, fun k _ hk2 => hk k (fun e => hk2 (by rw [e]))⟩, ?_, b, off, c, rfl, by rw [hsz]; exact (h.lt b rfl).2, .inl rfl⟩
    refine .inr ⟨b, off, c, by rw [intsV_len, List.length_append]; rfl, by rw [hsz]; exact (h.lt b rfl).2, by rw [intsV_len, List.length_append]; exact hfit, fun j u hj => ?_⟩
    rw [cells_last] at hj
    by_cases hjl : j < ys.length
    · rw [List.getElem?_append_left (by rw [intsV_len]; exact hjl)] at hj
      have h1 := holds j u hj
      rw [Addr.add_lit] at h1
      rw [hcout _ (by omega)]
      exact h1
    · have h1 := (List.getElem?_eq_some_iff.1 hj).1
      rw [List.length_append, intsV_len, List.length_singleton] at h1
      have e : j = ys.length := by omega
      subst e
      rw [List.getElem?_append_right (by rw [intsV_len]; exact Nat.le_refl _), intsV_len, Nat.sub_self] at hj
      have h2 := hcl 0 (by simp)
      rw [Nat.add_zero] at h2
      rw [h2]
      simpa using hj
  · obtain ⟨v', w', hrun, ho, hgr⟩ := run_append_arg_grows (P := Tryd.prog) (w := w) t ty 3 i (.int .i64 0) 1 8 ht hi hz hsize hby rfl (by decide) ⟨b, off, none⟩ ys.length c (intsV ys) (by rw [intsV_len]; omega) holds ad 1 cx [.int .i64 x] rfl hx (by omega) (by unfold maxLen; omega) (by omega)
    obtain ⟨g, c', rfl⟩ := SS.own_some ho (by omega)
    have hlt := ho.lt g rfl
    refine ⟨_, _, hrun, ⟨hgr.os, hgr.tape, hgr.output, hgr.size, fun k hk _ => hgr.block k hk (by simp)⟩, ?_, g, 0, c', rfl, hlt.2, .inr hlt.1⟩
    have h1 := cells_of_row ho
    rw [← cells_last] at h1
    exact h1
end Go.Proofs.YtkoofibhddkpiaaDoor
