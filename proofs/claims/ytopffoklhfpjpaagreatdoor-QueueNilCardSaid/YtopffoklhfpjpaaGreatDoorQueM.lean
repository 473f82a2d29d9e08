import Derived.Test.YtopffoklhfpjpaaGreatDoorGraM
import Derived.Test.YtopffoklhfpjpaaGreatDoorPolP
import Derived.Deep.AppendLies
import Derived.Deep.OwnRows
set_option linter.unusedSimpArgs false
set_option linter.unusedVariables false
/-! queue: rows in memory -/
namespace Go.Proofs.YtopffoklhfpjpaaGreatDoor
open Go.RowKit
theorem Tryz.infoQInt : (Tryz.prog.info? 2).map (fun i => (i.zero, i.size, i.bytes)) = some (some (.int .i64 0), 1, 8) := by kernel_rfl
theorem Tryz.infoQRow : (Tryz.prog.info? 29).map (fun i => (i.zero, i.size, i.bytes)) = some (some (.slice none 0 0), 1, 24) := by kernel_rfl
theorem Tryz.infoQBool : (Tryz.prog.info? 4).map (fun i => (i.zero, i.size, i.bytes)) = some (some (.bool false), 1, 1) := by kernel_rfl
theorem Tryz.infoQNum : (Tryz.prog.info? 3).map (fun i => (i.zero, i.size, i.bytes)) = some (some (.int .i64 0), 1, 8) := by kernel_rfl
theorem Tryz.infoQEvent : (Tryz.prog.info? 44).map (fun i => (i.zero, i.size, i.bytes)) = some (some (.agg #[.int .u8 0, .int .i64 0, .int .i64 0, .int .i64 0, .int .i64 0]), 5, 40) := by kernel_rfl

namespace QQ
theorem ownOf {w : World} {B e n size : Nat} {v : Value} {xs : List Value} (h : w.ownsRow B e size v n xs) : ∃ a cap, v = .slice a n cap := by
  rcases h.2 with ⟨rfl, rfl⟩ | ⟨g, cap, cur, rfl, _⟩
  · exact ⟨_, _, rfl⟩
  · exact ⟨_, _, rfl⟩
theorem own00 {W : World} {B e size n : Nat} {v : Value} {xs : List Value} (h : W.ownsRow B e size v (0 + n) ([] ++ xs)) : W.ownsRow B e size v n xs := by
  rw [Nat.zero_add, List.nil_append] at h; exact h
theorem oneInts (xs : List Int) : ∀ u ∈ intsV xs, u.oneCell' = true := by
  intro u hu
  obtain ⟨q, _, rfl⟩ := List.mem_map.1 hu
  rfl
theorem litRow {base e size b : Nat} (W : World) (hb : base ≤ W.heap.size) (hs : 0 < size) (h : W.heap.size = b) : (W.alloc (.cells #[] e)).ownsRow base e size (.slice (some ⟨b, 0, none⟩) 0 0) 0 [] := by
  subst h
  have := World.ownsRow_lit (base := base) (e := e) (size := size) W #[] 0 hb (by unfold maxLen; omega) (by simp)
  simpa using this
theorem dN {B : Nat} {W w : World} (h : Below B W w) (d : Nat) : Below B W (w.drewN d) := h.trans ⟨rfl, rfl, rfl, Nat.le_refl _, fun _ _ => rfl⟩
theorem step {A w w' : World} (h : Below A.heap.size A w) (g : Below w.heap.size w w') : Below A.heap.size A w' := h.trans (g.mono h.size)
end QQ

/-- integers that lie in a block of integers from B on, or none -/
def IRow (B : Nat) (W : World) (v : Value) (xs : List Int) : Prop :=
  (∃ a cap, v = .slice a 0 cap ∧ (a = none → cap = 0) ∧ xs = []) ∨
  ∃ b off cap c fr, v = .slice (some ⟨b, off, none⟩) xs.length cap ∧ B ≤ b ∧ xs.length ≤ cap ∧ W.heap[b]? = some (.cells c 2 fr) ∧ ∀ j, j < xs.length → c[off + j]? = some (.int .i64 (xs[j]?.getD 0))
theorem IRow.nil (B : Nat) (W : World) : IRow B W (.slice none 0 0) [] := .inl ⟨_, _, rfl, fun _ => rfl, rfl⟩
theorem IRow.form {B : Nat} {W : World} {v : Value} {xs : List Int} (h : IRow B W v xs) : ∃ a cap, v = .slice a xs.length cap := by
  rcases h with ⟨_, _, rfl, _, rfl⟩ | ⟨b, off, cap, c, fr, rfl, _⟩
  · exact ⟨_, _, rfl⟩
  · exact ⟨_, _, rfl⟩
/-- where no block of integers is written, a row stays -/
theorem IRow.kept {B : Nat} {W W' : World} {v : Value} {xs : List Int} (h : IRow B W v xs) (hk : ∀ k c fr, B ≤ k → W.heap[k]? = some (.cells c 2 fr) → W'.heap[k]? = W.heap[k]?) : IRow B W' v xs := by
  rcases h with h | ⟨b, off, cap, c, fr, rfl, hb, hl, hg, hc⟩
  · exact .inl h
  · exact .inr ⟨b, off, cap, c, fr, rfl, hb, hl, (hk b c fr hb hg).trans hg, hc⟩
theorem heap_some_lt {W : World} {k : Nat} {o : Obj} (h : W.heap[k]? = some o) : k < W.heap.size := (Array.getElem?_eq_some_iff.1 h).1
theorem IRow.on {B : Nat} {W W' : World} {v : Value} {xs : List Int} (h : IRow B W v xs) (hb : Below W.heap.size W W') : IRow B W' v xs :=
  h.kept fun k c fr _ hg => hb.block k (heap_some_lt hg)
theorem IRow.grown {B e n size : Nat} {W W' : World} {v u : Value} {xs : List Int} {us : List Value} {B' : Nat} (h : IRow B W v xs) (ho : W.ownsRow B' e size u n us) (hne : e ≠ 2) (hg : W.grownBy W' u.ownBlock) : IRow B W' v xs :=
  h.kept fun k c fr _ hk => hg.block k (heap_some_lt hk) (by
    intro e1
    rcases ho.2 with ⟨rfl, _⟩ | ⟨g, cap, cur, rfl, _, hgg, _⟩
    · cases e1
    · cases e1
      rw [hk] at hgg
      cases hgg
      exact hne rfl)
theorem IRow.lower {B B' : Nat} {W : World} {v : Value} {xs : List Int} (h : IRow B W v xs) (hB : B' ≤ B) : IRow B' W v xs := by
  rcases h with h | ⟨b, off, cap, c, fr, rfl, hb, rest⟩
  · exact .inl h
  · exact .inr ⟨b, off, cap, c, fr, rfl, Nat.le_trans hB hb, rest⟩
theorem IRow.drewN {B : Nat} {W : World} {v : Value} {xs : List Int} (h : IRow B W v xs) (d : Nat) : IRow B (W.drewN d) v xs := h
theorem IRow.row {B : Nat} {W : World} {v : Value} {xs : List Int} (h : IRow B W v xs) : Row W.heap.size W v xs := by
  rcases h with ⟨a, cap, rfl, hn, rfl⟩ | ⟨b, off, cap, c, fr, rfl, hb, hl, hg, hc⟩
  · exact .inl ⟨⟨a, cap, rfl, hn⟩, rfl⟩
  · refine .inr ⟨b, off, cap, by rw [intsV_len], heap_some_lt hg, by rw [intsV_len]; exact hl, fun j u hj => ?_⟩
    have hj' : j < xs.length := by
      have := (List.getElem?_eq_some_iff.1 hj).1
      rwa [intsV_len] at this
    rw [intsV_at hj'] at hj
    rw [← hj, ← hc j hj']
    simp [World.cell?, hg]
theorem IRow.of_own {B n : Nat} {W : World} {v : Value} {xs : List Int} (h : W.ownsRow B 2 1 v n (intsV xs)) : IRow B W v xs := by
  obtain ⟨hl, ⟨rfl, h0⟩ | ⟨g, cap, cur, rfl, hb, hg, hn, hm, hs, hx⟩⟩ := h
  · rw [intsV_len] at hl
    have : xs = [] := List.length_eq_zero_iff.1 (by omega)
    subst this
    exact .nil _ _
  · rw [intsV_len, Nat.mul_one] at hl
    subst hl
    refine .inr ⟨g, 0, cap, cur, _, rfl, hb, hn, hg, fun j hj => ?_⟩
    have : (cur.toList.take (xs.length * 1))[j]? = (intsV xs)[j]? := by rw [hx]
    rw [List.getElem?_take_of_lt (by omega), intsV_at hj] at this
    rw [Nat.zero_add]
    simpa using this


namespace QQ
theorem ownTypes {w : World} {B e n size B' e' n' size' : Nat} {v v' : Value} {xs xs' : List Value} (h : w.ownsRow B e size v n xs) (h' : w.ownsRow B' e' size' v' n' xs') (hne : e ≠ e') : v.ownBlock = none ∨ v.ownBlock ≠ v'.ownBlock := by
  cases hk : v.ownBlock with
  | none => exact .inl rfl
  | some k => exact .inr fun e => own_types h h' hne hk e.symm
theorem cellOne (w : World) (v : Value) (t : TypeId) {b : Nat} (h : w.heap.size = b) : ∀ (j : Nat) (u : Value), [v][j]? = some u → (w.alloc (.cells #[v] t)).cell? ((⟨b, 0, none⟩ : Addr).add j) = some u := by
  subst h
  intro j u hj
  match j, hj with
  | 0, hj => simp at hj; subst hj; simp [Addr.add]
/-- rows, each of the call's own -/
def Rows (B : Nat) (w : World) (vs : List Value) (to : List (List Int)) : Prop :=
  vs.length = to.length ∧ ∀ j, j < to.length → ∃ r, vs[j]? = some r ∧ w.ownsRow B 2 1 r (to[j]?.getD []).length (intsV (to[j]?.getD []))
theorem Rows.nil (B : Nat) (w : World) : Rows B w [] [] := ⟨rfl, fun j hj => absurd hj (Nat.not_lt_zero _)⟩
theorem Rows.alloc {B : Nat} {w : World} {vs : List Value} {to : List (List Int)} (h : Rows B w vs to) (o : Obj) : Rows B (w.alloc o) vs to :=
  ⟨h.1, fun j hj => by obtain ⟨r, e, g⟩ := h.2 j hj; exact ⟨r, e, g.alloc o⟩⟩
theorem Rows.kept {B e n size B' : Nat} {w w' : World} {vs : List Value} {to : List (List Int)} {v : Value} {xs : List Value} (h : Rows B w vs to) (ho : w.ownsRow B' e size v n xs) (hne : 2 ≠ e) (hg : w.grownBy w' v.ownBlock) : Rows B w' vs to :=
  ⟨h.1, fun j hj => by obtain ⟨r, e, g⟩ := h.2 j hj; exact ⟨r, e, g.kept hg (ownTypes g ho hne)⟩⟩
/-- .. where a row is begun that is none of these -/
theorem Rows.grown {B : Nat} {w w' : World} {vs : List Value} {to : List (List Int)} {b : Option Nat} (h : Rows B w vs to) (hg : w.grownBy w' b) (hb : ∀ k, b = some k → w.heap.size ≤ k) : Rows B w' vs to :=
  ⟨h.1, fun j hj => by
    obtain ⟨r, e, g⟩ := h.2 j hj
    refine ⟨r, e, g.kept hg ?_⟩
    cases hk : r.ownBlock with
    | none => exact .inl rfl
    | some k =>
      refine .inr fun e => ?_
      have := hb k e.symm
      have := (g.lt k hk).2
      omega⟩
theorem Rows.snoc {B : Nat} {w : World} {vs : List Value} {to : List (List Int)} {r : Value} {row : List Int} (h : Rows B w vs to) (g : w.ownsRow B 2 1 r row.length (intsV row)) : Rows B w (vs ++ [r]) (to ++ [row]) := by
  refine ⟨by simp [h.1], fun j hj => ?_⟩
  by_cases e : j < to.length
  · obtain ⟨r', e1, g'⟩ := h.2 j e
    exact ⟨r', by rw [List.getElem?_append_left (by rw [h.1]; exact e)]; exact e1, by rw [List.getElem?_append_left e]; exact g'⟩
  · have e2 : j = to.length := by simp at hj; omega
    subst e2
    exact ⟨r, by rw [← h.1]; simp, by simpa using g⟩
theorem Rows.graph {B e : Nat} {w : World} {v : Value} {vs : List Value} {to : List (List Int)} (h : Rows B w vs to) (ho : w.ownsRow B e 1 v to.length vs) : GraphM w.heap.size w v to :=
  ⟨vs, cells_of_row ho, h.1, fun j hj => by obtain ⟨r, e, g⟩ := h.2 j hj; exact ⟨r, e, cells_of_row g⟩⟩
/-- what the inner append of a copy leaves -/
theorem copy_in {B : Nat} {wr w1 : World} {W : World} {vs : List Value} {to : List (List Int)} {out v1 : Value} {row : List Int} {n : Nat} (hB : Below B W wr) (hR : Rows B wr vs to) (hO : wr.ownsRow B 29 1 out n vs) (hBs : B ≤ wr.heap.size)
    (ho : w1.ownsRow B 2 1 v1 row.length (intsV row)) (hg : (wr.alloc (.cells #[] 2)).grownBy w1 (Value.slice (some ⟨wr.heap.size, 0, none⟩) 0 0).ownBlock) :
    Rows B w1 (vs ++ [v1]) (to ++ [row]) ∧ w1.ownsRow B 29 1 out n vs ∧ Below B W w1 ∧ B ≤ w1.heap.size := by
  have hl : (Rows B w1 vs to) := by
    refine ⟨hR.1, fun j hj => ?_⟩
    obtain ⟨r, e, g⟩ := hR.2 j hj
    refine ⟨r, e, (g.alloc _).kept hg ?_⟩
    cases hk : r.ownBlock with
    | none => exact .inl rfl
    | some k =>
      refine .inr fun e => ?_
      have := (g.lt k hk).2
      simp [Value.ownBlock] at e
      omega
  refine ⟨hl.snoc ho, (hO.alloc _).kept hg ?_, (hB.alloc hBs _).grown hg (by simp; omega) (fun k e => by simp [Value.ownBlock] at e; omega), ?_⟩
  · cases hk : out.ownBlock with
    | none => exact .inl rfl
    | some k =>
      refine .inr fun e => ?_
      have := (hO.lt k hk).2
      simp [Value.ownBlock] at e
      omega
  · have := hg.size; simp at this; omega

end QQ
/-- a table of rows that the call made -/
structure TabQ (B : Nat) (W : World) (rb n : Nat) (vs : Nat → Value) (rows : Nat → List Int) : Prop where
  base : B ≤ rb
  tab : W.rowIs rb 29 n vs
  rows : ∀ j, j < n → IRow B W (vs j) (rows j)
theorem TabQ.lt {B : Nat} {W : World} {rb n : Nat} {vs : Nat → Value} {rows : Nat → List Int} (h : TabQ B W rb n vs rows) : rb < W.heap.size := World.rowIs.lt h.tab
theorem TabQ.on {B : Nat} {W W' : World} {rb n : Nat} {vs : Nat → Value} {rows : Nat → List Int} (h : TabQ B W rb n vs rows) (hb : Below W.heap.size W W') : TabQ B W' rb n vs rows :=
  ⟨h.base, World.rowIs.of_block h.tab (hb.block _ h.lt), fun j hj => (h.rows j hj).on hb⟩
theorem TabQ.congr {B : Nat} {W : World} {rb n : Nat} {vs : Nat → Value} {rows rows' : Nat → List Int} (h : TabQ B W rb n vs rows) (e : ∀ j, j < n → rows j = rows' j) : TabQ B W rb n vs rows' :=
  ⟨h.base, h.tab, fun j hj => by rw [← e j hj]; exact h.rows j hj⟩
/-- no block of integers is the table's own -/
theorem TabQ.apart {B : Nat} {W : World} {rb n : Nat} {vs : Nat → Value} {rows : Nat → List Int} (h : TabQ B W rb n vs rows) {k : Nat} {c : Array Value} {fr : Nat × Nat} (hk : W.heap[k]? = some (.cells c 2 fr)) : k ≠ rb := by
  intro e
  subst e
  obtain ⟨c', h1, _⟩ := h.tab
  rw [hk] at h1
  cases h1
theorem IRow.set {B : Nat} {W : World} {rb n : Nat} {vs : Nat → Value} {rows : Nat → List Int} {v : Value} {xs : List Int} (g : IRow B W v xs) (h : TabQ B W rb n vs rows) (i : Nat) (u : Value) : IRow B (W.setCell ⟨rb, i, none⟩ u) v xs :=
  g.kept fun k c fr _ hk => Below.heap_setCell _ _ _ _ (h.apart hk)
/-- a row of the table is set -/
theorem TabQ.set {B : Nat} {W : World} {rb n : Nat} {vs : Nat → Value} {rows : Nat → List Int} (h : TabQ B W rb n vs rows) (i : Nat) {u : Value} {xs : List Int} (g : IRow B W u xs) :
    TabQ B (W.setCell ⟨rb, i, none⟩ u) rb n (fun j => if j = i then u else vs j) (fun j => if j = i then xs else rows j) := by
  refine ⟨h.base, World.rowIs.set h.tab i u, fun j hj => ?_⟩
  by_cases e : j = i
  · simp only [if_pos e]; exact g.set h i u
  · simp only [if_neg e]; exact (h.rows j hj).set h i u
theorem TabQ.grown {B e m size B' : Nat} {W W' : World} {rb n : Nat} {vs : Nat → Value} {rows : Nat → List Int} {u : Value} {us : List Value} (h : TabQ B W rb n vs rows) (ho : W.ownsRow B' e size u m us) (hne : e ≠ 2) (hne2 : e ≠ 29) (hg : W.grownBy W' u.ownBlock) : TabQ B W' rb n vs rows := by
  refine ⟨h.base, World.rowIs.of_block h.tab (hg.block _ h.lt (fun e1 => ?_)), fun j hj => (h.rows j hj).grown ho hne hg⟩
  obtain ⟨c', h1, _⟩ := h.tab
  rcases ho.2 with ⟨rfl, _⟩ | ⟨g, cap, cur, rfl, _, hgg, _⟩
  · cases e1
  · cases e1
    rw [h1] at hgg
    cases hgg
    exact hne2 rfl
theorem TabQ.made {B : Nat} {W : World} (hB : B ≤ W.heap.size) (n : Nat) : TabQ B (W.alloc (.cells (madeCells #[.slice none 0 0] n) 29)) W.heap.size n (fun _ => .slice none 0 0) (fun _ => []) :=
  ⟨hB, World.rowIs_made W (.slice none 0 0) n 29, fun j _ => .nil _ _⟩
theorem TabQ.graph {B : Nat} {W : World} {rb n : Nat} {vs : Nat → Value} {rows : Nat → List Int} (h : TabQ B W rb n vs rows) : GraphM W.heap.size W (.slice (some ⟨rb, 0, none⟩) n n) ((List.range n).map rows) := by
  refine ⟨(List.range n).map vs, .inr ⟨rb, 0, n, by simp, h.lt, by simp, fun j u hj => ?_⟩, by simp, fun j hj => ?_⟩
  · have hjn : j < n := by
      have := (List.getElem?_eq_some_iff.1 hj).1
      simpa using this
    rw [List.getElem?_map, List.getElem?_range hjn] at hj
    have := World.rowIs.cell h.tab hjn
    rw [Nat.zero_add, this]
    exact hj
  · have hjn : j < n := by simpa using hj
    refine ⟨vs j, by rw [List.getElem?_map, List.getElem?_range hjn]; rfl, ?_⟩
    rw [List.getElem?_map, List.getElem?_range hjn]
    exact (h.rows j hjn).row
end Go.Proofs.YtopffoklhfpjpaaGreatDoor
