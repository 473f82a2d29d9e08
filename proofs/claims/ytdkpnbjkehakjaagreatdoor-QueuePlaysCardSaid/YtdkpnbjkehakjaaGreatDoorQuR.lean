import Derived.Test.YtdkpnbjkehakjaaGreatDoorGraM
import Derived.Test.YtdkpnbjkehakjaaGreatDoorPolP
import Derived.Deep.AppendLies
import Derived.Deep.OwnRows
import Derived.RegionTactic
import Derived.ChangeAlike
import Derived.BigRegion
set_option linter.unusedSimpArgs false
set_option linter.unusedVariables false
/-! queue: rows in memory -/
namespace Go.Proofs.YtdkpnbjkehakjaaGreatDoor
open Go.RowKit
theorem Tryz.infoQInt : (Tryz.prog.info? 2).map (fun i => (i.zero, i.size, i.bytes)) = some (some (.int .i64 0), 1, 8) := by kernel_rfl
theorem Tryz.infoQRow : (Tryz.prog.info? 29).map (fun i => (i.zero, i.size, i.bytes)) = some (some (.slice none 0 0), 1, 24) := by kernel_rfl
theorem Tryz.infoQBool : (Tryz.prog.info? 4).map (fun i => (i.zero, i.size, i.bytes)) = some (some (.bool false), 1, 1) := by kernel_rfl
theorem Tryz.infoQNum : (Tryz.prog.info? 3).map (fun i => (i.zero, i.size, i.bytes)) = some (some (.int .i64 0), 1, 8) := by kernel_rfl
theorem Tryz.infoQEvent : (Tryz.prog.info? 44).map (fun i => (i.zero, i.size, i.bytes)) = some (some (.agg #[.int .u8 0, .int .i64 0, .int .i64 0, .int .i64 0, .int .i64 0]), 5, 40) := by kernel_rfl

namespace QQ
theorem ownOf {w : World} {B e n size : Nat} {v : Value} {xs : List Value} (h : w.ownsRow B e size v n xs) : ∃ a cap, v = .slice a n cap := by
  rcases h.2 with ⟨rfl, rfl⟩ | ⟨g, cap, cur, rfl, _⟩
  · exact ⟨_, _, rfl⟩
  · exact ⟨_, _, rfl⟩
theorem own00 {W : World} {B e size n : Nat} {v : Value} {xs : List Value} (h : W.ownsRow B e size v (0 + n) ([] ++ xs)) : W.ownsRow B e size v n xs := by
  rw [Nat.zero_add, List.nil_append] at h; exact h
theorem oneInts (xs : List Int) : ∀ u ∈ intsV xs, u.oneCell' = true := by
  intro u hu
  obtain ⟨q, _, rfl⟩ := List.mem_map.1 hu
  rfl
theorem litRow {base e size b : Nat} (W : World) (hb : base ≤ W.heap.size) (hs : 0 < size) (h : W.heap.size = b) : (W.alloc (.cells #[] e)).ownsRow base e size (.slice (some ⟨b, 0, none⟩) 0 0) 0 [] := by
  subst h
  have := World.ownsRow_lit (base := base) (e := e) (size := size) W #[] 0 hb (by unfold maxLen; omega) (by simp)
  simpa using this
theorem dN {B : Nat} {W w : World} (h : Below B W w) (d : Nat) : Below B W (w.drewN d) := h.trans ⟨rfl, rfl, rfl, Nat.le_refl _, fun _ _ => rfl⟩
theorem step {A w w' : World} (h : Below A.heap.size A w) (g : Below w.heap.size w w') : Below A.heap.size A w' := h.trans (g.mono h.size)
end QQ

/-- integers that lie in a block of integers from B on, or none -/
def IRow (B : Nat) (W : World) (v : Value) (xs : List Int) : Prop :=
  (∃ a cap, v = .slice a 0 cap ∧ (a = none → cap = 0) ∧ xs = []) ∨
  ∃ b off cap c fr, v = .slice (some ⟨b, off, none⟩) xs.length cap ∧ B ≤ b ∧ xs.length ≤ cap ∧ W.heap[b]? = some (.cells c 2 fr) ∧ ∀ j, j < xs.length → c[off + j]? = some (.int .i64 (xs[j]?.getD 0))
theorem IRow.nil (B : Nat) (W : World) : IRow B W (.slice none 0 0) [] := .inl ⟨_, _, rfl, fun _ => rfl, rfl⟩
theorem IRow.form {B : Nat} {W : World} {v : Value} {xs : List Int} (h : IRow B W v xs) : ∃ a cap, v = .slice a xs.length cap := by
  rcases h with ⟨_, _, rfl, _, rfl⟩ | ⟨b, off, cap, c, fr, rfl, _⟩
  · exact ⟨_, _, rfl⟩
  · exact ⟨_, _, rfl⟩
/-- where no block of integers is written, a row stays -/
theorem IRow.kept {B : Nat} {W W' : World} {v : Value} {xs : List Int} (h : IRow B W v xs) (hk : ∀ k c fr, B ≤ k → W.heap[k]? = some (.cells c 2 fr) → W'.heap[k]? = W.heap[k]?) : IRow B W' v xs := by
  rcases h with h | ⟨b, off, cap, c, fr, rfl, hb, hl, hg, hc⟩
  · exact .inl h
  · exact .inr ⟨b, off, cap, c, fr, rfl, hb, hl, (hk b c fr hb hg).trans hg, hc⟩
theorem heap_some_lt {W : World} {k : Nat} {o : Obj} (h : W.heap[k]? = some o) : k < W.heap.size := (Array.getElem?_eq_some_iff.1 h).1
theorem IRow.on {B : Nat} {W W' : World} {v : Value} {xs : List Int} (h : IRow B W v xs) (hb : Below W.heap.size W W') : IRow B W' v xs :=
  h.kept fun k c fr _ hg => hb.block k (heap_some_lt hg)
theorem IRow.grown {B e n size : Nat} {W W' : World} {v u : Value} {xs : List Int} {us : List Value} {B' : Nat} (h : IRow B W v xs) (ho : W.ownsRow B' e size u n us) (hne : e ≠ 2) (hg : W.grownBy W' u.ownBlock) : IRow B W' v xs :=
  h.kept fun k c fr _ hk => hg.block k (heap_some_lt hk) (by
    intro e1
    rcases ho.2 with ⟨rfl, _⟩ | ⟨g, cap, cur, rfl, _, hgg, _⟩
    · cases e1
    · cases e1
      rw [hk] at hgg
      cases hgg
      exact hne rfl)
theorem IRow.lower {B B' : Nat} {W : World} {v : Value} {xs : List Int} (h : IRow B W v xs) (hB : B' ≤ B) : IRow B' W v xs := by
  rcases h with h | ⟨b, off, cap, c, fr, rfl, hb, rest⟩
  · exact .inl h
  · exact .inr ⟨b, off, cap, c, fr, rfl, Nat.le_trans hB hb, rest⟩
theorem IRow.drewN {B : Nat} {W : World} {v : Value} {xs : List Int} (h : IRow B W v xs) (d : Nat) : IRow B (W.drewN d) v xs := h
theorem IRow.row {B : Nat} {W : World} {v : Value} {xs : List Int} (h : IRow B W v xs) : Row W.heap.size W v xs := by
  rcases h with ⟨a, cap, rfl, hn, rfl⟩ | ⟨b, off, cap, c, fr, rfl, hb, hl, hg, hc⟩
  · exact .inl ⟨⟨a, cap, rfl, hn⟩, rfl⟩
  · refine .inr ⟨b, off, cap, by rw [intsV_len], heap_some_lt hg, by rw [intsV_len]; exact hl, fun j u hj => ?_⟩
    have hj' : j < xs.length := by
      have := (List.getElem?_eq_some_iff.1 hj).1
      rwa [intsV_len] at this
    rw [intsV_at hj'] at hj
    rw [← hj, ← hc j hj']
    simp [World.cell?, hg]
theorem IRow.of_own {B n : Nat} {W : World} {v : Value} {xs : List Int} (h : W.ownsRow B 2 1 v n (intsV xs)) : IRow B W v xs := by
  obtain ⟨hl, ⟨rfl, h0⟩ | ⟨g, cap, cur, rfl, hb, hg, hn, hm, hs, hx⟩⟩ := h
  · rw [intsV_len] at hl
    have : xs = [] := List.length_eq_zero_iff.1 (by omega)
    subst this
    exact .nil _ _
  · rw [intsV_len, Nat.mul_one] at hl
    subst hl
    refine .inr ⟨g, 0, cap, cur, _, rfl, hb, hn, hg, fun j hj => ?_⟩
    have : (cur.toList.take (xs.length * 1))[j]? = (intsV xs)[j]? := by rw [hx]
    rw [List.getElem?_take_of_lt (by omega), intsV_at hj] at this
    rw [Nat.zero_add]
    simpa using this


namespace QQ
theorem ownTypes {w : World} {B e n size B' e' n' size' : Nat} {v v' : Value} {xs xs' : List Value} (h : w.ownsRow B e size v n xs) (h' : w.ownsRow B' e' size' v' n' xs') (hne : e ≠ e') : v.ownBlock = none ∨ v.ownBlock ≠ v'.ownBlock := by
  cases hk : v.ownBlock with
  | none => exact .inl rfl
  | some k => exact .inr fun e => own_types h h' hne hk e.symm
theorem cellOne (w : World) (v : Value) (t : TypeId) {b : Nat} (h : w.heap.size = b) : ∀ (j : Nat) (u : Value), [v][j]? = some u → (w.alloc (.cells #[v] t)).cell? ((⟨b, 0, none⟩ : Addr).add j) = some u := by
  subst h
  intro j u hj
  match j, hj with
  | 0, hj => simp at hj; subst hj; simp [Addr.add]
/-- rows, each of the call's own -/
def Rows (B : Nat) (w : World) (vs : List Value) (to : List (List Int)) : Prop :=
  vs.length = to.length ∧ ∀ j, j < to.length → ∃ r, vs[j]? = some r ∧ w.ownsRow B 2 1 r (to[j]?.getD []).length (intsV (to[j]?.getD []))
theorem Rows.nil (B : Nat) (w : World) : Rows B w [] [] := ⟨rfl, fun j hj => absurd hj (Nat.not_lt_zero _)⟩
theorem Rows.alloc {B : Nat} {w : World} {vs : List Value} {to : List (List Int)} (h : Rows B w vs to) (o : Obj) : Rows B (w.alloc o) vs to :=
  ⟨h.1, fun j hj => by obtain ⟨r, e, g⟩ := h.2 j hj; exact ⟨r, e, g.alloc o⟩⟩
theorem Rows.kept {B e n size B' : Nat} {w w' : World} {vs : List Value} {to : List (List Int)} {v : Value} {xs : List Value} (h : Rows B w vs to) (ho : w.ownsRow B' e size v n xs) (hne : 2 ≠ e) (hg : w.grownBy w' v.ownBlock) : Rows B w' vs to :=
  ⟨h.1, fun j hj => by obtain ⟨r, e, g⟩ := h.2 j hj; exact ⟨r, e, g.kept hg (ownTypes g ho hne)⟩⟩
/-- .. where a row is begun that is none of these -/
theorem Rows.grown {B : Nat} {w w' : World} {vs : List Value} {to : List (List Int)} {b : Option Nat} (h : Rows B w vs to) (hg : w.grownBy w' b) (hb : ∀ k, b = some k → w.heap.size ≤ k) : Rows B w' vs to :=
  ⟨h.1, fun j hj => by
    obtain ⟨r, e, g⟩ := h.2 j hj
    refine ⟨r, e, g.kept hg ?_⟩
    cases hk : r.ownBlock with
    | none => exact .inl rfl
    | some k =>
      refine .inr fun e => ?_
      have := hb k e.symm
      have := (g.lt k hk).2
      omega⟩
theorem Rows.snoc {B : Nat} {w : World} {vs : List Value} {to : List (List Int)} {r : Value} {row : List Int} (h : Rows B w vs to) (g : w.ownsRow B 2 1 r row.length (intsV row)) : Rows B w (vs ++ [r]) (to ++ [row]) := by
  refine ⟨by simp [h.1], fun j hj => ?_⟩
  by_cases e : j < to.length
  · obtain ⟨r', e1, g'⟩ := h.2 j e
    exact ⟨r', by rw [List.getElem?_append_left (by rw [h.1]; exact e)]; exact e1, by rw [List.getElem?_append_left e]; exact g'⟩
  · have e2 : j = to.length := by simp at hj; omega
    subst e2
    exact ⟨r, by rw [← h.1]; simp, by simpa using g⟩
theorem Rows.graph {B e : Nat} {w : World} {v : Value} {vs : List Value} {to : List (List Int)} (h : Rows B w vs to) (ho : w.ownsRow B e 1 v to.length vs) : GraphM w.heap.size w v to :=
  ⟨vs, cells_of_row ho, h.1, fun j hj => by obtain ⟨r, e, g⟩ := h.2 j hj; exact ⟨r, e, cells_of_row g⟩⟩
/-- what the inner append of a copy leaves -/
theorem copy_in {B : Nat} {wr w1 : World} {W : World} {vs : List Value} {to : List (List Int)} {out v1 : Value} {row : List Int} {n : Nat} (hB : Below B W wr) (hR : Rows B wr vs to) (hO : wr.ownsRow B 29 1 out n vs) (hBs : B ≤ wr.heap.size)
    (ho : w1.ownsRow B 2 1 v1 row.length (intsV row)) (hg : (wr.alloc (.cells #[] 2)).grownBy w1 (Value.slice (some ⟨wr.heap.size, 0, none⟩) 0 0).ownBlock) :
    Rows B w1 (vs ++ [v1]) (to ++ [row]) ∧ w1.ownsRow B 29 1 out n vs ∧ Below B W w1 ∧ B ≤ w1.heap.size := by
  have hl : (Rows B w1 vs to) := by
    refine ⟨hR.1, fun j hj => ?_⟩
    obtain ⟨r, e, g⟩ := hR.2 j hj
    refine ⟨r, e, (g.alloc _).kept hg ?_⟩
    cases hk : r.ownBlock with
    | none => exact .inl rfl
    | some k =>
      refine .inr fun e => ?_
      have := (g.lt k hk).2
      simp [Value.ownBlock] at e
      omega
  refine ⟨hl.snoc ho, (hO.alloc _).kept hg ?_, (hB.alloc hBs _).grown hg (by simp; omega) (fun k e => by simp [Value.ownBlock] at e; omega), ?_⟩
  · cases hk : out.ownBlock with
    | none => exact .inl rfl
    | some k =>
      refine .inr fun e => ?_
      have := (hO.lt k hk).2
      simp [Value.ownBlock] at e
      omega
  · have := hg.size; simp at this; omega

end QQ
/-- a table of rows that the call made -/
structure TabQ (B : Nat) (W : World) (rb n : Nat) (vs : Nat → Value) (rows : Nat → List Int) : Prop where
  base : B ≤ rb
  tab : W.rowIs rb 29 n vs
  rows : ∀ j, j < n → IRow B W (vs j) (rows j)
theorem TabQ.lt {B : Nat} {W : World} {rb n : Nat} {vs : Nat → Value} {rows : Nat → List Int} (h : TabQ B W rb n vs rows) : rb < W.heap.size := World.rowIs.lt h.tab
theorem TabQ.on {B : Nat} {W W' : World} {rb n : Nat} {vs : Nat → Value} {rows : Nat → List Int} (h : TabQ B W rb n vs rows) (hb : Below W.heap.size W W') : TabQ B W' rb n vs rows :=
  ⟨h.base, World.rowIs.of_block h.tab (hb.block _ h.lt), fun j hj => (h.rows j hj).on hb⟩
theorem TabQ.congr {B : Nat} {W : World} {rb n : Nat} {vs : Nat → Value} {rows rows' : Nat → List Int} (h : TabQ B W rb n vs rows) (e : ∀ j, j < n → rows j = rows' j) : TabQ B W rb n vs rows' :=
  ⟨h.base, h.tab, fun j hj => by rw [← e j hj]; exact h.rows j hj⟩
/-- no block of integers is the table's own -/
theorem TabQ.apart {B : Nat} {W : World} {rb n : Nat} {vs : Nat → Value} {rows : Nat → List Int} (h : TabQ B W rb n vs rows) {k : Nat} {c : Array Value} {fr : Nat × Nat} (hk : W.heap[k]? = some (.cells c 2 fr)) : k ≠ rb := by
  intro e
  subst e
  obtain ⟨c', h1, _⟩ := h.tab
  rw [hk] at h1
  cases h1
theorem IRow.set {B : Nat} {W : World} {rb n : Nat} {vs : Nat → Value} {rows : Nat → List Int} {v : Value} {xs : List Int} (g : IRow B W v xs) (h : TabQ B W rb n vs rows) (i : Nat) (u : Value) : IRow B (W.setCell ⟨rb, i, none⟩ u) v xs :=
  g.kept fun k c fr _ hk => Below.heap_setCell _ _ _ _ (h.apart hk)
/-- a row of the table is set -/
theorem TabQ.set {B : Nat} {W : World} {rb n : Nat} {vs : Nat → Value} {rows : Nat → List Int} (h : TabQ B W rb n vs rows) (i : Nat) {u : Value} {xs : List Int} (g : IRow B W u xs) :
    TabQ B (W.setCell ⟨rb, i, none⟩ u) rb n (fun j => if j = i then u else vs j) (fun j => if j = i then xs else rows j) := by
  refine ⟨h.base, World.rowIs.set h.tab i u, fun j hj => ?_⟩
  by_cases e : j = i
  · simp only [if_pos e]; exact g.set h i u
  · simp only [if_neg e]; exact (h.rows j hj).set h i u
theorem TabQ.grown {B e m size B' : Nat} {W W' : World} {rb n : Nat} {vs : Nat → Value} {rows : Nat → List Int} {u : Value} {us : List Value} (h : TabQ B W rb n vs rows) (ho : W.ownsRow B' e size u m us) (hne : e ≠ 2) (hne2 : e ≠ 29) (hg : W.grownBy W' u.ownBlock) : TabQ B W' rb n vs rows := by
  refine ⟨h.base, World.rowIs.of_block h.tab (hg.block _ h.lt (fun e1 => ?_)), fun j hj => (h.rows j hj).grown ho hne hg⟩
  obtain ⟨c', h1, _⟩ := h.tab
  rcases ho.2 with ⟨rfl, _⟩ | ⟨g, cap, cur, rfl, _, hgg, _⟩
  · cases e1
  · cases e1
    rw [h1] at hgg
    cases hgg
    exact hne2 rfl
theorem TabQ.made {B : Nat} {W : World} (hB : B ≤ W.heap.size) (n : Nat) : TabQ B (W.alloc (.cells (madeCells #[.slice none 0 0] n) 29)) W.heap.size n (fun _ => .slice none 0 0) (fun _ => []) :=
  ⟨hB, World.rowIs_made W (.slice none 0 0) n 29, fun j _ => .nil _ _⟩
theorem TabQ.graph {B : Nat} {W : World} {rb n : Nat} {vs : Nat → Value} {rows : Nat → List Int} (h : TabQ B W rb n vs rows) : GraphM W.heap.size W (.slice (some ⟨rb, 0, none⟩) n n) ((List.range n).map rows) := by
  refine ⟨(List.range n).map vs, .inr ⟨rb, 0, n, by simp, h.lt, by simp, fun j u hj => ?_⟩, by simp, fun j hj => ?_⟩
  · have hjn : j < n := by
      have := (List.getElem?_eq_some_iff.1 hj).1
      simpa using this
    rw [List.getElem?_map, List.getElem?_range hjn] at hj
    have := World.rowIs.cell h.tab hjn
    rw [Nat.zero_add, this]
    exact hj
  · have hjn : j < n := by simpa using hj
    refine ⟨vs j, by rw [List.getElem?_map, List.getElem?_range hjn]; rfl, ?_⟩
    rw [List.getElem?_map, List.getElem?_range hjn]
    exact (h.rows j hjn).row
end Go.Proofs.YtdkpnbjkehakjaaGreatDoor

/-! queue: a row of a box; how many things there are to name; which events may be -/
namespace Go.Proofs.YtdkpnbjkehakjaaGreatDoor
open Go.RowKit

theorem ret_vb {v u : Value} {x y : Bool} (h : v = u) (g : x = y) : Ending.returned (.tuple #[v, .bool x]) = Ending.returned (.tuple #[u, .bool y]) := by rw [h, g]
theorem ret_vi {v u : Value} {k : IntKind} {x y : Int} (h : v = u) (g : x = y) : Ending.returned (.tuple #[v, .int k x]) = Ending.returned (.tuple #[u, .int k y]) := by rw [h, g]
/-- is there such an input, of n? -/
def inQ (n : Nat) (i : Int) : Bool := decide (0 ≤ i ∧ i < n)
/-- what an input has left, in memory; and how many -/
def rowV (n : Nat) (vs : Nat → Value) (i : Int) : Value := if 0 ≤ i ∧ i < n then vs i.toNat else .slice none 0 0
def leftI (n : Nat) (rows : Nat → List Int) (i : Int) : Int := if 0 ≤ i ∧ i < n then ((rows i.toNat).length : Int) else 0
theorem row_any {rb n c : Nat} {vs : Nat → Value} (i : Int) (w : World) (h : w.rowIs rb 29 n vs) (hn : n ≤ 4294967296) :
    Calls Tryz.prog 23 #[.slice (some ⟨rb, 0, none⟩) n c, .int .i64 i] w fun e w' => e = .returned (.tuple #[rowV n vs i, .bool (inQ n i)]) ∧ w = w' := by
  by_cases h0 : i < 0
  · have t1 : decide (i < 0) = true := decide_eq_true h0
    have HE := Lib.hid (show rowV n vs i = .slice none 0 0 ∧ inQ n i = false from ⟨if_neg (by omega), decide_eq_false (by omega)⟩)
    clear h h0
    go_enter Tryz.func23, Tryz.ntmps23
    go_wp2_with fail
    go_ret2
    exact ⟨ret_vb HE.out.1.symm HE.out.2.symm, rfl⟩
  · have t1 : decide (i < 0) = false := decide_eq_false h0
    by_cases h1 : (n : Int) ≤ i
    · have t2 : decide ((n : Int) ≤ i) = true := decide_eq_true h1
      have HE := Lib.hid (show rowV n vs i = .slice none 0 0 ∧ inQ n i = false from ⟨if_neg (by omega), decide_eq_false (by omega)⟩)
      clear h h0 h1
      go_enter Tryz.func23, Tryz.ntmps23
      go_wp2_with fail
      go_ret2
      exact ⟨ret_vb HE.out.1.symm HE.out.2.symm, rfl⟩
    · have t2 : decide ((n : Int) ≤ i) = false := decide_eq_false h1
      obtain ⟨q, rfl⟩ : ∃ q : Nat, i = q := ⟨i.toNat, by omega⟩
      have HE := Lib.hid (show rowV n vs (q : Int) = vs q ∧ inQ n (q : Int) = true from ⟨by unfold rowV; rw [if_pos (by omega)]; rfl, decide_eq_true (by omega)⟩)
      have hc := World.rowIs.cell h (show q < n by omega)
      have i1 : (0 : Int) ≤ q ∧ (q : Int) < n := by omega
      clear h h0 h1
      go_enter Tryz.func23, Tryz.ntmps23
      go_wp2_with fail
      go_ret2
      exact ⟨ret_vb HE.out.1.symm HE.out.2.symm, rfl⟩

theorem boundsOf_any (a0 a3 : Option Addr) (n0 c0 n3 c3 : Nat) (v1 v2 v4 : Value) (w : World) :
    Calls Tryz.prog 19 #[.agg #[.slice a0 n0 c0, v1, v2, .slice a3 n3 c3, v4]] w fun e w' => e = .returned (.agg #[.int .i64 n3, .int .i64 n0]) ∧ Below w.heap.size w w' := by
  go_enter Tryz.func19, Tryz.ntmps19
  go_wp2_with fail
  refine bodyPost_ret (v := .agg #[.int .i64 n3, .int .i64 n0]) (by simp [results, Tryz.results19, go_sem]) rfl ?_
  exact ⟨rfl, ((Below.refl _ _).alloc (Nat.le_refl _) _).alloc (by simp) _⟩

/-- may an event be, of so many outputs and levels? -/
def allowB (o l k r f a : Int) : Bool := decide (0 ≤ r) && decide (r < (if k = 1 then o else if k = 2 then l else 0)) && decide (0 ≤ f) && decide (0 ≤ a)

set_option maxHeartbeats 1600000 in
theorem allow_any (o l k r v f a : Int) (w : World) :
    Calls Tryz.prog 25 #[.agg #[.int .i64 o, .int .i64 l], .agg #[.int .u8 k, .int .i64 r, .int .i64 v, .int .i64 f, .int .i64 a]] w fun e w' => e = .returned (.bool (allowB o l k r f a)) ∧ Below w.heap.size w w' := by
  have HB := Lib.hid (show Below w.heap.size w ((w.alloc (.cells #[.int .i64 o, .int .i64 l] 63)).alloc (.cells #[.int .u8 k, .int .i64 r, .int .i64 v, .int .i64 f, .int .i64 a] 44)) from ((Below.refl _ _).alloc (Nat.le_refl _) _).alloc (by simp) _)
  obtain ⟨m, hm⟩ : ∃ m, m = (if k = 1 then o else if k = 2 then l else 0) := ⟨_, rfl⟩
  have hk : (k == 1) = true ∧ m = o ∨ (k == 1) = false ∧ (k == 2) = true ∧ m = l ∨ (k == 1) = false ∧ (k == 2) = false ∧ m = 0 := by
    by_cases e1 : k = 1
    · exact .inl ⟨beq_iff_eq.2 e1, by rw [hm, if_pos e1]⟩
    · by_cases e2 : k = 2
      · exact .inr (.inl ⟨beq_eq_false_iff_ne.2 e1, beq_iff_eq.2 e2, by rw [hm, if_neg e1, if_pos e2]⟩)
      · exact .inr (.inr ⟨beq_eq_false_iff_ne.2 e1, beq_eq_false_iff_ne.2 e2, by rw [hm, if_neg e1, if_neg e2]⟩)
  have hv : decide (0 ≤ r) = false ∧ allowB o l k r f a = false ∨ decide (0 ≤ r) = true ∧ decide (r < m) = false ∧ allowB o l k r f a = false ∨ decide (0 ≤ r) = true ∧ decide (r < m) = true ∧ decide (0 ≤ f) = false ∧ allowB o l k r f a = false ∨ decide (0 ≤ r) = true ∧ decide (r < m) = true ∧ decide (0 ≤ f) = true ∧ allowB o l k r f a = decide (0 ≤ a) := by
    unfold allowB
    rw [← hm]
    cases decide (0 ≤ r) <;> cases decide (r < m) <;> cases decide (0 ≤ f) <;> simp
  clear hm
  rcases hk with ⟨k1, rfl⟩ | ⟨k1, k2, rfl⟩ | ⟨k1, k2, rfl⟩ <;> rcases hv with ⟨t1, hv⟩ | ⟨t1, t2, hv⟩ | ⟨t1, t2, t3, hv⟩ | ⟨t1, t2, t3, hv⟩
  all_goals
    have HV := Lib.hid hv
    clear hv
    go_enter Tryz.func25, Tryz.ntmps25
    go_wp2_with fail
    go_ret
    exact ⟨ret_bool HV.out.symm, HB.out⟩

/-- a box: its rows, how many outputs and levels there are, its events -/
def BoxB (W : World) (kb rb n o l : Nat) (ve : Value) : Prop := W.heap[kb]? = some (.cells #[.slice (some ⟨rb, 0, none⟩) n n, .int .i64 o, .int .i64 l, ve] 66)
theorem BoxB.cells {W : World} {kb rb n o l : Nat} {ve : Value} (h : BoxB W kb rb n o l ve) : W.cell? ⟨kb, 0, none⟩ = some (.slice (some ⟨rb, 0, none⟩) n n) ∧ W.cell? ⟨kb, 1, none⟩ = some (.int .i64 o) ∧ W.cell? ⟨kb, 2, none⟩ = some (.int .i64 l) ∧ W.cell? ⟨kb, 3, none⟩ = some ve := by
  unfold BoxB at h
  simp [World.cell?, h]
theorem BoxB.lt {W : World} {kb rb n o l : Nat} {ve : Value} (h : BoxB W kb rb n o l ve) : kb < W.heap.size := heap_some_lt h

theorem left_any {B kb rb n o l : Nat} {ve : Value} {vs : Nat → Value} {rows : Nat → List Int} (i : Int) (w : World) (hb : BoxB w kb rb n o l ve) (ht : TabQ B w rb n vs rows) (hn : n ≤ 4294967296) :
    Calls Tryz.prog 11 #[.pointer (some ⟨kb, 0, none⟩), .int .i64 i] w fun e w' => e = .returned (.int .i64 (leftI n rows i)) ∧ w = w' := by
  obtain ⟨c0, _, _, _⟩ := hb.cells
  have HT := Lib.hid ht
  clear hb ht
  by_cases hi : 0 ≤ i ∧ i < n
  · obtain ⟨a, cap, hv⟩ := (HT.out.rows i.toNat (by omega)).form
    have HE := Lib.hid (show leftI n rows i = (rows i.toNat).length from if_pos hi)
    have HV := Lib.hid (show rowV n vs i = .slice a (rows i.toNat).length cap ∧ inQ n i = true from ⟨by unfold rowV; rw [if_pos hi, hv], decide_eq_true hi⟩)
    clear hi hv
    go_enter Tryz.func11, Tryz.ntmps11
    go_wp2_with (refine (row_any i _ HT.out.tab hn).mono ?_; rintro e w1 ⟨rfl, rfl⟩; rw [HV.out.1, HV.out.2])
    go_ret
    exact ⟨ret_int HE.out.symm, rfl⟩
  · have HE := Lib.hid (show leftI n rows i = 0 from if_neg hi)
    have HV := Lib.hid (show rowV n vs i = .slice none 0 0 ∧ inQ n i = false from ⟨if_neg hi, decide_eq_false hi⟩)
    clear hi
    go_enter Tryz.func11, Tryz.ntmps11
    go_wp2_with (refine (row_any i _ HT.out.tab hn).mono ?_; rintro e w1 ⟨rfl, rfl⟩; rw [HV.out.1, HV.out.2])
    go_ret
    exact ⟨ret_int HE.out.symm, rfl⟩
end Go.Proofs.YtdkpnbjkehakjaaGreatDoor

/-! queue: the rows of inputs -/
namespace Go.Proofs.YtdkpnbjkehakjaaGreatDoor
open Go.RowKit
def rowAt (to : List (List Int)) (j : Nat) : List Int := to[j]?.getD []
/-- may inputs be, of so many? -/
def fillOk (n : Nat) (to : List (List Int)) : Bool := decide (to.length ≤ n) && to.all (fun l => decide (l.length ≤ 4096))
def partAt (to : List (List Int)) (i j : Nat) : List Int := if j < i then rowAt to j else []
theorem fill_no {n : Nat} {to : List (List Int)} {i : Nat} (hi : i < to.length) (h : 4096 < (rowAt to i).length) : fillOk n to = false := by
  cases e : fillOk n to with
  | false => rfl
  | true =>
    unfold fillOk at e
    rw [Bool.and_eq_true, List.all_eq_true] at e
    have h2 := of_decide_eq_true (e.2 _ (List.getElem_mem hi))
    unfold rowAt at h
    rw [List.getElem?_eq_getElem hi, Option.getD_some] at h
    omega
theorem fill_yes {n : Nat} {to : List (List Int)} (hn : to.length ≤ n) (h : ∀ j, j < to.length → (rowAt to j).length ≤ 4096) : fillOk n to = true := by
  unfold fillOk
  rw [Bool.and_eq_true, List.all_eq_true]
  refine ⟨decide_eq_true hn, fun x hx => decide_eq_true ?_⟩
  obtain ⟨j, hj, rfl⟩ := List.getElem_of_mem hx
  have := h j hj
  unfold rowAt at this
  rwa [List.getElem?_eq_getElem hj, Option.getD_some] at this
theorem fill_len {n : Nat} {to : List (List Int)} (h : fillOk n to = true) : to.length ≤ n := by
  unfold fillOk at h
  rw [Bool.and_eq_true] at h
  exact of_decide_eq_true h.1
theorem fill_row {n : Nat} {to : List (List Int)} (h : fillOk n to = true) (j : Nat) : (rowAt to j).length ≤ 4096 := by
  unfold fillOk at h
  rw [Bool.and_eq_true, List.all_eq_true] at h
  unfold rowAt
  cases e : to[j]? with
  | none => simp
  | some x => exact of_decide_eq_true (h.2 x (List.mem_of_getElem? e))
theorem part_set (to : List (List Int)) (i j : Nat) : (if j = i then rowAt to i else partAt to i j) = partAt to (i + 1) j := by
  unfold partAt
  by_cases e : j = i
  · subst e; rw [if_pos rfl, if_pos (by omega)]
  · rw [if_neg e]
    by_cases e2 : j < i
    · rw [if_pos e2, if_pos (by omega)]
    · rw [if_neg e2, if_neg (by omega)]
theorem part_all (to : List (List Int)) (j : Nat) : partAt to to.length j = rowAt to j := by
  unfold partAt rowAt
  split
  · rfl
  · rw [List.getElem?_eq_none (by omega)]; rfl
def FillE (n : Nat) (to : List (List Int)) (e : Ending) (w w' : World) : Prop :=
  Below w.heap.size w w' ∧ ((fillOk n to = true ∧ ∃ rb vs, e = .returned (.tuple #[.slice (some ⟨rb, 0, none⟩) n n, .bool true]) ∧ TabQ w.heap.size w' rb n vs (rowAt to)) ∨ (fillOk n to = false ∧ e = .returned (.tuple #[.slice none 0 0, .bool false])))
/-- a row is copied -/
theorem fill_step {B : Nat} {W wr w1 : World} {rb n m i : Nat} {vs : Nat → Value} {rows : Nat → List Int} {v : Value} {r : List Int} (hT : TabQ B wr rb n vs rows) (hB : Below B W wr) (hs : B ≤ wr.heap.size) (hi : i < n) (ho : w1.ownsRow B 2 1 v (0 + m) ([] ++ intsV r)) (hg : wr.grownBy w1 (Value.slice none 0 0).ownBlock) :
    w1.cell? ⟨rb, i, none⟩ = some (vs i) ∧ w1.frozen? ⟨rb, i, none⟩ = false ∧ TabQ B (w1.setCell ⟨rb, i, none⟩ v) rb n (fun j => if j = i then v else vs j) (fun j => if j = i then r else rows j) ∧ Below B W (w1.setCell ⟨rb, i, none⟩ v) := by
  have hb : Below wr.heap.size wr w1 := ⟨hg.os, hg.tape, hg.output, hg.size, fun k hk => hg.block k hk (fun e => by cases e)⟩
  have h1 := hT.on hb
  exact ⟨World.rowIs.cell h1.tab hi, World.rowIs.frozen h1.tab i, h1.set i (IRow.of_own (QQ.own00 ho)), (hB.trans (hb.mono hs)).setCell hT.base _⟩

set_option maxRecDepth 100000 in
set_option maxHeartbeats 3200000 in
theorem fill_any (v0 v1 v3 v4 : Value) (a2 : Option Addr) (n c2 : Nat) (a : Value) (to : List (List Int)) (w : World) (hn : n ≤ 4294967296) (ha : GraphM w.heap.size w a to) (hx : Small to) :
    Calls Tryz.prog 18 #[.agg #[v0, v1, .slice a2 n c2, v3, v4], a] w fun e w' => FillE n to e w w' := by
  obtain ⟨aa, ca, rfl⟩ := ha.form
  obtain ⟨i0, hi, hz0, hz1, hz2⟩ := info_parts Tryz.infoQInt
  have HA := Lib.hid ha
  have HX := Lib.hid hx
  have hx0 := hx.1
  have HB0 := Lib.hid ((Below.refl w.heap.size w).alloc (Nat.le_refl _) (.cells #[v0, v1, .slice a2 n c2, v3, v4] 26))
  clear ha hx
  by_cases h0 : n < to.length
  · have t1 : decide (n < to.length) = true := decide_eq_true h0
    have HF := Lib.hid (show fillOk n to = false by unfold fillOk; rw [decide_eq_false (by omega)]; rfl)
    clear h0
    go_enter Tryz.func18, Tryz.ntmps18
    go_wp2_with fail
    go_ret2
    exact ⟨HB0.out, .inr ⟨HF.out, rfl⟩⟩
  · have t1 : decide (n < to.length) = false := decide_eq_false h0
    have h0' : to.length ≤ n := by omega
    have hmk := run_make_row' (P := Tryz.prog) 59 29 (.slice none 0 0) 24 (by kernel_rfl) Tryz.infoQRow rfl .i64 .i64 n (by omega) (by omega)
    have H1 := Lib.hid (show TabQ w.heap.size ((w.alloc (.cells #[v0, v1, .slice a2 n c2, v3, v4] 26)).alloc (.cells (madeCells #[.slice none 0 0] n) 29)) (w.heap.size + 1) n (fun _ => .slice none 0 0) (fun _ => []) by
      have h := TabQ.made (B := w.heap.size) (W := w.alloc (.cells #[v0, v1, .slice a2 n c2, v3, v4] 26)) (by simp) n
      have e : (w.alloc (.cells #[v0, v1, .slice a2 n c2, v3, v4] 26)).heap.size = w.heap.size + 1 := by simp
      rw [e] at h
      exact h)
    have HB1 := Lib.hid (HB0.out.alloc HB0.out.size (.cells (madeCells #[.slice none 0 0] n) 29))
    clear h0
    go_enter Tryz.func18, Tryz.ntmps18
    go_wp2_with fail
    clear hmk
    go_loopw [21] (fun k wr => ∃ (i : Nat) (vs : Nat → Value), i ≤ to.length ∧ k = .int .i64 (i : Int) ∧ TabQ w.heap.size wr (w.heap.size + 1) n vs (partAt to i) ∧ Below w.heap.size w wr ∧ RowKit.Hid (∀ j, j < i → (rowAt to j).length ≤ 4096)) (fun k _ => to.length - (intOf k).toNat)
    case atStart => exact ⟨0, _, by omega, rfl, H1.out.congr (fun j _ => by unfold partAt; rw [if_neg (Nat.not_lt_zero _)]), HB1.out, Lib.hid (fun j hj => absurd hj (Nat.not_lt_zero _))⟩
    case round =>
      obtain ⟨i, vs, hi', rfl, hT, hB, HS⟩ := hrel
      have HT := Lib.hid hT
      have HB := Lib.hid hB
      clear hT hB H1 HB1
      by_cases hlt : i < to.length
      · obtain ⟨xb, xo, xc, e1⟩ := HA.out.addr (by omega)
        cases e1
        obtain ⟨ra, rac, hx1, hrx⟩ := (HA.out.below HB.out).at hlt
        have i1 : (0 : Int) ≤ i ∧ (i : Int) < to.length := by omega
        have i2 : (0 : Int) ≤ i ∧ (i : Int) < n := by omega
        have HNO := Lib.hid (fun h => fill_no (n := n) hlt h)
        have HP := Lib.hid (part_set to i)
        have HSN := Lib.hid (fun (h : (rowAt to i).length ≤ 4096) (j : Nat) (hj : j < i + 1) => (Nat.lt_succ_iff_lt_or_eq.1 hj).elim (HS.out j) (fun e => by rw [e]; exact h))
        obtain ⟨r, er⟩ : ∃ r, r = rowAt to i := ⟨_, rfl⟩
        change wr.cell? _ = some (.slice ra (rowAt to i).length rac) at hx1
        change Row w.heap.size wr (.slice ra (rowAt to i).length rac) (rowAt to i) at hrx
        rw [← er] at hx1 hrx HNO HP HSN
        have HRX := Lib.hid (Cells.src (show Cells w.heap.size wr (.slice ra r.length rac) (intsV r) from hrx))
        clear er hrx
        by_cases hr : 4096 < r.length
        · have t2 : decide (4096 < r.length) = true := decide_eq_true hr
          have t3 : decide ((4096 : Int) < (r.length : Int)) = true := decide_eq_true (by omega)
          have HN := Lib.hid (HNO.out hr)
          clear hr
          go_wp2_with fail
          go_ret2
          exact ⟨HB.out, .inr ⟨HN.out, rfl⟩⟩
        · have t2 : decide (4096 < r.length) = false := decide_eq_false hr
          have t3 : decide ((4096 : Int) < (r.length : Int)) = false := decide_eq_false (by omega)
          have hr' : r.length ≤ 4096 := by omega
          have HSS := Lib.hid (HSN.out hr')
          clear hr
          go_wp2_with (first
            | (at_builtin
               go_loud (
               refine wpList_append_any rfl _ _ 29 rfl w.heap.size 2 i0 (.int .i64 0) 1 8 Tryz.underlying29 hi hz0 hz1 hz2 rfl (by decide) (.slice none 0 0) 0 [] rfl (World.ownsRow_nil _ _ _ _) (.slice ra r.length rac) r.length (intsV r) rfl (by rw [intsV_len, Nat.mul_one]) (by have h := HRX.out; rw [intsV_len] at h; exact h) (QQ.oneInts r) (by unfold maxLen; omega) (by omega) (by have := HB.out.size; omega) ?_
               intro v1 w1 ho hg
               obtain ⟨va, vc, rfl⟩ := QQ.ownOf (QQ.own00 ho)
               have HD := Lib.hid (fill_step (i := i) HT.out HB.out HB.out.size (by omega) ho hg)
               have hcw := HD.out.1
               have hfw := HD.out.2.1
               clear ho hg)))
          go_roundw
          case rel => exact ⟨i + 1, _, by omega, by go_num, HD.out.2.2.1.congr (fun j _ => HP.out j), HD.out.2.2.2, HSS⟩
          case measure => simp [intOf]; omega
      · have HF := Lib.hid (show fillOk n to = true from fill_yes h0' (fun j hj => HS.out j (by omega)))
        have HE := Lib.hid (show TabQ w.heap.size wr (w.heap.size + 1) n vs (rowAt to) from HT.out.congr (fun j _ => by rw [show i = to.length by omega]; exact part_all to j))
        go_wp2_with fail
        go_ret2
        exact ⟨HB.out, .inl ⟨HF.out, _, _, rfl, HE.out⟩⟩
end Go.Proofs.YtdkpnbjkehakjaaGreatDoor

/-! queue: taking an input's next number -/
namespace Go.Proofs.YtdkpnbjkehakjaaGreatDoor
open Go.RowKit
theorem IRow.at {B : Nat} {W : World} {v : Value} {xs : List Int} (h : IRow B W v xs) (h0 : 0 < xs.length) :
    ∃ b off cap, v = .slice (some ⟨b, off, none⟩) xs.length cap ∧ xs.length ≤ cap ∧ (∃ c fr, W.heap[b]? = some (.cells c 2 fr)) ∧ W.cell? ⟨b, off, none⟩ = some (.int .i64 (xs[0]?.getD 0)) ∧
      IRow B W (.slice (if cap = 1 then some ⟨b, off, none⟩ else some ⟨b, off + 1, none⟩) (xs.length - 1) (cap - 1)) xs.tail := by
  rcases h with ⟨_, _, rfl, _, rfl⟩ | ⟨b, off, cap, c, fr, rfl, hb, hl, hg, hc⟩
  · simp at h0
  · refine ⟨b, off, cap, rfl, hl, ⟨c, fr, hg⟩, ?_, ?_⟩
    · have := hc 0 h0
      simp [World.cell?, hg]
      simpa using this
    · by_cases h1 : cap = 1
      · have h2 : xs.length = 1 := by omega
        rw [if_pos h1, h2]
        exact .inl ⟨_, _, rfl, (fun e => by cases e), List.eq_nil_of_length_eq_zero (by rw [List.length_tail]; omega)⟩
      rw [if_neg h1]
      refine .inr ⟨b, off + 1, cap - 1, c, fr, by rw [List.length_tail], hb, by rw [List.length_tail]; omega, hg, fun j hj => ?_⟩
      rw [List.length_tail] at hj
      have := hc (j + 1) (by omega)
      rw [show off + 1 + j = off + (j + 1) by omega, this, List.getElem?_tail]
theorem TabQ.drew {B : Nat} {W : World} {rb n : Nat} {vs : Nat → Value} {rows : Nat → List Int} (h : TabQ B W rb n vs rows) : TabQ B W.drew rb n vs rows := ⟨h.base, h.tab, h.rows⟩
/-- what taking leaves: one row is shorter -/
def tailAt (rows : Nat → List Int) (q j : Nat) : List Int := if j = q then (rows q).tail else rows j
def TakeE (B : Nat) (kb rb n o l : Nat) (ve : Value) (rows : Nat → List Int) (i : Int) (e : Ending) (w w' : World) : Prop :=
  if 0 ≤ i ∧ i < n then
    if (rows i.toNat).length = 0 then e = .returned (.tuple #[.int .i64 0, .int .i64 23]) ∧ w' = w
    else e = .returned (.tuple #[.int .i64 ((rows i.toNat)[0]?.getD 0), .int .i64 0]) ∧ w.grownBy w' (some rb) ∧ w'.heap.size = w.heap.size ∧ BoxB w' kb rb n o l ve ∧ ∃ vs, TabQ B w' rb n vs (tailAt rows i.toNat)
  else e = .returned (.tuple #[.int .i64 0, .int .i64 1]) ∧ w' = w

set_option maxRecDepth 100000 in
set_option maxHeartbeats 1600000 in
theorem take_any {B kb rb n o l : Nat} {ve : Value} {vs : Nat → Value} {rows : Nat → List Int} (i : Int) (w : World) (hb : BoxB w kb rb n o l ve) (ht : TabQ B w rb n vs rows) (hn : n ≤ 4294967296) :
    Calls Tryz.prog 9 #[.pointer (some ⟨kb, 0, none⟩), .int .i64 i] w fun e w' => TakeE B kb rb n o l ve rows i e w w' := by
  obtain ⟨c0, _, _, _⟩ := hb.cells
  have HT := Lib.hid ht
  have HBX := Lib.hid hb
  clear hb ht
  by_cases hi : 0 ≤ i ∧ i < n
  · obtain ⟨q, rfl⟩ : ∃ q : Nat, i = q := ⟨i.toNat, by omega⟩
    have hq : q < n := by omega
    by_cases h0 : (rows q).length = 0
    · obtain ⟨a, cap, hv⟩ := (HT.out.rows q hq).form
      have HE := Lib.hid (fun e w' => show TakeE B kb rb n o l ve rows (q : Int) e w w' ↔ e = .returned (.tuple #[.int .i64 0, .int .i64 23]) ∧ w' = w by unfold TakeE; rw [if_pos hi, if_pos (by simpa using h0)])
      have HV := Lib.hid (show rowV n vs q = .slice a 0 cap ∧ inQ n q = true from ⟨by unfold rowV; rw [if_pos hi, ← h0]; exact hv, decide_eq_true hi⟩)
      clear hi hv h0
      go_enter Tryz.func9, Tryz.ntmps9
      go_wp2_with (refine (row_any q _ HT.out.tab hn).mono ?_; rintro e w1 ⟨rfl, rfl⟩; rw [HV.out.1, HV.out.2])
      go_ret2
      exact (HE.out _ _).2 ⟨rfl, rfl⟩
    · obtain ⟨b, off, cap, hv, hcap, ⟨cb, fr, hgb⟩, hcell, htl⟩ := (HT.out.rows q hq).at (by omega)
      have HNE := Lib.hid (HT.out.apart hgb)
      have HKB := Lib.hid (show kb ≠ rb from fun e => by
        obtain ⟨c', h1, _⟩ := HT.out.tab
        have h2 := HBX.out
        unfold BoxB at h2
        rw [e, h1] at h2
        cases h2)
      have HE := Lib.hid (fun e w' => show TakeE B kb rb n o l ve rows (q : Int) e w w' ↔ e = .returned (.tuple #[.int .i64 ((rows q)[0]?.getD 0), .int .i64 0]) ∧ w.grownBy w' (some rb) ∧ w'.heap.size = w.heap.size ∧ BoxB w' kb rb n o l ve ∧ ∃ vs, TabQ B w' rb n vs (tailAt rows q) by unfold TakeE; rw [if_pos hi, if_neg (by simpa using h0)]; rfl)
      obtain ⟨m, hm⟩ : ∃ m, m = (rows q).length := ⟨_, rfl⟩
      have hm0 : 0 < m := by omega
      rw [← hm] at hv hcap htl
      have HV := Lib.hid (show rowV n vs q = .slice (some ⟨b, off, none⟩) m cap ∧ inQ n q = true from ⟨by unfold rowV; rw [if_pos hi]; exact hv, decide_eq_true hi⟩)
      have t0 : ((m : Int) == 0) = false := by rw [beq_eq_false_iff_ne]; omega
      have i1 : (0 : Int) ≤ q ∧ (q : Int) < n := hi
      have i2 : (0 : Int) < m := by omega
      have hcq := World.rowIs.cell HT.out.tab hq
      have hfq := World.rowIs.frozen HT.out.tab q
      obtain ⟨u, hu⟩ : ∃ u, u = Value.slice (if cap = 1 then some (⟨b, off, none⟩ : Addr) else some ⟨b, off + 1, none⟩) (m - 1) (cap - 1) := ⟨_, rfl⟩
      rw [← hu] at htl
      have HU := Lib.hid hu
      have HTL := Lib.hid htl
      have HC := Lib.hid hcell
      have hcw : (w.setCell ⟨rb, q, none⟩ u).drew.cell? ⟨b, off, none⟩ = some (.int .i64 ((rows q)[0]?.getD 0)) := (World.cell?_of_block (a := ⟨b, off, none⟩) (Below.heap_setCell _ _ _ _ HNE.out)).trans HC.out
      have HN := Lib.hid (show w.grownBy (w.setCell ⟨rb, q, none⟩ u).drew (some rb) ∧ (w.setCell ⟨rb, q, none⟩ u).drew.heap.size = w.heap.size ∧ BoxB (w.setCell ⟨rb, q, none⟩ u).drew kb rb n o l ve ∧ ∃ vs, TabQ B (w.setCell ⟨rb, q, none⟩ u).drew rb n vs (tailAt rows q) from
        ⟨⟨rfl, rfl, rfl, by simp, fun k hk hne => Below.heap_setCell _ _ _ _ (fun e => hne (by rw [e]))⟩, by simp, (Below.heap_setCell _ _ _ _ HKB.out).trans HBX.out, _, ((HT.out.set q HTL.out).congr fun j hj => rfl).drew⟩)
      clear hi h0 hm hu htl hcell hgb
      go_enter Tryz.func9, Tryz.ntmps9
      go_wp2_with (refine (row_any q _ HT.out.tab hn).mono ?_; rintro e w1 ⟨rfl, rfl⟩; rw [HV.out.1, HV.out.2])
      go_region
      rw [← HU.out]
      generalize (w.setCell ⟨rb, q, none⟩ u).drew = W1 at hcw HN ⊢
      go_wp2_with fail
      go_ret2
      exact (HE.out _ _).2 ⟨rfl, HN.out⟩
  · have HE := Lib.hid (fun e w' => show TakeE B kb rb n o l ve rows i e w w' ↔ e = .returned (.tuple #[.int .i64 0, .int .i64 1]) ∧ w' = w by unfold TakeE; rw [if_neg hi])
    have HV := Lib.hid (show rowV n vs i = .slice none 0 0 ∧ inQ n i = false from ⟨if_neg hi, decide_eq_false hi⟩)
    clear hi
    go_enter Tryz.func9, Tryz.ntmps9
    go_wp2_with (refine (row_any i _ HT.out.tab hn).mono ?_; rintro e w1 ⟨rfl, rfl⟩; rw [HV.out.1, HV.out.2])
    go_ret2
    exact (HE.out _ _).2 ⟨rfl, rfl⟩
end Go.Proofs.YtdkpnbjkehakjaaGreatDoor
