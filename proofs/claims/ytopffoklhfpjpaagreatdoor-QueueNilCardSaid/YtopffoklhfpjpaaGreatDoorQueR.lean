import Derived.Test.YtopffoklhfpjpaaGreatDoorQueM
set_option linter.unusedSimpArgs false
set_option linter.unusedVariables false
/-! queue: a row of a box; how many things there are to name; which events may be -/
namespace Go.Proofs.YtopffoklhfpjpaaGreatDoor
open Go.RowKit

theorem ret_vb {v u : Value} {x y : Bool} (h : v = u) (g : x = y) : Ending.returned (.tuple #[v, .bool x]) = Ending.returned (.tuple #[u, .bool y]) := by rw [h, g]
theorem ret_vi {v u : Value} {k : IntKind} {x y : Int} (h : v = u) (g : x = y) : Ending.returned (.tuple #[v, .int k x]) = Ending.returned (.tuple #[u, .int k y]) := by rw [h, g]
/-- is there such an input, of n? -/
def inQ (n : Nat) (i : Int) : Bool := decide (0 ≤ i ∧ i < n)
/-- what an input has left, in memory; and how many -/
def rowV (n : Nat) (vs : Nat → Value) (i : Int) : Value := if 0 ≤ i ∧ i < n then vs i.toNat else .slice none 0 0
def leftI (n : Nat) (rows : Nat → List Int) (i : Int) : Int := if 0 ≤ i ∧ i < n then ((rows i.toNat).length : Int) else 0
theorem row_any {rb n c : Nat} {vs : Nat → Value} (i : Int) (w : World) (h : w.rowIs rb 29 n vs) (hn : n ≤ 4294967296) :
    Calls Tryz.prog 34 #[.slice (some ⟨rb, 0, none⟩) n c, .int .i64 i] w fun e w' => e = .returned (.tuple #[rowV n vs i, .bool (inQ n i)]) ∧ w = w' := by
  by_cases h0 : i < 0
  · have t1 : decide (i < 0) = true := decide_eq_true h0
    have HE := Lib.hid (show rowV n vs i = .slice none 0 0 ∧ inQ n i = false from ⟨if_neg (by omega), decide_eq_false (by omega)⟩)
    clear h h0
    go_enter Tryz.func34, Tryz.ntmps34
    go_wp2_with fail
    go_ret2
    exact ⟨ret_vb HE.out.1.symm HE.out.2.symm, rfl⟩
  · have t1 : decide (i < 0) = false := decide_eq_false h0
    by_cases h1 : (n : Int) ≤ i
    · have t2 : decide ((n : Int) ≤ i) = true := decide_eq_true h1
      have HE := Lib.hid (show rowV n vs i = .slice none 0 0 ∧ inQ n i = false from ⟨if_neg (by omega), decide_eq_false (by omega)⟩)
      clear h h0 h1
      go_enter Tryz.func34, Tryz.ntmps34
      go_wp2_with fail
      go_ret2
      exact ⟨ret_vb HE.out.1.symm HE.out.2.symm, rfl⟩
    · have t2 : decide ((n : Int) ≤ i) = false := decide_eq_false h1
      obtain ⟨q, rfl⟩ : ∃ q : Nat, i = q := ⟨i.toNat, by omega⟩
      have HE := Lib.hid (show rowV n vs (q : Int) = vs q ∧ inQ n (q : Int) = true from ⟨by unfold rowV; rw [if_pos (by omega)]; rfl, decide_eq_true (by omega)⟩)
      have hc := World.rowIs.cell h (show q < n by omega)
      have i1 : (0 : Int) ≤ q ∧ (q : Int) < n := by omega
      clear h h0 h1
      go_enter Tryz.func34, Tryz.ntmps34
      go_wp2_with fail
      go_ret2
      exact ⟨ret_vb HE.out.1.symm HE.out.2.symm, rfl⟩

theorem boundsOf_any (a0 a3 : Option Addr) (n0 c0 n3 c3 : Nat) (v1 v2 v4 : Value) (w : World) :
    Calls Tryz.prog 31 #[.agg #[.slice a0 n0 c0, v1, v2, .slice a3 n3 c3, v4]] w fun e w' => e = .returned (.agg #[.int .i64 n3, .int .i64 n0]) ∧ Below w.heap.size w w' := by
  go_enter Tryz.func31, Tryz.ntmps31
  go_wp2_with fail
  refine bodyPost_ret (v := .agg #[.int .i64 n3, .int .i64 n0]) (by simp [results, Tryz.results31, go_sem]) rfl ?_
  exact ⟨rfl, ((Below.refl _ _).alloc (Nat.le_refl _) _).alloc (by simp) _⟩

/-- may an event be, of so many outputs and levels? -/
def allowB (o l k r f a : Int) : Bool := decide (0 ≤ r) && decide (r < (if k = 1 then o else if k = 2 then l else 0)) && decide (0 ≤ f) && decide (0 ≤ a)

set_option maxHeartbeats 1600000 in
theorem allow_any (o l k r v f a : Int) (w : World) :
    Calls Tryz.prog 35 #[.agg #[.int .i64 o, .int .i64 l], .agg #[.int .u8 k, .int .i64 r, .int .i64 v, .int .i64 f, .int .i64 a]] w fun e w' => e = .returned (.bool (allowB o l k r f a)) ∧ Below w.heap.size w w' := by
  have HB := Lib.hid (show Below w.heap.size w ((w.alloc (.cells #[.int .i64 o, .int .i64 l] 76)).alloc (.cells #[.int .u8 k, .int .i64 r, .int .i64 v, .int .i64 f, .int .i64 a] 44)) from ((Below.refl _ _).alloc (Nat.le_refl _) _).alloc (by simp) _)
  obtain ⟨m, hm⟩ : ∃ m, m = (if k = 1 then o else if k = 2 then l else 0) := ⟨_, rfl⟩
  have hk : (k == 1) = true ∧ m = o ∨ (k == 1) = false ∧ (k == 2) = true ∧ m = l ∨ (k == 1) = false ∧ (k == 2) = false ∧ m = 0 := by
    by_cases e1 : k = 1
    · exact .inl ⟨beq_iff_eq.2 e1, by rw [hm, if_pos e1]⟩
    · by_cases e2 : k = 2
      · exact .inr (.inl ⟨beq_eq_false_iff_ne.2 e1, beq_iff_eq.2 e2, by rw [hm, if_neg e1, if_pos e2]⟩)
      · exact .inr (.inr ⟨beq_eq_false_iff_ne.2 e1, beq_eq_false_iff_ne.2 e2, by rw [hm, if_neg e1, if_neg e2]⟩)
  have hv : decide (0 ≤ r) = false ∧ allowB o l k r f a = false ∨ decide (0 ≤ r) = true ∧ decide (r < m) = false ∧ allowB o l k r f a = false ∨ decide (0 ≤ r) = true ∧ decide (r < m) = true ∧ decide (0 ≤ f) = false ∧ allowB o l k r f a = false ∨ decide (0 ≤ r) = true ∧ decide (r < m) = true ∧ decide (0 ≤ f) = true ∧ allowB o l k r f a = decide (0 ≤ a) := by
    unfold allowB
    rw [← hm]
    cases decide (0 ≤ r) <;> cases decide (r < m) <;> cases decide (0 ≤ f) <;> simp
  clear hm
  rcases hk with ⟨k1, rfl⟩ | ⟨k1, k2, rfl⟩ | ⟨k1, k2, rfl⟩ <;> rcases hv with ⟨t1, hv⟩ | ⟨t1, t2, hv⟩ | ⟨t1, t2, t3, hv⟩ | ⟨t1, t2, t3, hv⟩
  all_goals
    have HV := Lib.hid hv
    clear hv
    go_enter Tryz.func35, Tryz.ntmps35
    go_wp2_with fail
    go_ret
    exact ⟨ret_bool HV.out.symm, HB.out⟩

/-- a box: its rows, how many outputs and levels there are, its events -/
def BoxB (W : World) (kb rb n o l : Nat) (ve : Value) : Prop := W.heap[kb]? = some (.cells #[.slice (some ⟨rb, 0, none⟩) n n, .int .i64 o, .int .i64 l, ve] 79)
theorem BoxB.cells {W : World} {kb rb n o l : Nat} {ve : Value} (h : BoxB W kb rb n o l ve) : W.cell? ⟨kb, 0, none⟩ = some (.slice (some ⟨rb, 0, none⟩) n n) ∧ W.cell? ⟨kb, 1, none⟩ = some (.int .i64 o) ∧ W.cell? ⟨kb, 2, none⟩ = some (.int .i64 l) ∧ W.cell? ⟨kb, 3, none⟩ = some ve := by
  unfold BoxB at h
  simp [World.cell?, h]
theorem BoxB.lt {W : World} {kb rb n o l : Nat} {ve : Value} (h : BoxB W kb rb n o l ve) : kb < W.heap.size := heap_some_lt h

theorem left_any {B kb rb n o l : Nat} {ve : Value} {vs : Nat → Value} {rows : Nat → List Int} (i : Int) (w : World) (hb : BoxB w kb rb n o l ve) (ht : TabQ B w rb n vs rows) (hn : n ≤ 4294967296) :
    Calls Tryz.prog 14 #[.pointer (some ⟨kb, 0, none⟩), .int .i64 i] w fun e w' => e = .returned (.int .i64 (leftI n rows i)) ∧ w = w' := by
  obtain ⟨c0, _, _, _⟩ := hb.cells
  have HT := Lib.hid ht
  clear hb ht
  by_cases hi : 0 ≤ i ∧ i < n
  · obtain ⟨a, cap, hv⟩ := (HT.out.rows i.toNat (by omega)).form
    have HE := Lib.hid (show leftI n rows i = (rows i.toNat).length from if_pos hi)
    have HV := Lib.hid (show rowV n vs i = .slice a (rows i.toNat).length cap ∧ inQ n i = true from ⟨by unfold rowV; rw [if_pos hi, hv], decide_eq_true hi⟩)
    clear hi hv
    go_enter Tryz.func14, Tryz.ntmps14
    go_wp2_with (refine (row_any i _ HT.out.tab hn).mono ?_; rintro e w1 ⟨rfl, rfl⟩; rw [HV.out.1, HV.out.2])
    go_ret
    exact ⟨ret_int HE.out.symm, rfl⟩
  · have HE := Lib.hid (show leftI n rows i = 0 from if_neg hi)
    have HV := Lib.hid (show rowV n vs i = .slice none 0 0 ∧ inQ n i = false from ⟨if_neg hi, decide_eq_false hi⟩)
    clear hi
    go_enter Tryz.func14, Tryz.ntmps14
    go_wp2_with (refine (row_any i _ HT.out.tab hn).mono ?_; rintro e w1 ⟨rfl, rfl⟩; rw [HV.out.1, HV.out.2])
    go_ret
    exact ⟨ret_int HE.out.symm, rfl⟩
end Go.Proofs.YtopffoklhfpjpaaGreatDoor
