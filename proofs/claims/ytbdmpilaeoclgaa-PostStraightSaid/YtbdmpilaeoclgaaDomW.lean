import Derived.Test.YtbdmpilaeoclgaaDomI
set_option linter.unusedSimpArgs false
set_option linter.unusedVariables false
/-! dom: what the chapter's example says -/
namespace Go.Proofs.Ytbdmpilaeoclgaa
open Go.RowKit
/-- a graph of four nodes, the last one an exit, as it is written down -/
def exV (W : World) (a b c : List Int) : World := (((W.alloc (.cells (intsV a).toArray 3)).alloc (.cells (intsV b).toArray 3)).alloc (.cells (intsV c).toArray 3)).alloc (.cells #[.slice (some ⟨W.heap.size, 0, none⟩) a.length a.length, .slice (some ⟨W.heap.size + 1, 0, none⟩) b.length b.length, .slice (some ⟨W.heap.size + 1 + 1, 0, none⟩) c.length c.length, .slice none 0 0] 24)
theorem exV_size (W : World) (a b c : List Int) : (exV W a b c).heap.size = W.heap.size + 4 := by simp [exV]
theorem exV_below (W : World) (a b c : List Int) : Below W.heap.size W (exV W a b c) := ((((Below.refl _ _).alloc (Nat.le_refl _) _).alloc (by simp) _).alloc (by simp; omega) _).alloc (by simp; omega) _
theorem exV_mem (W : World) (a b c : List Int) : GraphM (exV W a b c).heap.size (exV W a b c) (.slice (some ⟨W.heap.size + 1 + 1 + 1, 0, none⟩) 4 4) [a, b, c, []] := by
  have h3 : (exV W a b c).heap[W.heap.size + 1 + 1 + 1]? = some (.cells #[.slice (some ⟨W.heap.size, 0, none⟩) a.length a.length, .slice (some ⟨W.heap.size + 1, 0, none⟩) b.length b.length, .slice (some ⟨W.heap.size + 1 + 1, 0, none⟩) c.length c.length, .slice none 0 0] 24) := by
    have := heap_alloc_new (((W.alloc (.cells (intsV a).toArray 3)).alloc (.cells (intsV b).toArray 3)).alloc (.cells (intsV c).toArray 3)) (.cells #[.slice (some ⟨W.heap.size, 0, none⟩) a.length a.length, .slice (some ⟨W.heap.size + 1, 0, none⟩) b.length b.length, .slice (some ⟨W.heap.size + 1 + 1, 0, none⟩) c.length c.length, .slice none 0 0] 24)
    simpa [exV] using this
  have h0 : (exV W a b c).heap[W.heap.size]? = some (.cells (intsV a).toArray 3) := by
    unfold exV
    rw [heap_alloc_old _ _ (by simp; omega), heap_alloc_old _ _ (by simp; omega), heap_alloc_old _ _ (by simp), heap_alloc_new]
  have h1 : (exV W a b c).heap[W.heap.size + 1]? = some (.cells (intsV b).toArray 3) := by
    unfold exV
    rw [heap_alloc_old _ _ (by simp), heap_alloc_old _ _ (by simp)]
    have := heap_alloc_new (W.alloc (.cells (intsV a).toArray 3)) (.cells (intsV b).toArray 3)
    simpa using this
  have h2 : (exV W a b c).heap[W.heap.size + 1 + 1]? = some (.cells (intsV c).toArray 3) := by
    unfold exV
    rw [heap_alloc_old _ _ (by simp)]
    have := heap_alloc_new ((W.alloc (.cells (intsV a).toArray 3)).alloc (.cells (intsV b).toArray 3)) (.cells (intsV c).toArray 3)
    simpa using this
  refine ⟨[.slice (some ⟨W.heap.size, 0, none⟩) a.length a.length, .slice (some ⟨W.heap.size + 1, 0, none⟩) b.length b.length, .slice (some ⟨W.heap.size + 1 + 1, 0, none⟩) c.length c.length, .slice none 0 0], .inr ⟨W.heap.size + 1 + 1 + 1, 0, 4, rfl, by rw [exV_size]; omega, by simp, fun j u hj => ?_⟩, rfl, fun j hj => ?_⟩
  · simp only [World.cell?, h3, Nat.zero_add]
    simpa using hj
  · match j, hj with
    | 0, _ => exact ⟨_, rfl, row_of_block h0⟩
    | 1, _ => exact ⟨_, rfl, row_of_block h1⟩
    | 2, _ => exact ⟨_, rfl, row_of_block h2⟩
    | 3, _ => exact ⟨_, rfl, cells_empty _ _ _ _ (fun _ => rfl)⟩
theorem exD_tree : DD.treeL [[1], [2], [1, 3], []] = [-1, 0, 1, 2] := by decide +kernel
theorem exD_small : Small [[1], [2], [1, 3], []] := ⟨by decide, by decide⟩
theorem exD_right : DD.TreeP [-1, 0] := by
  refine ⟨by decide, rfl, fun i hi => ?_⟩
  match i, hi with
  | 0, _ => exact .refl _
  | 1, _ => exact .one rfl
theorem exD_dom : DD.domB [-1, 0] 0 1 = true := (DD.domB_iff (xs := [-1, 0]) (a := 0) (b := 1) (DD.treeB_iff.2 exD_right) (by decide)).2 (.one rfl)
set_option maxRecDepth 100000 in
set_option maxHeartbeats 1600000 in
theorem awakeD_any (W : World) : Calls Try.prog 18 #[] W fun e W' => e = .returned (.bool true) ∧ Below W.heap.size W W' := by
  have HM := Lib.hid (exV_mem W [1] [2] [1, 3])
  have HB := Lib.hid (exV_below W [1] [2] [1, 3])
  have HS := Lib.hid exD_small
  go_enter Try.func18, Try.ntmps18
  go_wp2_with fail
  rw [show (((W.alloc (.cells #[.int .i64 1] 3)).alloc (.cells #[.int .i64 2] 3)).alloc (.cells #[.int .i64 1, .int .i64 3] 3)).alloc (.cells #[.slice (some ⟨W.heap.size, 0, none⟩) 1 1, .slice (some ⟨W.heap.size + 1, 0, none⟩) 1 1, .slice (some ⟨W.heap.size + 1 + 1, 0, none⟩) 2 2, .slice none 0 0] 24) = exV W [1] [2] [1, 3] from rfl]
  refine (tree_any _ HM.out HS.out).mono ?_
  rintro e w1 ⟨lv, rfl, hl, hB1⟩
  rw [exD_tree] at hl
  have HL1 := Lib.hid (hl.on ((Below.refl _ _).alloc (Nat.le_refl _) (.cells #[.int .i64 (-1), .int .i64 0, .int .i64 1, .int .i64 2] 3)) (by simp))
  have HB1 := Lib.hid (HB.out.trans (hB1.mono (by have := HB.out.size; omega)))
  clear hl hB1
  go_wp2_with fail
  refine (ints_any _ _ [-1, 0, 1, 2] [-1, 0, 1, 2] _ _ HL1.out (row_lits w1 [-1, 0, 1, 2] _ (by decide)) (by decide) (by decide)).mono ?_
  rintro e w2 ⟨rfl, d, rfl⟩
  rw [decide_eq_true (rfl : ([-1, 0, 1, 2] : List Int) = [-1, 0, 1, 2])]
  obtain ⟨w2, ew2⟩ : ∃ w2, w2 = (w1.alloc (.cells #[.int .i64 (-1), .int .i64 0, .int .i64 1, .int .i64 2] 3)).drewN d := ⟨_, rfl⟩
  rw [← ew2]
  have hb2 : Below w1.heap.size w1 w2 := by rw [ew2]; exact below_dN ((Below.refl _ _).alloc (Nat.le_refl _) _) d
  have HB2 := Lib.hid (bstep HB1.out hb2)
  have HR2 := Lib.hid (row_lits w2 [-1, 0] 3 (by decide))
  have HB3 := Lib.hid ((HB2.out).alloc HB2.out.size (.cells (intsV [-1, 0]).toArray 3))
  clear hb2 ew2
  go_wp2_with fail
  refine (ddom_any 0 1 _ HR2.out (by decide)).mono ?_
  rintro e w3 ⟨rfl, hb3⟩
  rw [exD_dom]
  have HB4 := Lib.hid (bstep HB3.out hb3)
  clear hb3
  go_wp2_with fail
  go_ret
  exact ⟨rfl, HB4.out⟩
end Go.Proofs.Ytbdmpilaeoclgaa
