import Derived.Test.YtbdmpilaeoclgaaGraY
set_option linter.unusedSimpArgs false
set_option linter.unusedVariables false
/-! graphs: the reference's Order; what the chapter's example says -/
namespace Go.Proofs.Ytbdmpilaeoclgaa
open Go.RowKit
theorem GraphM.far {n : Nat} {W W' : World} {v : Value} {to : List (List Int)} (h : GraphM n W v to) (hb : Below n W W') (hn : n ≤ W'.heap.size) : GraphM W'.heap.size W' v to := h.on hb hn
theorem below_dN {B : Nat} {W w : World} (h : Below B W w) (d : Nat) : Below B W (w.drewN d) := h.trans ⟨rfl, rfl, rfl, Nat.le_refl _, fun _ _ => rfl⟩
theorem ast_new (W : World) (n : Nat) : ASt W n ((fun _ => false), []) (.slice none 0 0) (W.alloc (.cells (madeCells #[.bool false] n) 4)) :=
  ⟨World.rowIs_made W (.bool false) n 4, World.ownsRow_nil _ _ _ _, (Below.refl _ _).alloc (Nat.le_refl _) _, by simp⟩
theorem int_eq {k : IntKind} {a b : Int} (h : a = b) : Value.int k a = .int k b := by rw [h]
theorem run_dfs (adj : Nat → List Nat) : GG.runG adj [0] = GG.dfs adj 257 0 ((fun _ => false), []) := rfl
theorem rev_take {l : List Int} {j : Nat} (hj : j < l.length) : l.reverse.take j ++ [l[l.length - 1 - j]?.getD 0] = l.reverse.take (j + 1) := by
  have h1 : j < l.reverse.length := by simpa using hj
  rw [List.take_succ_eq_append_getElem h1, List.getElem_reverse, List.getElem?_eq_getElem (by omega)]
  rfl
/-- the example's graph -/
def exG : List (List Int) := [[1, 2], [3], [3], []]
theorem exG_right : GG.rightG exG = true := by decide +kernel
theorem exG_order : orderE exG = [0, 2, 1, 3] := by decide +kernel
theorem exG_back : (backE exG).length = 4 := by decide +kernel
theorem exG_small : Small exG := ⟨by decide, by decide⟩
theorem row_lits (W : World) (xs : List Int) (t : TypeId) (h : 0 < xs.length) : Row (W.alloc (.cells (intsV xs).toArray t)).heap.size (W.alloc (.cells (intsV xs).toArray t)) (.slice (some ⟨W.heap.size, 0, none⟩) xs.length xs.length) xs :=
  .inr ⟨W.heap.size, 0, xs.length, by rw [intsV_len], by simp, by rw [intsV_len]; exact Nat.le_refl _, fun j u hj => by
    simp only [World.cell?, heap_alloc_new, Nat.zero_add]
    simpa using hj⟩
theorem Row.on {n : Nat} {W W' : World} {v : Value} {xs : List Int} (h : Row n W v xs) (hb : Below n W W') (hn : n ≤ W'.heap.size) : Row W'.heap.size W' v xs := (h.below hb).mono hn
theorem BRow.on {n : Nat} {W W' : World} {v : Value} {xs : List Bool} (h : BRow n W v xs) (hb : Below n W W') (hn : n ≤ W'.heap.size) : BRow W'.heap.size W' v xs := (h.below hb).mono hn
/-- the example in memory -/
def exW (W : World) : World := (((W.alloc (.cells #[.int .i64 1, .int .i64 2] 3)).alloc (.cells #[.int .i64 3] 3)).alloc (.cells #[.int .i64 3] 3)).alloc (.cells #[.slice (some ⟨W.heap.size, 0, none⟩) 2 2, .slice (some ⟨W.heap.size + 1, 0, none⟩) 1 1, .slice (some ⟨W.heap.size + 1 + 1, 0, none⟩) 1 1, .slice none 0 0] 24)
theorem exW_size (W : World) : (exW W).heap.size = W.heap.size + 4 := by simp [exW]
theorem exW_below (W : World) : Below W.heap.size W (exW W) := ((((Below.refl _ _).alloc (Nat.le_refl _) _).alloc (by simp) _).alloc (by simp; omega) _).alloc (by simp; omega) _
theorem row_of_block {W : World} {b : Nat} {xs : List Int} {t : TypeId} (h : W.heap[b]? = some (.cells (intsV xs).toArray t)) : Row W.heap.size W (.slice (some ⟨b, 0, none⟩) xs.length xs.length) xs :=
  .inr ⟨b, 0, xs.length, by rw [intsV_len], (Array.getElem?_eq_some_iff.1 h).1, by rw [intsV_len]; exact Nat.le_refl _, fun j u hj => by
    simp only [World.cell?, h, Nat.zero_add]
    simpa using hj⟩
theorem exW_mem (W : World) : GraphM (exW W).heap.size (exW W) (.slice (some ⟨W.heap.size + 1 + 1 + 1, 0, none⟩) 4 4) exG := by
  have h3 : (exW W).heap[W.heap.size + 1 + 1 + 1]? = some (.cells #[.slice (some ⟨W.heap.size, 0, none⟩) 2 2, .slice (some ⟨W.heap.size + 1, 0, none⟩) 1 1, .slice (some ⟨W.heap.size + 1 + 1, 0, none⟩) 1 1, .slice none 0 0] 24) := by
    have := heap_alloc_new (((W.alloc (.cells #[.int .i64 1, .int .i64 2] 3)).alloc (.cells #[.int .i64 3] 3)).alloc (.cells #[.int .i64 3] 3)) (.cells #[.slice (some ⟨W.heap.size, 0, none⟩) 2 2, .slice (some ⟨W.heap.size + 1, 0, none⟩) 1 1, .slice (some ⟨W.heap.size + 1 + 1, 0, none⟩) 1 1, .slice none 0 0] 24)
    simpa [exW] using this
  have h0 : (exW W).heap[W.heap.size]? = some (.cells (intsV [1, 2]).toArray 3) := by
    unfold exW
    rw [heap_alloc_old _ _ (by simp; omega), heap_alloc_old _ _ (by simp; omega), heap_alloc_old _ _ (by simp), heap_alloc_new]
    rfl
  have h1 : (exW W).heap[W.heap.size + 1]? = some (.cells (intsV [3]).toArray 3) := by
    unfold exW
    rw [heap_alloc_old _ _ (by simp), heap_alloc_old _ _ (by simp)]
    have := heap_alloc_new (W.alloc (.cells #[.int .i64 1, .int .i64 2] 3)) (.cells #[.int .i64 3] 3)
    simpa [intsV] using this
  have h2 : (exW W).heap[W.heap.size + 1 + 1]? = some (.cells (intsV [3]).toArray 3) := by
    unfold exW
    rw [heap_alloc_old _ _ (by simp)]
    have := heap_alloc_new ((W.alloc (.cells #[.int .i64 1, .int .i64 2] 3)).alloc (.cells #[.int .i64 3] 3)) (.cells #[.int .i64 3] 3)
    simpa [intsV] using this
  refine ⟨[.slice (some ⟨W.heap.size, 0, none⟩) 2 2, .slice (some ⟨W.heap.size + 1, 0, none⟩) 1 1, .slice (some ⟨W.heap.size + 1 + 1, 0, none⟩) 1 1, .slice none 0 0], .inr ⟨W.heap.size + 1 + 1 + 1, 0, 4, rfl, by rw [exW_size]; omega, by simp, fun j u hj => ?_⟩, rfl, fun j hj => ?_⟩
  · simp only [World.cell?, h3, Nat.zero_add]
    simpa using hj
  · match j, hj with
    | 0, _ => exact ⟨_, rfl, row_of_block h0⟩
    | 1, _ => exact ⟨_, rfl, row_of_block h1⟩
    | 2, _ => exact ⟨_, rfl, row_of_block h2⟩
    | 3, _ => exact ⟨_, rfl, cells_empty _ _ _ _ (fun _ => rfl)⟩
end Go.Proofs.Ytbdmpilaeoclgaa
