import Derived.Test.YtdkpnbjkehakjaaGreatDoorPolX
set_option linter.unusedSimpArgs false
set_option linter.unusedVariables false
/-! policy: read -/
namespace Go.Proofs.YtdkpnbjkehakjaaGreatDoor
open Go.RowKit

/-- what internal/bytealg.MaxLen holds is an int -/
def MaxL (w : World) : Prop := ∃ m, w.cell? ⟨2, 0, none⟩ = some (.int .i64 m)
theorem MaxL.below {w w' : World} (h : MaxL w) (hb : Below w.heap.size w w') : MaxL w' := by
  obtain ⟨m, hm⟩ := h
  exact ⟨m, (hb.cell (p := ⟨2, 0, none⟩) (World.block_lt_of_cell? w _ hm)).trans hm⟩
theorem MaxL.shaped {w : World} (h : w.ShapedOpen Tryz.prog) : MaxL w := Tryz.laysM143.s1_3 w h
theorem split6 (s : ByteArray) (w : World) (hs : s.size ≤ 65536) (hM : MaxL w) :
    Calls Tryz.prog 48 #[.string s, .string ⟨#[10]⟩] w fun e w' => e = .returned (.slice (some ⟨w.heap.size, 0, none⟩) (linesB s).length (linesB s).length) ∧ w' = w.alloc (.cells ((linesB s).map Value.string).toArray 9) := by
  obtain ⟨m, hm⟩ := hM
  rw [linesB_len]
  exact Any.strings_Split { Tryz.laysM146 with } Tryz.laysM146.i9 s ⟨#[10]⟩ m w (by omega) hm (by decide)
theorem index6 (s t : ByteArray) (w : World) (hs : s.size ≤ 65536) (hM : MaxL w) :
    Calls Tryz.prog 52 #[.string s, .string t] w fun e w' => e = .returned (.int .i64 (Lib.index s.data.toList t.data.toList)) ∧ w' = w := by
  obtain ⟨m, hm⟩ := hM
  exact Any.strings_Index { Tryz.laysM143 with } s t m w (by omega) hm
set_option maxRecDepth 100000 in
theorem blank_any (x : Nat) (w : World) : Calls Tryz.prog 50 #[.int .i32 (x : Int)] w fun e w' => e = .returned (.bool (blankP x)) ∧ w' = w := by
  cases h1 : ((x : Int) == 32)
  · have HV := Lib.hid (show blankP x = ((x : Int) == 9) by
      unfold blankP
      have : (x == 32) = false := by rw [beq_eq_false_iff_ne] at h1 ⊢; omega
      rw [this, Bool.false_or, Bool.eq_iff_iff, beq_iff_eq, beq_iff_eq]; omega)
    go_enter Tryz.func50, Tryz.ntmps50
    go_wp2_with fail
    go_ret
    exact ⟨ret_bool HV.out.symm, rfl⟩
  · have HV := Lib.hid (show blankP x = true by
      unfold blankP
      have : (x == 32) = true := by rw [beq_iff_eq] at h1 ⊢; omega
      rw [this]; rfl)
    go_enter Tryz.func50, Tryz.ntmps50
    go_wp2_with fail
    go_ret
    exact ⟨ret_bool HV.out.symm, rfl⟩
theorem fields6 (l : ByteArray) (w : World) (hs : l.size ≤ 65536) :
    Calls Tryz.prog 49 #[.string l, .func (.func 50) #[] #[]] w fun e w' => ∃ A, e = .returned (.slice (some ⟨A, 0, none⟩) (wordsB l).length (wordsB l).length) ∧ w.heap.size ≤ A ∧
      Strs w'.heap.size w' (.slice (some ⟨A, 0, none⟩) (wordsB l).length (wordsB l).length) (wordsB l) ∧ Below w.heap.size w w' :=
  (Tryz.strings_FieldsFunc_runes 50 #[] (fun args w => enters_of Tryz.func50 (by kernel_rfl) rfl args w) blankP l w (by omega)
    (fun W x _ _ => (blank_any x W).mono fun e w' h => ⟨h.1, 0, h.2⟩)).mono fun e w' ⟨A, h1, h2, h3, h4⟩ => ⟨A, h1, h2, strs_of_row h3, h4⟩
theorem RSt.fresh {B r k : Nat} {w w' : World} {vL vI vO vF : Value} {st : PSt} (h : RSt B r w vL vI vO vF st) (hb : Below w.heap.size w w') (hk : w.heap.size ≤ k) : Free r w' k := by
  have hl := h.lt
  refine ⟨by omega, fun v0 v1 v2 v3 d v5 e => ?_⟩
  obtain ⟨rfl, rfl, rfl, rfl, rfl, rfl⟩ := rObj_inj (Option.some.inj (((h.below hb).obj).symm.trans e))
  exact ⟨fun e => by have := (own_block h.oL e).2.1; omega, fun e => by have := (own_block h.oI e).2.1; omega, fun e => by have := (own_block h.oO e).2.1; omega, fun e => by have := (own_block h.oF e).2.1; omega⟩
theorem strs_kept {w w' : World} {A cap n : Nat} {ws : List ByteArray} (h : Strs n w (.slice (some ⟨A, 0, none⟩) ws.length cap) ws) (hk : w'.heap[A]? = w.heap[A]?) : Strs n w' (.slice (some ⟨A, 0, none⟩) ws.length cap) ws := by
  rcases h with h | ⟨b, off, c, e, hb, hc, hcell⟩
  · exact .inl h
  · simp only [Value.slice.injEq, Option.some.injEq, Addr.mk.injEq] at e
    obtain ⟨⟨rfl, rfl, _⟩, _, rfl⟩ := e
    exact .inr ⟨A, 0, cap, rfl, hb, hc, fun j hj => (World.cell?_of_block (by exact hk)).trans (hcell j hj)⟩
theorem map_kept {w w' : World} {bm m : Nat} {D : DataW Unit} (h : w.ownsMap Tryz.prog 9 fnElem bm m D) (hk : w'.heap[bm]? = w.heap[bm]?) : w'.ownsMap Tryz.prog 9 fnElem bm m D := by
  unfold World.ownsMap at h ⊢
  rw [hk]; exact h
end Go.Proofs.YtdkpnbjkehakjaaGreatDoor
