import Derived.Test.YtdkpnbjkehakjaaGreatDoorQuS
import Derived.Test.YtdkpnbjkehakjaaGreatDoorQueP
import Derived.Deep.Cut
import Derived.Deep.RegionHeld3
import Derived.Test.YtdkpnbjkehakjaaGreatDoorQuI
import Derived.Test.YtdkpnbjkehakjaaGreatDoorOpenQR
set_option linter.unusedSimpArgs false
set_option linter.unusedVariables false
/-! queue: Put, Trace -/
namespace Go.Proofs.YtdkpnbjkehakjaaGreatDoor
open Go.RowKit
/-- but for two blocks, what was there is as it was -/
structure Put2 (w w' : World) (kb : Nat) (row : Option Nat) : Prop where
  os : w'.os = w.os
  tape : w'.tape = w.tape
  output : w'.output = w.output
  size : w.heap.size ≤ w'.heap.size
  block : ∀ k, k < w.heap.size → k ≠ kb → some k ≠ row → w'.heap[k]? = w.heap[k]?
def PutE (B kb rb n o l : Nat) (ve : Value) (rows : Nat → List Int) (es : List Ev) (x : Ev) (e : Ending) (w w' : World) : Prop :=
  if allowB o l x.k x.r x.f x.a = true then e = .returned (.int .i64 0) ∧ Put2 w w' kb ve.ownBlock ∧ ∃ ve', BoxB w' kb rb n o l ve' ∧ w'.ownsRow B 44 5 ve' (es ++ [x]).length (evCells (es ++ [x])) ∧ (∃ vs, TabQ B w' rb n vs rows) ∧ ∀ k, ve'.ownBlock = some k → ve.ownBlock = some k ∨ w.heap.size ≤ k
  else e = .returned (.int .i64 1) ∧ Below w.heap.size w w'
theorem put_held1 {W0 V : World} {kb rb n o l g : Nat} {ve : Value} {x : Ev} (hb : BoxB W0 kb rb n o l ve) (hx : W0.heap[g]? = some (.cells #[.int .u8 x.k, .int .i64 x.r, .int .i64 x.v, .int .i64 x.f, .int .i64 x.a] 44)) (h : Below W0.heap.size W0 V) :
    Below W0.heap.size W0 V ∧ V.cell? ⟨kb, 1, none⟩ = some (.int .i64 o) ∧ V.cell? ⟨kb, 2, none⟩ = some (.int .i64 l) ∧ V.cell? ⟨g, 0, none⟩ = some (.int .u8 x.k) ∧ V.cell? ⟨g, 1, none⟩ = some (.int .i64 x.r) ∧ V.cell? ⟨g, 2, none⟩ = some (.int .i64 x.v) ∧ V.cell? ⟨g, 3, none⟩ = some (.int .i64 x.f) ∧ V.cell? ⟨g, 4, none⟩ = some (.int .i64 x.a) := by
  have hb' : BoxB V kb rb n o l ve := (h.block _ hb.lt).trans hb
  obtain ⟨_, c1, c2, _⟩ := hb'.cells
  obtain ⟨p0, p1, p2, p3, p4⟩ := obj5_cell hx h
  exact ⟨h, c1, c2, p0, p1, p2, p3, p4⟩
theorem put_held2 {V : World} {g : Nat} {x : Ev} (hx : V.heap[g]? = some (.cells #[.int .u8 x.k, .int .i64 x.r, .int .i64 x.v, .int .i64 x.f, .int .i64 x.a] 44)) :
    V.heap[g]? = some (.cells #[.int .u8 x.k, .int .i64 x.r, .int .i64 x.v, .int .i64 x.f, .int .i64 x.a] 44) ∧ V.cell? ⟨g, 0, none⟩ = some (.int .u8 x.k) ∧ V.cell? ⟨g, 1, none⟩ = some (.int .i64 x.r) ∧ V.cell? ⟨g, 2, none⟩ = some (.int .i64 x.v) ∧ V.cell? ⟨g, 3, none⟩ = some (.int .i64 x.f) ∧ V.cell? ⟨g, 4, none⟩ = some (.int .i64 x.a) := by
  obtain ⟨p0, p1, p2, p3, p4⟩ := obj5_cell hx (Below.refl _ _)
  exact ⟨hx, p0, p1, p2, p3, p4⟩
theorem TabQ.box {B : Nat} {W : World} {rb n kb rb' n' o l : Nat} {ve : Value} {vs : Nat → Value} {rows : Nat → List Int} (h : TabQ B W rb n vs rows) (hb : BoxB W kb rb' n' o l ve) (i : Nat) (u : Value) : TabQ B (W.setCell ⟨kb, i, none⟩ u) rb n vs rows := by
  refine ⟨h.base, World.rowIs.of_block h.tab (Below.heap_setCell _ _ _ _ (fun e => ?_)), fun j hj => (h.rows j hj).kept fun k c fr _ hk => Below.heap_setCell _ _ _ _ (fun e => ?_)⟩
  · obtain ⟨c', h1, _⟩ := h.tab
    have h2 := hb
    unfold BoxB at h2
    rw [← show rb = kb from e, h1] at h2
    cases h2
  · have h2 := hb
    unfold BoxB at h2
    rw [← show k = kb from e, hk] at h2
    cases h2
/-- what an event that is put leaves -/
theorem put_fin {B kb rb n o l : Nat} {ve v6 : Value} {vs : Nat → Value} {rows : Nat → List Int} {es : List Ev} {x : Ev} {w Z w6 : World} (hb : BoxB w kb rb n o l ve) (ht : TabQ B w rb n vs rows) (ho : w.ownsRow B 44 5 ve es.length (evCells es)) (hkb : B ≤ kb) (h1 : Below w.heap.size w Z)
    (hown : w6.ownsRow B 44 5 v6 (es.length + 1) (evCells es ++ evC x)) (hg : Z.grownBy w6 ve.ownBlock) (hl : ∀ k, v6.ownBlock = some k → ve.ownBlock = some k ∨ k = Z.heap.size) :
    w6.cell? ⟨kb, 3, none⟩ = some ve ∧ w6.frozen? ⟨kb, 3, none⟩ = false ∧ Put2 w (w6.setCell ⟨kb, 3, none⟩ v6) kb ve.ownBlock ∧ BoxB (w6.setCell ⟨kb, 3, none⟩ v6) kb rb n o l v6 ∧ (w6.setCell ⟨kb, 3, none⟩ v6).ownsRow B 44 5 v6 (es ++ [x]).length (evCells (es ++ [x])) ∧ TabQ B (w6.setCell ⟨kb, 3, none⟩ v6) rb n vs rows ∧ ∀ k, v6.ownBlock = some k → ve.ownBlock = some k ∨ w.heap.size ≤ k := by
  have hbZ : BoxB Z kb rb n o l ve := (h1.block _ hb.lt).trans hb
  have hoZ : Z.ownsRow B 44 5 ve es.length (evCells es) := own_of_block ho (fun k hk => h1.block _ (ho.lt k hk).2)
  have hne := own_other hoZ hbZ (by decide)
  have hb6 : BoxB w6 kb rb n o l ve := (hg.block _ hbZ.lt (fun e => hne e.symm)).trans hbZ
  have ht6 := (ht.on h1).grown hoZ (by decide) (by decide) hg
  obtain ⟨_, _, _, c3⟩ := hb6.cells
  have hne6 := own_other hown hb6 (by decide)
  refine ⟨c3, block_frozen hb6, ⟨hg.os.trans h1.os, hg.tape.trans h1.tape, hg.output.trans h1.output, by simpa using Nat.le_trans h1.size hg.size, fun k hk hkk hrow => ?_⟩, ?_, ?_, ht6.box hb6 3 v6, fun k hk => ?_⟩
  · exact (Below.heap_setCell _ _ _ _ hkk).trans ((hg.block k (Nat.lt_of_lt_of_le hk h1.size) hrow).trans (h1.block k hk))
  · exact set_obj (c := 3) v6 hb6
  · rw [List.length_append, evCells_snoc]
    exact own_of_block hown (fun k hk => Below.heap_setCell _ _ _ _ (fun e => hne6 (by rw [hk]; exact congrArg some e)))
  · rcases hl k hk with e | e
    · exact .inl e
    · exact .inr (by rw [e]; exact h1.size)

set_option maxRecDepth 100000 in
set_option maxHeartbeats 6400000 in
theorem qput_any {B kb rb n o l : Nat} {ve : Value} {vs : Nat → Value} {rows : Nat → List Int} {es : List Ev} (x : Ev) (w : World) (hb : BoxB w kb rb n o l ve) (ht : TabQ B w rb n vs rows) (ho : w.ownsRow B 44 5 ve es.length (evCells es)) (hes : es.length ≤ 1000000) (hB : B ≤ kb) :
    Calls Tryz.prog 13 #[.pointer (some ⟨kb, 0, none⟩), .agg #[.int .u8 x.k, .int .i64 x.r, .int .i64 x.v, .int .i64 x.f, .int .i64 x.a]] w fun e w' => PutE B kb rb n o l ve rows es x e w w' := by
  obtain ⟨i0, hi0, hz0, hz1, hz2⟩ := info_parts Tryz.infoQEvent
  obtain ⟨W0, eW0⟩ : ∃ W0, W0 = w.alloc (.cells #[.int .u8 x.k, .int .i64 x.r, .int .i64 x.v, .int .i64 x.f, .int .i64 x.a] 44) := ⟨_, rfl⟩
  have HB0 := Lib.hid (show Below w.heap.size w W0 by rw [eW0]; exact (Below.refl _ _).alloc (Nat.le_refl _) _)
  have HO0 := Lib.hid (show W0.heap[w.heap.size]? = some (.cells #[.int .u8 x.k, .int .i64 x.r, .int .i64 x.v, .int .i64 x.f, .int .i64 x.a] 44) by rw [eW0]; exact new_block rfl rfl)
  have HBX := Lib.hid hb
  have HTB := Lib.hid ht
  have HOW := Lib.hid ho
  have HK := Lib.hid hB
  have HBO := Lib.hid (show BoxB W0 kb rb n o l ve from (HB0.out.block _ hb.lt).trans hb)
  have EW0 := Lib.hid eW0
  clear hb ht ho eW0 hB
  cases hz : allowB o l x.k x.r x.f x.a
  · have HZ := Lib.hid hz
    have HE := Lib.hid (fun e w' => show PutE B kb rb n o l ve rows es x e w w' ↔ e = .returned (.int .i64 1) ∧ Below w.heap.size w w' by unfold PutE; rw [hz, if_neg Bool.false_ne_true])
    clear hz
    go_enter Tryz.func13, Tryz.ntmps13
    go_wp2_with fail
    rw [← EW0.out]
    refine wp_region_held_drew (S := (fun V => Below W0.heap.size W0 V ∧ V.cell? ⟨kb, 1, none⟩ = some (.int .i64 o) ∧ V.cell? ⟨kb, 2, none⟩ = some (.int .i64 l) ∧ V.cell? ⟨w.heap.size, 0, none⟩ = some (.int .u8 x.k) ∧ V.cell? ⟨w.heap.size, 1, none⟩ = some (.int .i64 x.r) ∧ V.cell? ⟨w.heap.size, 2, none⟩ = some (.int .i64 x.v) ∧ V.cell? ⟨w.heap.size, 3, none⟩ = some (.int .i64 x.f) ∧ V.cell? ⟨w.heap.size, 4, none⟩ = some (.int .i64 x.a))) (by kernel_rfl) ?_ (fun hHeld => ?_)
    · first | exact put_held1 HBO.out HO0.out (Below.refl _ _) | exact put_held1 HBO.out HO0.out (Below.refl _ _).drew
    refine wpAnyH_take (i := 0) (v := .pointer (some ⟨kb, 0, none⟩)) rfl (by kernel_rfl) (by kernel_rfl) (by kernel_rfl) (fun _ _ _ h => h) (Or.inl ⟨by rfl, fun W hSW => ?_⟩) hHeld ?_
    · ((try dsimp only at hSW); go_split_ands; go_simp <;> with_reducible rfl)
    try simp only [List.getElem_toArray, List.getElem_cons_succ, List.getElem_cons_zero, Act.put, List.setIfInBounds_toArray, List.set_cons_zero, List.set_cons_succ]
    refine wpAnyH_take (i := 1) (v := .bool false) rfl (by kernel_rfl) (by kernel_rfl) (by kernel_rfl) (fun _ _ _ h => h) (Or.inl ⟨by rfl, fun W hSW => ?_⟩) hHeld ?_
    · ((try dsimp only at hSW); go_split_ands; go_simp <;> with_reducible rfl)
    try simp only [List.getElem_toArray, List.getElem_cons_succ, List.getElem_cons_zero, Act.put, List.setIfInBounds_toArray, List.set_cons_zero, List.set_cons_succ]
    refine wpAnyH_take (i := 2) (v := .bool false) rfl (by kernel_rfl) (by kernel_rfl) (by kernel_rfl) (fun _ _ _ h => h) (Or.inl ⟨by rfl, fun W hSW => ?_⟩) hHeld ?_
    · ((try dsimp only at hSW); go_split_ands; go_simp <;> with_reducible rfl)
    try simp only [List.getElem_toArray, List.getElem_cons_succ, List.getElem_cons_zero, Act.put, List.setIfInBounds_toArray, List.set_cons_zero, List.set_cons_succ]
    refine wpAnyH_take (i := 3) (v := .pointer (some ⟨kb, 0, none⟩)) rfl (by kernel_rfl) (by kernel_rfl) (by kernel_rfl) (fun _ _ _ h => h) (Or.inl ⟨by rfl, fun W hSW => ?_⟩) hHeld ?_
    · ((try dsimp only at hSW); go_split_ands; go_simp <;> with_reducible rfl)
    try simp only [List.getElem_toArray, List.getElem_cons_succ, List.getElem_cons_zero, Act.put, List.setIfInBounds_toArray, List.set_cons_zero, List.set_cons_succ]
    refine wpAnyH_take (i := 4) (v := .pointer (some ⟨kb, 0, none⟩)) rfl (by kernel_rfl) (by kernel_rfl) (by kernel_rfl) (fun _ _ _ h => h) (Or.inl ⟨by rfl, fun W hSW => ?_⟩) hHeld ?_
    · ((try dsimp only at hSW); go_split_ands; go_simp <;> with_reducible rfl)
    try simp only [List.getElem_toArray, List.getElem_cons_succ, List.getElem_cons_zero, Act.put, List.setIfInBounds_toArray, List.set_cons_zero, List.set_cons_succ]
    refine wpAnyH_take (i := 5) (v := .pointer (some ⟨kb, 1, none⟩)) rfl (by kernel_rfl) (by kernel_rfl) (by kernel_rfl) (fun _ _ _ h => h) (Or.inl ⟨by rfl, fun W hSW => ?_⟩) hHeld ?_
    · ((try dsimp only at hSW); go_split_ands; go_simp <;> with_reducible rfl)
    try simp only [List.getElem_toArray, List.getElem_cons_succ, List.getElem_cons_zero, Act.put, List.setIfInBounds_toArray, List.set_cons_zero, List.set_cons_succ]
    refine wpAnyH_take (i := 6) (v := .agg #[.int .i64 o, .int .i64 l]) rfl (by kernel_rfl) (by kernel_rfl) (by kernel_rfl) (fun _ _ _ h => h) (Or.inl ⟨by rfl, fun W hSW => ?_⟩) hHeld ?_
    · ((try dsimp only at hSW); go_split_ands; go_simp <;> with_reducible rfl)
    try simp only [List.getElem_toArray, List.getElem_cons_succ, List.getElem_cons_zero, Act.put, List.setIfInBounds_toArray, List.set_cons_zero, List.set_cons_succ]
    refine wpAnyH_take (i := 7) (v := .agg #[.int .u8 x.k, .int .i64 x.r, .int .i64 x.v, .int .i64 x.f, .int .i64 x.a]) rfl (by kernel_rfl) (by kernel_rfl) (by kernel_rfl) (fun _ _ _ h => h) (Or.inl ⟨by rfl, fun W hSW => ?_⟩) hHeld ?_
    · ((try dsimp only at hSW); go_split_ands; go_simp <;> with_reducible rfl)
    try simp only [List.getElem_toArray, List.getElem_cons_succ, List.getElem_cons_zero, Act.put, List.setIfInBounds_toArray, List.set_cons_zero, List.set_cons_succ]
    refine wpAnyH_ready (rs := [8]) (by kernel_rfl) (by simp) ?_
    refine AllReadyH.cons rfl (fun K hK => ?_) AllReadyH.nil
    try simp only [List.getElem_toArray, List.getElem_cons_succ, List.getElem_cons_zero]
    go_simp
    (refine (allow_any o l x.k x.r x.v x.f x.a _).mono ?_; rintro e w1 ⟨rfl, hb⟩; rw [HZ.out])
    try go_wp2_with fail
    refine hK.out _ _ ?_ (fun hHeld => ?_)
    · exact put_held1 HBO.out HO0.out (hHeld.1.trans (hb.mono hHeld.1.size))
    clear hK K
    try simp only [List.getElem_toArray, List.getElem_cons_succ, List.getElem_cons_zero, Act.put, List.setIfInBounds_toArray, List.set_cons_zero, List.set_cons_succ]
    refine wpAnyH_take (i := 9) (v := .bool true) rfl (by kernel_rfl) (by kernel_rfl) (by kernel_rfl) (fun _ _ _ h => h) (Or.inl ⟨by rfl, fun W hSW => ?_⟩) hHeld ?_
    · ((try dsimp only at hSW); go_split_ands; go_simp <;> with_reducible rfl)
    try simp only [List.getElem_toArray, List.getElem_cons_succ, List.getElem_cons_zero, Act.put, List.setIfInBounds_toArray, List.set_cons_zero, List.set_cons_succ]
    refine wpAnyH_take (i := 10) (v := .bool true) rfl (by kernel_rfl) (by kernel_rfl) (by kernel_rfl) (fun _ _ _ h => h) (Or.inl ⟨by rfl, fun W hSW => ?_⟩) hHeld ?_
    · ((try dsimp only at hSW); go_split_ands; go_simp <;> with_reducible rfl)
    try simp only [List.getElem_toArray, List.getElem_cons_succ, List.getElem_cons_zero, Act.put, List.setIfInBounds_toArray, List.set_cons_zero, List.set_cons_succ]
    refine wpAnyH_done (by kernel_rfl) ?_ _
    have HB9 := Lib.hid hHeld.1
    clear hHeld
    go_wp2_with fail
    go_ret
    exact (HE.out _ _).2 ⟨rfl, HB0.out.trans (HB9.out.mono HB0.out.size)⟩
  · have HZ := Lib.hid hz
    have HE := Lib.hid (fun e w' => show PutE B kb rb n o l ve rows es x e w w' ↔ e = .returned (.int .i64 0) ∧ Put2 w w' kb ve.ownBlock ∧ ∃ ve', BoxB w' kb rb n o l ve' ∧ w'.ownsRow B 44 5 ve' (es ++ [x]).length (evCells (es ++ [x])) ∧ (∃ vs, TabQ B w' rb n vs rows) ∧ ∀ k, ve'.ownBlock = some k → ve.ownBlock = some k ∨ w.heap.size ≤ k by unfold PutE; rw [hz, if_pos rfl])
    clear hz
    go_enter Tryz.func13, Tryz.ntmps13
    go_wp2_with fail
    rw [← EW0.out]
    refine wp_region_held_drew (S := (fun V => Below W0.heap.size W0 V ∧ V.cell? ⟨kb, 1, none⟩ = some (.int .i64 o) ∧ V.cell? ⟨kb, 2, none⟩ = some (.int .i64 l) ∧ V.cell? ⟨w.heap.size, 0, none⟩ = some (.int .u8 x.k) ∧ V.cell? ⟨w.heap.size, 1, none⟩ = some (.int .i64 x.r) ∧ V.cell? ⟨w.heap.size, 2, none⟩ = some (.int .i64 x.v) ∧ V.cell? ⟨w.heap.size, 3, none⟩ = some (.int .i64 x.f) ∧ V.cell? ⟨w.heap.size, 4, none⟩ = some (.int .i64 x.a))) (by kernel_rfl) ?_ (fun hHeld => ?_)
    · first | exact put_held1 HBO.out HO0.out (Below.refl _ _) | exact put_held1 HBO.out HO0.out (Below.refl _ _).drew
    refine wpAnyH_take (i := 0) (v := .pointer (some ⟨kb, 0, none⟩)) rfl (by kernel_rfl) (by kernel_rfl) (by kernel_rfl) (fun _ _ _ h => h) (Or.inl ⟨by rfl, fun W hSW => ?_⟩) hHeld ?_
    · ((try dsimp only at hSW); go_split_ands; go_simp <;> with_reducible rfl)
    try simp only [List.getElem_toArray, List.getElem_cons_succ, List.getElem_cons_zero, Act.put, List.setIfInBounds_toArray, List.set_cons_zero, List.set_cons_succ]
    refine wpAnyH_take (i := 1) (v := .bool false) rfl (by kernel_rfl) (by kernel_rfl) (by kernel_rfl) (fun _ _ _ h => h) (Or.inl ⟨by rfl, fun W hSW => ?_⟩) hHeld ?_
    · ((try dsimp only at hSW); go_split_ands; go_simp <;> with_reducible rfl)
    try simp only [List.getElem_toArray, List.getElem_cons_succ, List.getElem_cons_zero, Act.put, List.setIfInBounds_toArray, List.set_cons_zero, List.set_cons_succ]
    refine wpAnyH_take (i := 2) (v := .bool false) rfl (by kernel_rfl) (by kernel_rfl) (by kernel_rfl) (fun _ _ _ h => h) (Or.inl ⟨by rfl, fun W hSW => ?_⟩) hHeld ?_
    · ((try dsimp only at hSW); go_split_ands; go_simp <;> with_reducible rfl)
    try simp only [List.getElem_toArray, List.getElem_cons_succ, List.getElem_cons_zero, Act.put, List.setIfInBounds_toArray, List.set_cons_zero, List.set_cons_succ]
    refine wpAnyH_take (i := 3) (v := .pointer (some ⟨kb, 0, none⟩)) rfl (by kernel_rfl) (by kernel_rfl) (by kernel_rfl) (fun _ _ _ h => h) (Or.inl ⟨by rfl, fun W hSW => ?_⟩) hHeld ?_
    · ((try dsimp only at hSW); go_split_ands; go_simp <;> with_reducible rfl)
    try simp only [List.getElem_toArray, List.getElem_cons_succ, List.getElem_cons_zero, Act.put, List.setIfInBounds_toArray, List.set_cons_zero, List.set_cons_succ]
    refine wpAnyH_take (i := 4) (v := .pointer (some ⟨kb, 0, none⟩)) rfl (by kernel_rfl) (by kernel_rfl) (by kernel_rfl) (fun _ _ _ h => h) (Or.inl ⟨by rfl, fun W hSW => ?_⟩) hHeld ?_
    · ((try dsimp only at hSW); go_split_ands; go_simp <;> with_reducible rfl)
    try simp only [List.getElem_toArray, List.getElem_cons_succ, List.getElem_cons_zero, Act.put, List.setIfInBounds_toArray, List.set_cons_zero, List.set_cons_succ]
    refine wpAnyH_take (i := 5) (v := .pointer (some ⟨kb, 1, none⟩)) rfl (by kernel_rfl) (by kernel_rfl) (by kernel_rfl) (fun _ _ _ h => h) (Or.inl ⟨by rfl, fun W hSW => ?_⟩) hHeld ?_
    · ((try dsimp only at hSW); go_split_ands; go_simp <;> with_reducible rfl)
    try simp only [List.getElem_toArray, List.getElem_cons_succ, List.getElem_cons_zero, Act.put, List.setIfInBounds_toArray, List.set_cons_zero, List.set_cons_succ]
    refine wpAnyH_take (i := 6) (v := .agg #[.int .i64 o, .int .i64 l]) rfl (by kernel_rfl) (by kernel_rfl) (by kernel_rfl) (fun _ _ _ h => h) (Or.inl ⟨by rfl, fun W hSW => ?_⟩) hHeld ?_
    · ((try dsimp only at hSW); go_split_ands; go_simp <;> with_reducible rfl)
    try simp only [List.getElem_toArray, List.getElem_cons_succ, List.getElem_cons_zero, Act.put, List.setIfInBounds_toArray, List.set_cons_zero, List.set_cons_succ]
    refine wpAnyH_take (i := 7) (v := .agg #[.int .u8 x.k, .int .i64 x.r, .int .i64 x.v, .int .i64 x.f, .int .i64 x.a]) rfl (by kernel_rfl) (by kernel_rfl) (by kernel_rfl) (fun _ _ _ h => h) (Or.inl ⟨by rfl, fun W hSW => ?_⟩) hHeld ?_
    · ((try dsimp only at hSW); go_split_ands; go_simp <;> with_reducible rfl)
    try simp only [List.getElem_toArray, List.getElem_cons_succ, List.getElem_cons_zero, Act.put, List.setIfInBounds_toArray, List.set_cons_zero, List.set_cons_succ]
    refine wpAnyH_ready (rs := [8]) (by kernel_rfl) (by simp) ?_
    refine AllReadyH.cons rfl (fun K hK => ?_) AllReadyH.nil
    try simp only [List.getElem_toArray, List.getElem_cons_succ, List.getElem_cons_zero]
    go_simp
    (refine (allow_any o l x.k x.r x.v x.f x.a _).mono ?_; rintro e w1 ⟨rfl, hb⟩; rw [HZ.out])
    try go_wp2_with fail
    refine hK.out _ _ ?_ (fun hHeld => ?_)
    · exact put_held1 HBO.out HO0.out (hHeld.1.trans (hb.mono hHeld.1.size))
    clear hK K
    try simp only [List.getElem_toArray, List.getElem_cons_succ, List.getElem_cons_zero, Act.put, List.setIfInBounds_toArray, List.set_cons_zero, List.set_cons_succ]
    refine wpAnyH_take (i := 9) (v := .bool false) rfl (by kernel_rfl) (by kernel_rfl) (by kernel_rfl) (fun _ _ _ h => h) (Or.inl ⟨by rfl, fun W hSW => ?_⟩) hHeld ?_
    · ((try dsimp only at hSW); go_split_ands; go_simp <;> with_reducible rfl)
    try simp only [List.getElem_toArray, List.getElem_cons_succ, List.getElem_cons_zero, Act.put, List.setIfInBounds_toArray, List.set_cons_zero, List.set_cons_succ]
    refine wpAnyH_take (i := 10) (v := .bool false) rfl (by kernel_rfl) (by kernel_rfl) (by kernel_rfl) (fun _ _ _ h => h) (Or.inl ⟨by rfl, fun W hSW => ?_⟩) hHeld ?_
    · ((try dsimp only at hSW); go_split_ands; go_simp <;> with_reducible rfl)
    try simp only [List.getElem_toArray, List.getElem_cons_succ, List.getElem_cons_zero, Act.put, List.setIfInBounds_toArray, List.set_cons_zero, List.set_cons_succ]
    refine wpAnyH_done (by kernel_rfl) ?_ _
    have HB9 := Lib.hid hHeld.1
    have HBA := Lib.hid (HB0.out.trans (hHeld.1.mono HB0.out.size))
    have HO9 := Lib.hid ((hHeld.1.block _ (heap_some_lt HO0.out)).trans HO0.out)
    have HX9 := Lib.hid (show BoxB w1 kb rb n o l ve from (hHeld.1.block _ HBO.out.lt).trans HBO.out)
    clear hHeld hb
    go_upto_region 3 with fail
    have hcA : w1.cell? ⟨kb, 3, none⟩ = some ve := HX9.out.cells.2.2.2
    have hcB : w1.drew.cell? ⟨kb, 3, none⟩ = some ve := hcA
    have hcC : (w1.alloc (.cells #[.int .u8 x.k, .int .i64 x.r, .int .i64 x.v, .int .i64 x.f, .int .i64 x.a] 44)).cell? ⟨kb, 3, none⟩ = some ve := (show BoxB (w1.alloc (.cells #[.int .u8 x.k, .int .i64 x.r, .int .i64 x.v, .int .i64 x.f, .int .i64 x.a] 44)) kb rb n o l ve from ((Below.refl w1.heap.size w1).alloc (Nat.le_refl _) _ |>.block _ HX9.out.lt).trans HX9.out).cells.2.2.2
    have hcD : (w1.alloc (.cells #[.int .u8 x.k, .int .i64 x.r, .int .i64 x.v, .int .i64 x.f, .int .i64 x.a] 44)).drew.cell? ⟨kb, 3, none⟩ = some ve := hcC
    have hcE : (w1.drew.alloc (.cells #[.int .u8 x.k, .int .i64 x.r, .int .i64 x.v, .int .i64 x.f, .int .i64 x.a] 44)).cell? ⟨kb, 3, none⟩ = some ve := hcC
    have HZB := Lib.hid (show Below w1.heap.size w1 (w1.alloc (.cells #[.int .u8 x.k, .int .i64 x.r, .int .i64 x.v, .int .i64 x.f, .int .i64 x.a] 44)) from (Below.refl _ _).alloc (Nat.le_refl _) _)
    have HZN := Lib.hid (show (w1.alloc (.cells #[.int .u8 x.k, .int .i64 x.r, .int .i64 x.v, .int .i64 x.f, .int .i64 x.a] 44)).heap[w1.heap.size]? = some (.cells #[.int .u8 x.k, .int .i64 x.r, .int .i64 x.v, .int .i64 x.f, .int .i64 x.a] 44) from new_block rfl rfl)
    refine wp_region_held_drew (S := (fun V => V.heap[w.heap.size]? = some (.cells #[.int .u8 x.k, .int .i64 x.r, .int .i64 x.v, .int .i64 x.f, .int .i64 x.a] 44) ∧ V.cell? ⟨w.heap.size, 0, none⟩ = some (.int .u8 x.k) ∧ V.cell? ⟨w.heap.size, 1, none⟩ = some (.int .i64 x.r) ∧ V.cell? ⟨w.heap.size, 2, none⟩ = some (.int .i64 x.v) ∧ V.cell? ⟨w.heap.size, 3, none⟩ = some (.int .i64 x.f) ∧ V.cell? ⟨w.heap.size, 4, none⟩ = some (.int .i64 x.a))) (by kernel_rfl) ?_ (fun hHeld => ?_)
    · exact put_held2 HO9.out
    refine wpAnyH_take (i := 0) (v := .pointer (some ⟨kb, 0, none⟩)) rfl (by kernel_rfl) (by kernel_rfl) (by kernel_rfl) (fun _ _ _ h => h) (Or.inl ⟨by rfl, fun W hSW => ?_⟩) hHeld ?_
    · ((try dsimp only at hSW); go_split_ands; go_simp <;> with_reducible rfl)
    try simp only [List.getElem_toArray, List.getElem_cons_succ, List.getElem_cons_zero, Act.put, List.setIfInBounds_toArray, List.set_cons_zero, List.set_cons_succ]
    refine wpAnyH_take (i := 1) (v := .pointer (some ⟨kb, 0, none⟩)) rfl (by kernel_rfl) (by kernel_rfl) (by kernel_rfl) (fun _ _ _ h => h) (Or.inl ⟨by rfl, fun W hSW => ?_⟩) hHeld ?_
    · ((try dsimp only at hSW); go_split_ands; go_simp <;> with_reducible rfl)
    try simp only [List.getElem_toArray, List.getElem_cons_succ, List.getElem_cons_zero, Act.put, List.setIfInBounds_toArray, List.set_cons_zero, List.set_cons_succ]
    refine wpAnyH_take (i := 2) (v := .pointer (some ⟨kb, 0, none⟩)) rfl (by kernel_rfl) (by kernel_rfl) (by kernel_rfl) (fun _ _ _ h => h) (Or.inl ⟨by rfl, fun W hSW => ?_⟩) hHeld ?_
    · ((try dsimp only at hSW); go_split_ands; go_simp <;> with_reducible rfl)
    try simp only [List.getElem_toArray, List.getElem_cons_succ, List.getElem_cons_zero, Act.put, List.setIfInBounds_toArray, List.set_cons_zero, List.set_cons_succ]
    refine wpAnyH_take (i := 3) (v := .pointer (some ⟨kb, 3, none⟩)) rfl (by kernel_rfl) (by kernel_rfl) (by kernel_rfl) (fun _ _ _ h => h) (Or.inl ⟨by rfl, fun W hSW => ?_⟩) hHeld ?_
    · ((try dsimp only at hSW); go_split_ands; go_simp <;> with_reducible rfl)
    try simp only [List.getElem_toArray, List.getElem_cons_succ, List.getElem_cons_zero, Act.put, List.setIfInBounds_toArray, List.set_cons_zero, List.set_cons_succ]
    refine wpAnyH_take (i := 5) (v := .agg #[.int .u8 x.k, .int .i64 x.r, .int .i64 x.v, .int .i64 x.f, .int .i64 x.a]) rfl (by kernel_rfl) (by kernel_rfl) (by kernel_rfl) (fun _ _ _ h => h) (Or.inl ⟨by rfl, fun W hSW => ?_⟩) hHeld ?_
    · ((try dsimp only at hSW); go_split_ands; go_simp <;> with_reducible rfl)
    try simp only [List.getElem_toArray, List.getElem_cons_succ, List.getElem_cons_zero, Act.put, List.setIfInBounds_toArray, List.set_cons_zero, List.set_cons_succ]
    refine wpAnyH_ready (rs := [4, 6]) (by kernel_rfl) (by simp) ?_
    refine AllReadyH.cons rfl (fun K hK => ?_) (AllReadyH.cons rfl (fun K hK => ?_) AllReadyH.nil)
    · skip
      try simp only [List.getElem_toArray, List.getElem_cons_succ, List.getElem_cons_zero]
      go_simp
      try go_wp2_with fail
      refine hK.out _ _ ?_ (fun hHeld => ?_)
      · exact put_held2 hHeld.1
      clear hK K
      try simp only [List.getElem_toArray, List.getElem_cons_succ, List.getElem_cons_zero, Act.put, List.setIfInBounds_toArray, List.set_cons_zero, List.set_cons_succ]
      refine wpAnyH_ready (rs := [6]) (by kernel_rfl) (by simp) ?_
      refine AllReadyH.cons rfl (fun K hK => ?_) AllReadyH.nil
      try simp only [List.getElem_toArray, List.getElem_cons_succ, List.getElem_cons_zero]
      go_simp
      try go_wp2_with fail
      refine hK.out _ _ ?_ (fun hHeld => ?_)
      · exact put_held2 ((HZB.out.block _ (heap_some_lt HO9.out)).trans HO9.out)
      clear hK K
      try simp only [List.getElem_toArray, List.getElem_cons_succ, List.getElem_cons_zero, Act.put, List.setIfInBounds_toArray, List.set_cons_zero, List.set_cons_succ]
      refine wpAnyH_ready (rs := [7]) (by kernel_rfl) (by simp) ?_
      refine AllReadyH.cons rfl (fun K hK => ?_) AllReadyH.nil
      refine step_append_lies _ rfl (.tmp 20) (.tmp 22) 37 rfl B 44 i0 (.agg #[.int .u8 0, .int .i64 0, .int .i64 0, .int .i64 0, .int .i64 0]) 5 40 Tryz.underlying37 hi0 hz0 hz1 hz2 rfl (by decide) ve es.length (evCells es) (by rfl) (own_of_block HOW.out (fun k hk => (HZB.out.block _ (Nat.lt_of_lt_of_le (HOW.out.lt k hk).2 HBA.out.size)).trans (HBA.out.block _ (HOW.out.lt k hk).2))) ⟨w1.heap.size, 0, none⟩ 1 1 (evC x) (by rfl) rfl (World.news_of_block (cs := #[.int .u8 x.k, .int .i64 x.r, .int .i64 x.v, .int .i64 x.f, .int .i64 x.a]) (t := 44) (fr := (0, 0)) HZN.out) (evC_one x) (by decide) (by unfold maxLen; omega) (by omega) (Nat.le_trans HK.out (Nat.le_of_lt (Nat.lt_of_lt_of_le HBX.out.lt (Nat.le_trans HBA.out.size HZB.out.size)))) (w1.heap.size + 1) (by simp) ?_
      intro g2 cap2 w6 hown hg hat hlt
      have HF := Lib.hid (put_fin HBX.out HTB.out HOW.out HK.out (by first | exact HBA.out.trans (HZB.out.mono HBA.out.size) | exact (HBA.out.trans (HZB.out.mono HBA.out.size)).drew) hown hg (fun k hk => by cases hk; rcases hat with e | e; exact .inl e; exact .inr (by rw [e]; simp)))
      have hc6 := HF.out.1
      have hf6 := HF.out.2.1
      have HO6 := Lib.hid ((hg.block _ (heap_some_lt hHeld.1) (fun e => by have h1 := (HOW.out.lt _ e.symm).2; omega)).trans hHeld.1)
      refine hK.out _ _ ?_ (fun hHeld => ?_)
      · exact put_held2 HO6.out
      clear hK K
      try simp only [List.getElem_toArray, List.getElem_cons_succ, List.getElem_cons_zero, Act.put, List.setIfInBounds_toArray, List.set_cons_zero, List.set_cons_succ]
      clear hown hg hat hlt
      refine wpAnyH_take (i := 8) (v := .pointer (some ⟨kb, 0, none⟩)) rfl (by kernel_rfl) (by kernel_rfl) (by kernel_rfl) (fun _ _ _ h => h) (Or.inl ⟨by rfl, fun W hSW => ?_⟩) hHeld ?_
      · ((try dsimp only at hSW); go_split_ands; go_simp <;> with_reducible rfl)
      try simp only [List.getElem_toArray, List.getElem_cons_succ, List.getElem_cons_zero, Act.put, List.setIfInBounds_toArray, List.set_cons_zero, List.set_cons_succ]
      refine wpAnyH_take (i := 9) (v := .pointer (some ⟨kb, 3, none⟩)) rfl (by kernel_rfl) (by kernel_rfl) (by kernel_rfl) (fun _ _ _ h => h) (Or.inl ⟨by rfl, fun W hSW => ?_⟩) hHeld ?_
      · ((try dsimp only at hSW); go_split_ands; go_simp <;> with_reducible rfl)
      try simp only [List.getElem_toArray, List.getElem_cons_succ, List.getElem_cons_zero, Act.put, List.setIfInBounds_toArray, List.set_cons_zero, List.set_cons_succ]
      refine wpAnyH_ready (rs := [10]) (by kernel_rfl) (by simp) ?_
      refine AllReadyH.cons rfl (fun K hK => ?_) AllReadyH.nil
      try simp only [List.getElem_toArray, List.getElem_cons_succ, List.getElem_cons_zero]
      go_simp
      try go_wp2_with fail
      refine hK.out _ _ ?_ (fun hHeld => ?_)
      · exact put_held2 ((Below.heap_setCell _ _ _ _ (by have h1 := HBX.out.lt; exact fun e => absurd e (by show ¬ w.heap.size = kb; omega))).trans HO6.out)
      clear hK K
      try simp only [List.getElem_toArray, List.getElem_cons_succ, List.getElem_cons_zero, Act.put, List.setIfInBounds_toArray, List.set_cons_zero, List.set_cons_succ]
      refine wpAnyH_done (by kernel_rfl) ?_ _
      clear hHeld
      go_wp2_with fail
      go_ret
      exact (HE.out _ _).2 ⟨rfl, HF.out.2.2.1, _, HF.out.2.2.2.1, HF.out.2.2.2.2.1, ⟨_, HF.out.2.2.2.2.2.1⟩, HF.out.2.2.2.2.2.2⟩
    · skip
      try simp only [List.getElem_toArray, List.getElem_cons_succ, List.getElem_cons_zero]
      go_simp
      try go_wp2_with fail
      refine hK.out _ _ ?_ (fun hHeld => ?_)
      · exact put_held2 ((HZB.out.block _ (heap_some_lt HO9.out)).trans HO9.out)
      clear hK K
      try simp only [List.getElem_toArray, List.getElem_cons_succ, List.getElem_cons_zero, Act.put, List.setIfInBounds_toArray, List.set_cons_zero, List.set_cons_succ]
      refine wpAnyH_ready (rs := [4]) (by kernel_rfl) (by simp) ?_
      refine AllReadyH.cons rfl (fun K hK => ?_) AllReadyH.nil
      try simp only [List.getElem_toArray, List.getElem_cons_succ, List.getElem_cons_zero]
      go_simp
      try go_wp2_with fail
      refine hK.out _ _ ?_ (fun hHeld => ?_)
      · exact put_held2 hHeld.1
      clear hK K
      try simp only [List.getElem_toArray, List.getElem_cons_succ, List.getElem_cons_zero, Act.put, List.setIfInBounds_toArray, List.set_cons_zero, List.set_cons_succ]
      refine wpAnyH_ready (rs := [7]) (by kernel_rfl) (by simp) ?_
      refine AllReadyH.cons rfl (fun K hK => ?_) AllReadyH.nil
      refine step_append_lies _ rfl (.tmp 20) (.tmp 22) 37 rfl B 44 i0 (.agg #[.int .u8 0, .int .i64 0, .int .i64 0, .int .i64 0, .int .i64 0]) 5 40 Tryz.underlying37 hi0 hz0 hz1 hz2 rfl (by decide) ve es.length (evCells es) (by rfl) (own_of_block HOW.out (fun k hk => (HZB.out.block _ (Nat.lt_of_lt_of_le (HOW.out.lt k hk).2 HBA.out.size)).trans (HBA.out.block _ (HOW.out.lt k hk).2))) ⟨w1.heap.size, 0, none⟩ 1 1 (evC x) (by rfl) rfl (World.news_of_block (cs := #[.int .u8 x.k, .int .i64 x.r, .int .i64 x.v, .int .i64 x.f, .int .i64 x.a]) (t := 44) (fr := (0, 0)) HZN.out) (evC_one x) (by decide) (by unfold maxLen; omega) (by omega) (Nat.le_trans HK.out (Nat.le_of_lt (Nat.lt_of_lt_of_le HBX.out.lt (Nat.le_trans HBA.out.size HZB.out.size)))) (w1.heap.size + 1) (by simp) ?_
      intro g2 cap2 w6 hown hg hat hlt
      have HF := Lib.hid (put_fin HBX.out HTB.out HOW.out HK.out (by first | exact HBA.out.trans (HZB.out.mono HBA.out.size) | exact (HBA.out.trans (HZB.out.mono HBA.out.size)).drew) hown hg (fun k hk => by cases hk; rcases hat with e | e; exact .inl e; exact .inr (by rw [e]; simp)))
      have hc6 := HF.out.1
      have hf6 := HF.out.2.1
      have HO6 := Lib.hid ((hg.block _ (heap_some_lt hHeld.1) (fun e => by have h1 := (HOW.out.lt _ e.symm).2; omega)).trans hHeld.1)
      refine hK.out _ _ ?_ (fun hHeld => ?_)
      · exact put_held2 HO6.out
      clear hK K
      try simp only [List.getElem_toArray, List.getElem_cons_succ, List.getElem_cons_zero, Act.put, List.setIfInBounds_toArray, List.set_cons_zero, List.set_cons_succ]
      clear hown hg hat hlt
      refine wpAnyH_take (i := 8) (v := .pointer (some ⟨kb, 0, none⟩)) rfl (by kernel_rfl) (by kernel_rfl) (by kernel_rfl) (fun _ _ _ h => h) (Or.inl ⟨by rfl, fun W hSW => ?_⟩) hHeld ?_
      · ((try dsimp only at hSW); go_split_ands; go_simp <;> with_reducible rfl)
      try simp only [List.getElem_toArray, List.getElem_cons_succ, List.getElem_cons_zero, Act.put, List.setIfInBounds_toArray, List.set_cons_zero, List.set_cons_succ]
      refine wpAnyH_take (i := 9) (v := .pointer (some ⟨kb, 3, none⟩)) rfl (by kernel_rfl) (by kernel_rfl) (by kernel_rfl) (fun _ _ _ h => h) (Or.inl ⟨by rfl, fun W hSW => ?_⟩) hHeld ?_
      · ((try dsimp only at hSW); go_split_ands; go_simp <;> with_reducible rfl)
      try simp only [List.getElem_toArray, List.getElem_cons_succ, List.getElem_cons_zero, Act.put, List.setIfInBounds_toArray, List.set_cons_zero, List.set_cons_succ]
      refine wpAnyH_ready (rs := [10]) (by kernel_rfl) (by simp) ?_
      refine AllReadyH.cons rfl (fun K hK => ?_) AllReadyH.nil
      try simp only [List.getElem_toArray, List.getElem_cons_succ, List.getElem_cons_zero]
      go_simp
      try go_wp2_with fail
      refine hK.out _ _ ?_ (fun hHeld => ?_)
      · exact put_held2 ((Below.heap_setCell _ _ _ _ (by have h1 := HBX.out.lt; exact fun e => absurd e (by show ¬ w.heap.size = kb; omega))).trans HO6.out)
      clear hK K
      try simp only [List.getElem_toArray, List.getElem_cons_succ, List.getElem_cons_zero, Act.put, List.setIfInBounds_toArray, List.set_cons_zero, List.set_cons_succ]
      refine wpAnyH_done (by kernel_rfl) ?_ _
      clear hHeld
      go_wp2_with fail
      go_ret
      exact (HE.out _ _).2 ⟨rfl, HF.out.2.2.1, _, HF.out.2.2.2.1, HF.out.2.2.2.2.1, ⟨_, HF.out.2.2.2.2.2.1⟩, HF.out.2.2.2.2.2.2⟩

set_option maxRecDepth 100000 in
theorem qtrace_any {B kb rb n o l : Nat} {ve : Value} {es : List Ev} (w : World) (hb : BoxB w kb rb n o l ve) (ho : w.ownsRow B 44 5 ve es.length (evCells es)) (hes : es.length ≤ 1000000) :
    Calls Tryz.prog 16 #[.pointer (some ⟨kb, 0, none⟩)] w fun e w' => (∃ v, e = .returned v ∧ EvRow w'.heap.size w' v es) ∧ Below w.heap.size w w' := by
  obtain ⟨i0, hi0, hz0, hz1, hz2⟩ := info_parts Tryz.infoQEvent
  obtain ⟨_, _, _, c3⟩ := hb.cells
  have HS := Lib.hid (ev_of_row ho).src
  clear hb ho
  go_enter Tryz.func16, Tryz.ntmps16
  go_wp2_with (first
    | (at_builtin
       go_loud (
       refine wpList_append_any rfl _ _ 37 rfl w.heap.size 44 i0 (.agg #[.int .u8 0, .int .i64 0, .int .i64 0, .int .i64 0, .int .i64 0]) 5 40 Tryz.underlying37 hi0 hz0 hz1 hz2 rfl (by decide) (.slice none 0 0) 0 [] rfl (World.ownsRow_nil _ _ _ _) ve es.length (evCells es) rfl (evCells_len es) HS.out (evCells_one es) (by unfold maxLen; omega) (by omega) (Nat.le_refl _) ?_
       intro v1 w1 ho hg
       have HD := Lib.hid (show EvRow w1.heap.size w1 v1 es ∧ Below w.heap.size w w1 from ⟨ev_of_row (own0 ho), (Below.refl _ _).grown hg (Nat.le_refl _) (fun k e => by cases e)⟩)
       clear ho hg)))
  go_ret
  exact ⟨⟨_, rfl, HD.out.1⟩, HD.out.2⟩
end Go.Proofs.YtdkpnbjkehakjaaGreatDoor

/-! layer 15's reference: a box by value -/
namespace Go.Proofs.YtdkpnbjkehakjaaGreatDoor
open Go.RowKit
def tkAt (tk : List Int) (q : Nat) : Int := tk[q]?.getD 0
def leftT (A : List (List Int)) (tk : List Int) (i : Int) : Int := if 0 ≤ i ∧ i < tk.length then ((rowAt A i.toNat).length : Int) - tkAt tk i.toNat else 0
/-- no more is taken than there is -/
def TkOk (A : List (List Int)) (tk : List Int) : Prop := ∀ j, 0 ≤ tkAt tk j ∧ tkAt tk j ≤ (rowAt A j).length
theorem obj8_cell {W0 V : World} {g : Nat} {c0 c1 c2 c3 c4 c5 c6 c7 : Value} {t : TypeId} (h : W0.heap[g]? = some (.cells #[c0, c1, c2, c3, c4, c5, c6, c7] t)) (hb : Below W0.heap.size W0 V) :
    V.cell? ⟨g, 0, none⟩ = some c0 ∧ V.cell? ⟨g, 1, none⟩ = some c1 ∧ V.cell? ⟨g, 2, none⟩ = some c2 ∧ V.cell? ⟨g, 3, none⟩ = some c3 ∧ V.cell? ⟨g, 4, none⟩ = some c4 ∧ V.cell? ⟨g, 5, none⟩ = some c5 ∧ V.cell? ⟨g, 6, none⟩ = some c6 ∧ V.cell? ⟨g, 7, none⟩ = some c7 := by
  have h' := (hb.block g (heap_some_lt h)).trans h
  refine ⟨?_, ?_, ?_, ?_, ?_, ?_, ?_, ?_⟩ <;> simp [World.cell?, h']
theorem left_held {W0 V : World} {g b o : Nat} {c0 c1 c2 c3 c4 c5 c6 c7 u : Value} {t : TypeId} (h : W0.heap[g]? = some (.cells #[c0, c1, c2, c3, c4, c5, c6, c7] t)) (hu : W0.cell? ⟨b, o, none⟩ = some u) (hbl : b < W0.heap.size) (hb : Below W0.heap.size W0 V) :
    Below W0.heap.size W0 V ∧ V.cell? ⟨g, 5, none⟩ = some c5 ∧ V.cell? ⟨g, 6, none⟩ = some c6 ∧ V.cell? ⟨b, o, none⟩ = some u := by
  obtain ⟨_, _, _, _, _, h5, h6, _⟩ := obj8_cell h hb
  exact ⟨hb, h5, h6, (hb.cell (p := ⟨b, o, none⟩) hbl).trans hu⟩

set_option maxRecDepth 100000 in
set_option maxHeartbeats 3200000 in
theorem rleft_any (p0 p1 p2 p3 p4 vin vt vr : Value) (A : List (List Int)) (tk : List Int) (i : Int) (w : World) (ha : GraphM w.heap.size w vin A) (hx : Small A) (ht : Row w.heap.size w vt tk) (hk : TkOk A tk) (hs : ∀ j, (rowAt A j).length ≤ 17592186044416) :
    Calls Tryz.prog 12 #[.agg #[p0, p1, p2, p3, p4, vin, vt, vr], .int .i64 i] w fun e w' => e = .returned (.int .i64 (leftT A tk i)) ∧ Below w.heap.size w w' := by
  obtain ⟨aa, ca, rfl⟩ := ha.form
  obtain ⟨ta, tc, rfl⟩ := ht.form
  have hx0 := hx.1
  obtain ⟨W0, eW0⟩ : ∃ W0, W0 = w.alloc (.cells #[p0, p1, p2, p3, p4, .slice aa A.length ca, .slice ta tk.length tc, vr] 39) := ⟨_, rfl⟩
  have HB0 := Lib.hid (show Below w.heap.size w W0 by rw [eW0]; exact (Below.refl _ _).alloc (Nat.le_refl _) _)
  have HO0 := Lib.hid (show W0.heap[w.heap.size]? = some (.cells #[p0, p1, p2, p3, p4, .slice aa A.length ca, .slice ta tk.length tc, vr] 39) by rw [eW0]; exact new_block rfl rfl)
  have EW0 := Lib.hid eW0
  have HA0 := Lib.hid (ha.below HB0.out)
  have HT0 := Lib.hid (ht.below HB0.out)
  clear eW0 ha ht hx
  by_cases h0 : i < 0
  · have t1 : decide (i < 0) = true := decide_eq_true h0
    have HE := Lib.hid (show leftT A tk i = 0 from if_neg (by omega))
    clear h0
    go_enter Tryz.func12, Tryz.ntmps12
    go_wp2_with fail
    rw [← EW0.out]
    go_ret
    exact ⟨ret_int HE.out.symm, HB0.out⟩
  · have t1 : decide (i < 0) = false := decide_eq_false h0
    by_cases h1 : (tk.length : Int) ≤ i
    · have t2 : decide ((tk.length : Int) ≤ i) = true := decide_eq_true h1
      have HE := Lib.hid (show leftT A tk i = 0 from if_neg (by omega))
      clear h0 h1
      go_enter Tryz.func12, Tryz.ntmps12
      go_wp2_with fail
      rw [← EW0.out]
      go_ret
      exact ⟨ret_int HE.out.symm, HB0.out⟩
    · have t2 : decide ((tk.length : Int) ≤ i) = false := decide_eq_false h1
      obtain ⟨q, rfl⟩ : ∃ q : Nat, i = q := ⟨i.toNat, by omega⟩
      have hq : q < tk.length := by omega
      have t3 : decide (tk.length ≤ q) = false := decide_eq_false (by omega)
      obtain ⟨L, hL⟩ : ∃ L, L = rowZ A (q : Int) := ⟨_, rfl⟩
      obtain ⟨t, htt⟩ : ∃ t, t = tkAt tk q := ⟨_, rfl⟩
      have hzr : rowZ A (q : Int) = rowAt A q := by unfold rowZ; rw [if_pos (by omega)]; rfl
      have hkq := hk q
      have hsq := hs q
      rw [← hzr, ← hL, ← htt] at hkq
      rw [← hzr, ← hL] at hsq
      have HE := Lib.hid (show leftT A tk (q : Int) = (L.length : Int) - t by unfold leftT; rw [if_pos (by omega), Int.toNat_natCast, ← hzr, ← hL, ← htt])
      have hw1 : IntKind.i64.wrap ((L.length : Int) - t) = (L.length : Int) - t := by simp [IntKind.wrap, IntKind.bits, IntKind.signed]; omega
      have hw2 : wrap64 ((L.length : Int) - t) = (L.length : Int) - t := by unfold wrap64; omega
      obtain ⟨tb, to', c, e, htb, hc⟩ := HT0.out.at (by omega)
      cases e
      have HCQ := Lib.hid (show W0.cell? ⟨tb, to' + q, none⟩ = some (.int .i64 t) by rw [htt]; exact hc q hq)
      have HTB := Lib.hid (show tb < W0.heap.size from Nat.lt_of_lt_of_le htb HB0.out.size)
      have i1 : (0 : Int) ≤ q ∧ (q : Int) < tk.length := by omega
      have HL := Lib.hid hL
      clear h0 h1 hk hs hzr htt hc hL
      go_enter Tryz.func12, Tryz.ntmps12
      go_wp2_with fail
      rw [← EW0.out]
      refine wp_region_held_drew (S := (fun V => Below W0.heap.size W0 V ∧ V.cell? ⟨w.heap.size, 5, none⟩ = some (.slice aa A.length ca) ∧ V.cell? ⟨w.heap.size, 6, none⟩ = some (.slice (some ⟨tb, to', none⟩) tk.length tc) ∧ V.cell? ⟨tb, to' + q, none⟩ = some (.int .i64 t))) (by kernel_rfl) ?_ (fun hHeld => ?_)
      · first | exact left_held HO0.out HCQ.out HTB.out (Below.refl _ _) | exact left_held HO0.out HCQ.out HTB.out (Below.refl _ _).drew
      refine wpAnyH_take (i := 0) (v := .pointer (some ⟨w.heap.size, 5, none⟩)) rfl (by kernel_rfl) (by kernel_rfl) (by kernel_rfl) (fun _ _ _ h => h) (Or.inl ⟨by rfl, fun W hSW => ?_⟩) hHeld ?_
      · ((try dsimp only at hSW); go_split_ands; go_simp <;> with_reducible rfl)
      try simp only [List.getElem_toArray, List.getElem_cons_succ, List.getElem_cons_zero, Act.put, List.setIfInBounds_toArray, List.set_cons_zero, List.set_cons_succ]
      refine wpAnyH_take (i := 1) (v := .slice aa A.length ca) rfl (by kernel_rfl) (by kernel_rfl) (by kernel_rfl) (fun _ _ _ h => h) (Or.inl ⟨by rfl, fun W hSW => ?_⟩) hHeld ?_
      · ((try dsimp only at hSW); go_split_ands; go_simp <;> with_reducible rfl)
      try simp only [List.getElem_toArray, List.getElem_cons_succ, List.getElem_cons_zero, Act.put, List.setIfInBounds_toArray, List.set_cons_zero, List.set_cons_succ]
      refine wpAnyH_take (i := 2) (v := .int .i64 (q : Int)) rfl (by kernel_rfl) (by kernel_rfl) (by kernel_rfl) (fun _ _ _ h => h) (Or.inl ⟨by rfl, fun W hSW => ?_⟩) hHeld ?_
      · ((try dsimp only at hSW); go_split_ands; go_simp <;> with_reducible rfl)
      try simp only [List.getElem_toArray, List.getElem_cons_succ, List.getElem_cons_zero, Act.put, List.setIfInBounds_toArray, List.set_cons_zero, List.set_cons_succ]
      refine wpAnyH_take (i := 5) (v := .pointer (some ⟨w.heap.size, 6, none⟩)) rfl (by kernel_rfl) (by kernel_rfl) (by kernel_rfl) (fun _ _ _ h => h) (Or.inl ⟨by rfl, fun W hSW => ?_⟩) hHeld ?_
      · ((try dsimp only at hSW); go_split_ands; go_simp <;> with_reducible rfl)
      try simp only [List.getElem_toArray, List.getElem_cons_succ, List.getElem_cons_zero, Act.put, List.setIfInBounds_toArray, List.set_cons_zero, List.set_cons_succ]
      refine wpAnyH_take (i := 6) (v := .slice (some ⟨tb, to', none⟩) tk.length tc) rfl (by kernel_rfl) (by kernel_rfl) (by kernel_rfl) (fun _ _ _ h => h) (Or.inl ⟨by rfl, fun W hSW => ?_⟩) hHeld ?_
      · ((try dsimp only at hSW); go_split_ands; go_simp <;> with_reducible rfl)
      try simp only [List.getElem_toArray, List.getElem_cons_succ, List.getElem_cons_zero, Act.put, List.setIfInBounds_toArray, List.set_cons_zero, List.set_cons_succ]
      refine wpAnyH_take (i := 7) (v := .int .i64 (q : Int)) rfl (by kernel_rfl) (by kernel_rfl) (by kernel_rfl) (fun _ _ _ h => h) (Or.inl ⟨by rfl, fun W hSW => ?_⟩) hHeld ?_
      · ((try dsimp only at hSW); go_split_ands; go_simp <;> with_reducible rfl)
      try simp only [List.getElem_toArray, List.getElem_cons_succ, List.getElem_cons_zero, Act.put, List.setIfInBounds_toArray, List.set_cons_zero, List.set_cons_succ]
      refine wpAnyH_take (i := 8) (v := .pointer (some ⟨tb, to' + q, none⟩)) rfl (by kernel_rfl) (by kernel_rfl) (by kernel_rfl) (fun _ _ _ h => h) (Or.inl ⟨by rfl, fun W hSW => ?_⟩) hHeld ?_
      · ((try dsimp only at hSW); go_split_ands; go_simp <;> with_reducible rfl)
      try simp only [List.getElem_toArray, List.getElem_cons_succ, List.getElem_cons_zero, Act.put, List.setIfInBounds_toArray, List.set_cons_zero, List.set_cons_succ]
      refine wpAnyH_take (i := 9) (v := .int .i64 t) rfl (by kernel_rfl) (by kernel_rfl) (by kernel_rfl) (fun _ _ _ h => h) (Or.inl ⟨by rfl, fun W hSW => ?_⟩) hHeld ?_
      · ((try dsimp only at hSW); go_split_ands; go_simp <;> with_reducible rfl)
      try simp only [List.getElem_toArray, List.getElem_cons_succ, List.getElem_cons_zero, Act.put, List.setIfInBounds_toArray, List.set_cons_zero, List.set_cons_succ]
      refine wpAnyH_ready (rs := [3]) (by kernel_rfl) (by simp) ?_
      refine AllReadyH.cons rfl (fun K hK => ?_) AllReadyH.nil
      try simp only [List.getElem_toArray, List.getElem_cons_succ, List.getElem_cons_zero]
      go_simp
      (go_at_call 24; refine (rrow_any _ A w.heap.size q _ ((HA0.out.below (hHeld.1.mono HB0.out.size))) hx0).mono ?_; rintro e w1 ⟨⟨v, rfl, hv⟩, rfl⟩; rw [← HL.out] at hv; obtain ⟨va, vc, rfl⟩ := hv.form; clear hv)
      try go_wp2_with fail
      refine hK.out _ _ ?_ (fun hHeld => ?_)
      · exact left_held HO0.out HCQ.out HTB.out hHeld.1
      clear hK K
      try simp only [List.getElem_toArray, List.getElem_cons_succ, List.getElem_cons_zero, Act.put, List.setIfInBounds_toArray, List.set_cons_zero, List.set_cons_succ]
      refine wpAnyH_take (i := 4) (v := .int .i64 (L.length : Int)) rfl (by kernel_rfl) (by kernel_rfl) (by kernel_rfl) (fun _ _ _ h => h) (Or.inl ⟨by rfl, fun W hSW => ?_⟩) hHeld ?_
      · ((try dsimp only at hSW); go_split_ands; go_simp <;> with_reducible rfl)
      try simp only [List.getElem_toArray, List.getElem_cons_succ, List.getElem_cons_zero, Act.put, List.setIfInBounds_toArray, List.set_cons_zero, List.set_cons_succ]
      refine wpAnyH_take (i := 10) (v := .int .i64 ((L.length : Int) - t)) rfl (by kernel_rfl) (by kernel_rfl) (by kernel_rfl) (fun _ _ _ h => h) (Or.inl ⟨by rfl, fun W hSW => ?_⟩) hHeld ?_
      · ((try dsimp only at hSW); go_split_ands; go_simp <;> with_reducible rfl)
      try simp only [List.getElem_toArray, List.getElem_cons_succ, List.getElem_cons_zero, Act.put, List.setIfInBounds_toArray, List.set_cons_zero, List.set_cons_succ]
      refine wpAnyH_take (i := 11) (v := .int .i64 ((L.length : Int) - t)) rfl (by kernel_rfl) (by kernel_rfl) (by kernel_rfl) (fun _ _ _ h => h) (Or.inl ⟨by rfl, fun W hSW => ?_⟩) hHeld ?_
      · ((try dsimp only at hSW); go_split_ands; go_simp <;> with_reducible rfl)
      try simp only [List.getElem_toArray, List.getElem_cons_succ, List.getElem_cons_zero, Act.put, List.setIfInBounds_toArray, List.set_cons_zero, List.set_cons_succ]
      refine wpAnyH_done (by kernel_rfl) ?_ _
      have HBX := Lib.hid hHeld.1
      clear hHeld
      go_wp2_with fail
      go_ret
      exact ⟨ret_int HE.out.symm, HB0.out.trans (HBX.out.mono HB0.out.size)⟩

theorem step_store_row {P : Program} {ops : Array Oper} {E : Prop} {o : Oper} {a : Act} {w : World} {K : Act → World → Prop} {Q : Exit → Act → World → Prop} (hgd : o.guard = none) (ty : TypeId) (x y : Operand) (ho : o.op = .store ty x y)
    (g : Nat) (cells : Array Value) (hx : a.eval x = .pointer (some ⟨g, 0, none⟩)) (hy : a.eval y = .agg cells)
    (t : TypeId) (old : Array Value) (hg : w.heap[g]? = some (.cells old t (0, 0))) (hi : (P.info? ty).map (·.size) = some cells.size)
    (hold : old.size = cells.size) (h1 : cells.all (·.oneCell') = true)
    (h : K (a.put o.dst undef) (w.setRow g cells)) : if Region.wanted o (yielded ops a.tmps) = true then Oper.wp P o a w K Q else E := by
  rw [if_pos (by simp [Region.wanted, hgd])]
  exact wp_store_row ty x y ho g cells hx hy t old hg hi hold h1 h
/-- a block of the call's own is stored whole -/
theorem row_set8 {w W : World} {g : Nat} {old cs : Array Value} {t : TypeId} (h : Below w.heap.size w W) (hg : w.heap.size ≤ g) (ho : W.heap[g]? = some (.cells old t (0, 0))) : Below w.heap.size w (W.setRow g cs) ∧ (W.setRow g cs).heap[g]? = some (.cells cs t (0, 0)) :=
  ⟨h.trans ⟨rfl, rfl, rfl, by simp [World.setRow], fun k hk => setRow_other W g k cs (by omega)⟩, setRow_heap W g old cs t (0, 0) ho⟩
theorem pol_held {V : World} {g : Nat} {c0 c1 c2 c3 c4 : Value} (h : V.heap[g]? = some (.cells #[c0, c1, c2, c3, c4] 26)) : V.heap[g]? = some (.cells #[c0, c1, c2, c3, c4] 26) ∧ V.cell? ⟨g, 0, none⟩ = some c0 ∧ V.cell? ⟨g, 1, none⟩ = some c1 ∧ V.cell? ⟨g, 2, none⟩ = some c2 ∧ V.cell? ⟨g, 3, none⟩ = some c3 ∧ V.cell? ⟨g, 4, none⟩ = some c4 := by
  obtain ⟨p0, p1, p2, p3, p4⟩ := obj5_cell h (Below.refl _ _)
  exact ⟨h, p0, p1, p2, p3, p4⟩
theorem new_held {B : Nat} {W V : World} {g q : Nat} {c0 c1 c2 c3 c4 : Value} (hb : Below B W V) (h : V.heap[g]? = some (.cells #[c0, c1, c2, c3, c4] 26)) (hq : ∃ c, V.heap[q]? = some (.cells c 39 (0, 0)) ∧ c.size = 8) :
    Below B W V ∧ V.heap[g]? = some (.cells #[c0, c1, c2, c3, c4] 26) ∧ (∃ c, V.heap[q]? = some (.cells c 39 (0, 0)) ∧ c.size = 8) ∧ V.cell? ⟨g, 0, none⟩ = some c0 ∧ V.cell? ⟨g, 1, none⟩ = some c1 ∧ V.cell? ⟨g, 2, none⟩ = some c2 ∧ V.cell? ⟨g, 3, none⟩ = some c3 ∧ V.cell? ⟨g, 4, none⟩ = some c4 := by
  obtain ⟨p0, p1, p2, p3, p4⟩ := obj5_cell h (Below.refl _ _)
  exact ⟨hb, h, hq, p0, p1, p2, p3, p4⟩
theorem made_own (w : World) (B n : Nat) (hB : B ≤ w.heap.size) (hn : n ≤ maxLen) : (w.alloc (.cells (madeCells #[.int .i64 0] n) 3)).ownsRow B 3 1 (.slice (some ⟨w.heap.size, 0, none⟩) n n) n (intsV (List.replicate n 0)) := by
  have h := World.ownsRow_lit (base := B) (e := 3) (size := 1) w (madeCells #[.int .i64 0] n) n hB hn (by rw [size_madeCells, Nat.mul_one])
  have e : (madeCells #[Value.int .i64 0] n).toList = intsV (List.replicate n 0) := by
    apply List.ext_getElem?
    intro j
    unfold intsV madeCells
    by_cases hj : j < n
    · simp [hj, Nat.mod_one]
    · simp [hj]
  rw [← e]; exact h
def zero8 : Array Value := #[.slice none 0 0, .slice none 0 0, .slice none 0 0, .slice none 0 0, .int .i64 0, .slice none 0 0, .slice none 0 0, .slice none 0 0]
theorem built8_zero : Tryz.prog.built 39 [] = some #[.slice none 0 0, .slice none 0 0, .slice none 0 0, .slice none 0 0, .int .i64 0, .slice none 0 0, .slice none 0 0, .slice none 0 0] := by kernel_rfl
def RNewE (v0 v1 v2 v3 : Value) (st : PSt) (S : List Int) (a : Value) (A : List (List Int)) (e : Ending) (w w' : World) : Prop :=
  Below w.heap.size w w' ∧ (((rightP st S && fillOk st.I.length A) = true ∧ ∃ tv, e = .returned (.tuple #[.agg #[v0, v1, v2, v3, .int .i64 st.D, a, tv, .slice none 0 0], .int .i64 0]) ∧ w'.ownsRow w.heap.size 3 1 tv st.I.length (intsV (List.replicate st.I.length 0))) ∨
    ((rightP st S && fillOk st.I.length A) = false ∧ e = .returned (.tuple #[.agg #[.slice none 0 0, .slice none 0 0, .slice none 0 0, .slice none 0 0, .int .i64 0, .slice none 0 0, .slice none 0 0, .slice none 0 0], .int .i64 1])))
set_option maxRecDepth 100000 in
set_option maxHeartbeats 3200000 in
theorem rnew_any (v0 v1 v2 v3 : Value) (st : PSt) (S : List Int) (a : Value) (A : List (List Int)) (w : World) (h : PolIn w v0 v1 v2 v3 st S) (hw : Wide S) (hsh : Short9 st) (ha : GraphM w.heap.size w a A) (hx : Small A) :
    Calls Tryz.prog 7 #[.agg #[v0, v1, v2, v3, .int .i64 st.D], a] w fun e w' => RNewE v0 v1 v2 v3 st S a A e w w' := by
  obtain ⟨a0, k0, rfl⟩ := h.s0.form
  obtain ⟨a1, k1, rfl⟩ := h.s1.form
  obtain ⟨a2, k2, rfl⟩ := h.s2.form
  obtain ⟨a3, k3, rfl⟩ := h.s3.form
  obtain ⟨aa, ca, rfl⟩ := ha.form
  obtain ⟨W0, eW0⟩ : ∃ W0, W0 = (w.alloc (.cells #[.slice a0 st.L.length k0, .slice a1 S.length k1, .slice a2 st.I.length k2, .slice a3 st.O.length k3, .int .i64 st.D] 26)).alloc (.cells #[.slice none 0 0, .slice none 0 0, .slice none 0 0, .slice none 0 0, .int .i64 0, .slice none 0 0, .slice none 0 0, .slice none 0 0] 39) := ⟨_, rfl⟩
  have HB0 := Lib.hid (show Below w.heap.size w W0 by rw [eW0]; exact ((Below.refl _ _).alloc (Nat.le_refl _) _).alloc (by simp) _)
  have HO0 := Lib.hid (show W0.heap[w.heap.size]? = some (.cells #[.slice a0 st.L.length k0, .slice a1 S.length k1, .slice a2 st.I.length k2, .slice a3 st.O.length k3, .int .i64 st.D] 26) by rw [eW0]; exact ((Below.refl _ _).alloc (Nat.le_refl _) _ |>.block w.heap.size (by simp)).trans (new_block rfl rfl))
  have HQ0 := Lib.hid (show W0.heap[w.heap.size + 1]? = some (.cells #[.slice none 0 0, .slice none 0 0, .slice none 0 0, .slice none 0 0, .int .i64 0, .slice none 0 0, .slice none 0 0, .slice none 0 0] 39) by rw [eW0]; exact new_block rfl (by simp))
  have HP0 := Lib.hid (h.below HB0.out)
  have HA0 := Lib.hid ((ha.below HB0.out).mono HB0.out.size)
  have HX := Lib.hid hx
  have HSH := Lib.hid hsh
  have HWD := Lib.hid hw
  have EW0 := Lib.hid eW0
  clear h hsh hw eW0 ha hx
  cases hr : (rightP st S && fillOk st.I.length A)
  · have HR := Lib.hid hr
    clear hr
    go_enter Tryz.func7, Tryz.ntmps7
    go_wp2_with (first
      | (refine wpList_build rfl 39 #[] rfl (by kernel_rfl) ?_; change wpList _ _ _ _ (Act.put _ _ (.agg ((Tryz.prog.built 39 []).getD #[]))) _; rw [built8_zero, Option.getD_some])
      | (refine wpList_store_row rfl 39 (.tmp 4) (.tmp 10) rfl (w.heap.size + 1) #[.slice none 0 0, .slice none 0 0, .slice none 0 0, .slice none 0 0, .int .i64 0, .slice none 0 0, .slice none 0 0, .slice none 0 0] rfl rfl 39 #[.slice none 0 0, .slice none 0 0, .slice none 0 0, .slice none 0 0, .int .i64 0, .slice none 0 0, .slice none 0 0, .slice none 0 0] HQ1.out (by kernel_rfl) rfl (by simp [Value.oneCell']) ?_)
      | (go_at_call 20; rw [← EW0.out]; refine (rright15_any _ _ _ _ st S _ A _ HP0.out HWD.out HSH.out HA0.out HX.out).mono ?_; rintro e w1 ⟨rfl, hb⟩; rw [HR.out]; have HB1 := Lib.hid (HB0.out.trans (hb.mono HB0.out.size)); have HQ1 := Lib.hid ((hb.block _ (heap_some_lt HQ0.out)).trans HQ0.out); clear hb))
    have HS := Lib.hid (row_set8 (cs := #[.slice none 0 0, .slice none 0 0, .slice none 0 0, .slice none 0 0, .int .i64 0, .slice none 0 0, .slice none 0 0, .slice none 0 0]) HB1.out (Nat.le_succ _) HQ1.out)
    obtain ⟨d0, d1, d2, d3, d4, d5, d6, d7⟩ := obj8_cell HS.out.2 (Below.refl _ _)
    refine bodyPost_ret (v := .tuple #[.agg #[.slice none 0 0, .slice none 0 0, .slice none 0 0, .slice none 0 0, .int .i64 0, .slice none 0 0, .slice none 0 0, .slice none 0 0], .int .i64 1]) (by simp [results, Tryz.results7, go_sem, d0, d1, d2, d3, d4, d5, d6, d7]) rfl ?_
    exact ⟨HS.out.1, .inr ⟨HR.out, rfl⟩⟩
  · have HR := Lib.hid hr
    have i32 : st.I.length ≤ 4294967296 := by
      rw [Bool.and_eq_true] at hr
      exact (right_sizes hr.1).2.2.1 |> fun h => by omega
    clear hr
    have hmk := run_make_row' (P := Tryz.prog) 36 3 (.int .i64 0) 8 (by kernel_rfl) Tryz.infoQNum rfl .i64 .i64 st.I.length (by omega) (by omega)
    go_enter Tryz.func7, Tryz.ntmps7
    go_wp2_with (go_at_call 20; rw [← EW0.out]; refine (rright15_any _ _ _ _ st S _ A _ HP0.out HWD.out HSH.out HA0.out HX.out).mono ?_; rintro e w1 ⟨rfl, hb⟩; rw [HR.out]; have HB1 := Lib.hid (HB0.out.trans (hb.mono HB0.out.size)); have HQ1 := Lib.hid ((hb.block _ (heap_some_lt HQ0.out)).trans HQ0.out); have HO1 := Lib.hid ((hb.block _ (heap_some_lt HO0.out)).trans HO0.out); clear hb)
    refine wp_region_held_drew (S := (fun V => Below w.heap.size w V ∧ V.heap[w.heap.size]? = some (.cells #[.slice a0 st.L.length k0, .slice a1 S.length k1, .slice a2 st.I.length k2, .slice a3 st.O.length k3, .int .i64 st.D] 26) ∧ (∃ c, V.heap[w.heap.size + 1]? = some (.cells c 39 (0, 0)) ∧ c.size = 8) ∧ V.cell? ⟨w.heap.size, 0, none⟩ = some (.slice a0 st.L.length k0) ∧ V.cell? ⟨w.heap.size, 1, none⟩ = some (.slice a1 S.length k1) ∧ V.cell? ⟨w.heap.size, 2, none⟩ = some (.slice a2 st.I.length k2) ∧ V.cell? ⟨w.heap.size, 3, none⟩ = some (.slice a3 st.O.length k3) ∧ V.cell? ⟨w.heap.size, 4, none⟩ = some (.int .i64 st.D))) (by kernel_rfl) ?_ (fun hHeld => ?_)
    · first | exact new_held HB1.out HO1.out ⟨_, HQ1.out, rfl⟩ | exact new_held HB1.out.drew HO1.out ⟨_, HQ1.out, rfl⟩
    refine wpAnyH_take (i := 0) (v := .agg #[.slice a0 st.L.length k0, .slice a1 S.length k1, .slice a2 st.I.length k2, .slice a3 st.O.length k3, .int .i64 st.D]) rfl (by kernel_rfl) (by kernel_rfl) (by kernel_rfl) (fun _ _ _ h => h) (Or.inl ⟨by rfl, fun W hSW => ?_⟩) hHeld ?_
    · ((try dsimp only at hSW); go_split_ands; go_simp <;> with_reducible rfl)
    try simp only [List.getElem_toArray, List.getElem_cons_succ, List.getElem_cons_zero, Act.put, List.setIfInBounds_toArray, List.set_cons_zero, List.set_cons_succ]
    refine wpAnyH_take (i := 1) (v := .slice aa A.length ca) rfl (by kernel_rfl) (by kernel_rfl) (by kernel_rfl) (fun _ _ _ h => h) (Or.inl ⟨by rfl, fun W hSW => ?_⟩) hHeld ?_
    · ((try dsimp only at hSW); go_split_ands; go_simp <;> with_reducible rfl)
    try simp only [List.getElem_toArray, List.getElem_cons_succ, List.getElem_cons_zero, Act.put, List.setIfInBounds_toArray, List.set_cons_zero, List.set_cons_succ]
    refine wpAnyH_take (i := 2) (v := .pointer (some ⟨w.heap.size, 2, none⟩)) rfl (by kernel_rfl) (by kernel_rfl) (by kernel_rfl) (fun _ _ _ h => h) (Or.inl ⟨by rfl, fun W hSW => ?_⟩) hHeld ?_
    · ((try dsimp only at hSW); go_split_ands; go_simp <;> with_reducible rfl)
    try simp only [List.getElem_toArray, List.getElem_cons_succ, List.getElem_cons_zero, Act.put, List.setIfInBounds_toArray, List.set_cons_zero, List.set_cons_succ]
    refine wpAnyH_take (i := 3) (v := .slice a2 st.I.length k2) rfl (by kernel_rfl) (by kernel_rfl) (by kernel_rfl) (fun _ _ _ h => h) (Or.inl ⟨by rfl, fun W hSW => ?_⟩) hHeld ?_
    · ((try dsimp only at hSW); go_split_ands; go_simp <;> with_reducible rfl)
    try simp only [List.getElem_toArray, List.getElem_cons_succ, List.getElem_cons_zero, Act.put, List.setIfInBounds_toArray, List.set_cons_zero, List.set_cons_succ]
    refine wpAnyH_take (i := 4) (v := .int .i64 (st.I.length : Int)) rfl (by kernel_rfl) (by kernel_rfl) (by kernel_rfl) (fun _ _ _ h => h) (Or.inl ⟨by rfl, fun W hSW => ?_⟩) hHeld ?_
    · ((try dsimp only at hSW); go_split_ands; go_simp <;> with_reducible rfl)
    try simp only [List.getElem_toArray, List.getElem_cons_succ, List.getElem_cons_zero, Act.put, List.setIfInBounds_toArray, List.set_cons_zero, List.set_cons_succ]
    refine wpAnyH_ready (rs := [5]) (by kernel_rfl) (by simp) ?_
    refine AllReadyH.cons rfl (fun K hK => ?_) AllReadyH.nil
    try simp only [List.getElem_toArray, List.getElem_cons_succ, List.getElem_cons_zero]
    go_simp
    try go_wp2_with fail
    refine hK.out _ _ ?_ (fun hHeld => ?_)
    · exact new_held (hHeld.1.alloc hHeld.1.size _) ((heap_alloc_old _ _ (heap_some_lt hHeld.2.1)).trans hHeld.2.1) (by obtain ⟨c, h1, h2⟩ := hHeld.2.2.1; exact ⟨c, (heap_alloc_old _ _ (heap_some_lt h1)).trans h1, h2⟩)
    clear hK K
    try simp only [List.getElem_toArray, List.getElem_cons_succ, List.getElem_cons_zero, Act.put, List.setIfInBounds_toArray, List.set_cons_zero, List.set_cons_succ]
    refine wpAnyH_take (i := 6) (v := .agg #[.slice a0 st.L.length k0, .slice a1 S.length k1, .slice a2 st.I.length k2, .slice a3 st.O.length k3, .int .i64 st.D, .slice aa A.length ca, .slice (some ⟨w1.heap.size, 0, none⟩) st.I.length st.I.length, .slice none 0 0]) rfl (by kernel_rfl) (by kernel_rfl) (by kernel_rfl) (fun _ _ _ h => h) (Or.inl ⟨by rfl, fun W hSW => ?_⟩) hHeld ?_
    · ((try dsimp only at hSW); go_split_ands; go_simp <;> with_reducible rfl)
    try simp only [List.getElem_toArray, List.getElem_cons_succ, List.getElem_cons_zero, Act.put, List.setIfInBounds_toArray, List.set_cons_zero, List.set_cons_succ]
    obtain ⟨cq, hq1, hq2⟩ := hHeld.2.2.1
    have HS := Lib.hid (row_set8 (cs := #[.slice a0 st.L.length k0, .slice a1 S.length k1, .slice a2 st.I.length k2, .slice a3 st.O.length k3, .int .i64 st.D, .slice aa A.length ca, .slice (some ⟨w1.heap.size, 0, none⟩) st.I.length st.I.length, .slice none 0 0]) hHeld.1 (Nat.le_succ _) hq1)
    refine wpAnyH_ready (rs := [7]) (by kernel_rfl) (by simp) ?_
    refine AllReadyH.cons rfl (fun K hK => ?_) AllReadyH.nil
    refine step_store_row rfl 39 (.tmp 4) (.tmp 17) rfl (w.heap.size + 1) #[.slice a0 st.L.length k0, .slice a1 S.length k1, .slice a2 st.I.length k2, .slice a3 st.O.length k3, .int .i64 st.D, .slice aa A.length ca, .slice (some ⟨w1.heap.size, 0, none⟩) st.I.length st.I.length, .slice none 0 0] (by rfl) (by rfl) 39 cq hq1 (by kernel_rfl) hq2 (by simp [Value.oneCell']) ?_
    refine hK.out _ _ ?_ (fun hHeld => ?_)
    · exact new_held HS.out.1 ((setRow_other _ _ _ _ (by omega)).trans hHeld.2.1) ⟨_, HS.out.2, rfl⟩
    clear hK K
    try simp only [List.getElem_toArray, List.getElem_cons_succ, List.getElem_cons_zero, Act.put, List.setIfInBounds_toArray, List.set_cons_zero, List.set_cons_succ]
    refine wpAnyH_take (i := 8) (v := .int .i64 0) rfl (by kernel_rfl) (by kernel_rfl) (by kernel_rfl) (fun _ _ _ h => h) (Or.inl ⟨by rfl, fun W hSW => ?_⟩) hHeld ?_
    · ((try dsimp only at hSW); go_split_ands; go_simp <;> with_reducible rfl)
    try simp only [List.getElem_toArray, List.getElem_cons_succ, List.getElem_cons_zero, Act.put, List.setIfInBounds_toArray, List.set_cons_zero, List.set_cons_succ]
    refine wpAnyH_done (by kernel_rfl) ?_ _
    clear hHeld hq1 hq2 hmk
    go_wp2_with fail
    obtain ⟨d0, d1, d2, d3, d4, d5, d6, d7⟩ := obj8_cell HS.out.2 (Below.refl _ _)
    refine bodyPost_ret (v := .tuple #[.agg #[.slice a0 st.L.length k0, .slice a1 S.length k1, .slice a2 st.I.length k2, .slice a3 st.O.length k3, .int .i64 st.D, .slice aa A.length ca, .slice (some ⟨w1.heap.size, 0, none⟩) st.I.length st.I.length, .slice none 0 0], .int .i64 0]) (by simp [results, Tryz.results7, go_sem, d0, d1, d2, d3, d4, d5, d6, d7]) rfl ?_
    refine ⟨HS.out.1, .inl ⟨HR.out, _, rfl, ?_⟩⟩
    exact own_of_block (made_own w1 w.heap.size st.I.length HB1.out.size (by unfold maxLen; omega)) (fun k hk => setRow_other _ (w.heap.size + 1) k _ (by have h1 := heap_some_lt HQ1.out; have h2 : w1.heap.size = k := Option.some.inj hk; omega))
end Go.Proofs.YtdkpnbjkehakjaaGreatDoor

/-! layer 15's reference: Take -/
namespace Go.Proofs.YtdkpnbjkehakjaaGreatDoor
open Go.RowKit
def RTakeE (a0 a1 a2 a3 aa ta ra : Option Addr) (n0 n1 n2 n3 rn k0 k1 k2 k3 ca tc rc : Nat) (d : Int) (A : List (List Int)) (tk : List Int) (i : Int) (e : Ending) (w w' : World) : Prop :=
  Below w.heap.size w w' ∧
  if 0 ≤ i ∧ i < tk.length then
    if ((rowAt A i.toNat).length : Int) - tkAt tk i.toNat ≤ 0 then e = .returned (.tuple #[.agg #[.slice a0 n0 k0, .slice a1 n1 k1, .slice a2 n2 k2, .slice a3 n3 k3, .int .i64 d, .slice aa A.length ca, .slice ta tk.length tc, .slice ra rn rc], .int .i64 0, .int .i64 23])
    else ∃ tb cap, e = .returned (.tuple #[.agg #[.slice a0 n0 k0, .slice a1 n1 k1, .slice a2 n2 k2, .slice a3 n3 k3, .int .i64 d, .slice aa A.length ca, .slice (some ⟨tb, 0, none⟩) tk.length cap, .slice ra rn rc], .int .i64 ((rowAt A i.toNat)[(tkAt tk i.toNat).toNat]?.getD 0), .int .i64 0]) ∧ w'.ownsRow w.heap.size 3 1 (.slice (some ⟨tb, 0, none⟩) tk.length cap) tk.length (intsV (tk.set i.toNat (tkAt tk i.toNat + 1)))
  else e = .returned (.tuple #[.agg #[.slice a0 n0 k0, .slice a1 n1 k1, .slice a2 n2 k2, .slice a3 n3 k3, .int .i64 d, .slice aa A.length ca, .slice ta tk.length tc, .slice ra rn rc], .int .i64 0, .int .i64 1])
theorem box8_one {a0 a1 a2 a3 aa ta ra : Option Addr} {n0 n1 n2 n3 rn k0 k1 k2 k3 ca tc rc n5 n6 : Nat} {d : Int} : (#[.slice a0 n0 k0, .slice a1 n1 k1, .slice a2 n2 k2, .slice a3 n3 k3, .int .i64 d, .slice aa n5 ca, .slice ta n6 tc, .slice ra rn rc] : Array Value).all (·.oneCell') = true := by simp [Value.oneCell']

theorem rtake_mid {w w1 w2 : World} {a0 a1 a2 a3 aa ta ra : Option Addr} {n0 n1 n2 n3 rn k0 k1 k2 k3 ca tc rc : Nat} {d : Int} {A : List (List Int)} {tk : List Int} {tb cap : Nat} (HB : Below w.heap.size w w1) (HO : w1.heap[w.heap.size]? = some (.cells #[.slice a0 n0 k0, .slice a1 n1 k1, .slice a2 n2 k2, .slice a3 n3 k3, .int .i64 d, .slice aa A.length ca, .slice ta tk.length tc, .slice ra rn rc] 39)) (HQ : w1.heap[w.heap.size + 1]? = some (.cells #[.slice none 0 0, .slice none 0 0, .slice none 0 0, .slice none 0 0, .int .i64 0, .slice none 0 0, .slice none 0 0, .slice none 0 0] 39))
    (ho : w2.ownsRow w.heap.size 3 1 (.slice (some ⟨tb, 0, none⟩) tk.length cap) tk.length (intsV tk)) (hg : (w1.alloc (.cells #[] 3)).grownBy w2 (some w1.heap.size)) :
    w2.cell? ⟨w.heap.size, 6, none⟩ = some (.slice ta tk.length tc) ∧ w2.frozen? ⟨w.heap.size, 6, none⟩ = false ∧ Below w.heap.size w (w2.setCell ⟨w.heap.size, 6, none⟩ (.slice (some ⟨tb, 0, none⟩) tk.length cap)) ∧ (w2.setCell ⟨w.heap.size, 6, none⟩ (.slice (some ⟨tb, 0, none⟩) tk.length cap)).heap[w.heap.size]? = some (.cells #[.slice a0 n0 k0, .slice a1 n1 k1, .slice a2 n2 k2, .slice a3 n3 k3, .int .i64 d, .slice aa A.length ca, .slice (some ⟨tb, 0, none⟩) tk.length cap, .slice ra rn rc] 39) ∧ (w2.setCell ⟨w.heap.size, 6, none⟩ (.slice (some ⟨tb, 0, none⟩) tk.length cap)).heap[w.heap.size + 1]? = some (.cells #[.slice none 0 0, .slice none 0 0, .slice none 0 0, .slice none 0 0, .int .i64 0, .slice none 0 0, .slice none 0 0, .slice none 0 0] 39) ∧ (w2.setCell ⟨w.heap.size, 6, none⟩ (.slice (some ⟨tb, 0, none⟩) tk.length cap)).ownsRow w.heap.size 3 1 (.slice (some ⟨tb, 0, none⟩) tk.length cap) tk.length (intsV tk) := by
  have l1 := heap_some_lt HQ
  have k : ∀ j, j < w1.heap.size → w2.heap[j]? = w1.heap[j]? := fun j hj => (hg.block j (by simp; omega) (by intro e; have := Option.some.inj e; omega)).trans (heap_alloc_old _ _ hj)
  have h1 := (k _ (heap_some_lt HO)).trans HO
  have h2 := (k _ l1).trans HQ
  have hb : Below w.heap.size w w2 := (HB.alloc HB.size _).grown hg (by have := HB.size; simp; omega) (fun j e => by cases e; exact HB.size)
  have hne := own_other ho h1 (by decide)
  refine ⟨?_, block_frozen h1, hb.setCell (p := ⟨w.heap.size, 6, none⟩) (Nat.le_refl _) _, set_obj (c := 6) _ h1, (Below.heap_setCell _ _ _ _ (by show w.heap.size + 1 ≠ w.heap.size; omega)).trans h2, own_of_block ho (fun j hj => Below.heap_setCell _ _ _ _ (fun e => hne (by rw [hj]; exact congrArg some e)))⟩
  obtain ⟨_, _, _, _, _, _, h6, _⟩ := obj8_cell h1 (Below.refl _ _)
  exact h6

theorem rtake_end {w W3 : World} {a0 a1 a2 a3 aa ra : Option Addr} {n0 n1 n2 n3 rn k0 k1 k2 k3 ca rc : Nat} {d : Int} {A : List (List Int)} {tk : List Int} {tb cap q : Nat} (HB : Below w.heap.size w W3) (HO : W3.heap[w.heap.size]? = some (.cells #[.slice a0 n0 k0, .slice a1 n1 k1, .slice a2 n2 k2, .slice a3 n3 k3, .int .i64 d, .slice aa A.length ca, .slice (some ⟨tb, 0, none⟩) tk.length cap, .slice ra rn rc] 39)) (HQ : W3.heap[w.heap.size + 1]? = some (.cells #[.slice none 0 0, .slice none 0 0, .slice none 0 0, .slice none 0 0, .int .i64 0, .slice none 0 0, .slice none 0 0, .slice none 0 0] 39))
    (ho : W3.ownsRow w.heap.size 3 1 (.slice (some ⟨tb, 0, none⟩) tk.length cap) tk.length (intsV tk)) (hq : q < tk.length) (m x : Int) :
    Below w.heap.size w ((W3.setCell ⟨tb, q, none⟩ (.int .i64 (m + 1))).drew) ∧ ((W3.setCell ⟨tb, q, none⟩ (.int .i64 (m + 1))).drew).heap[w.heap.size]? = some (.cells #[.slice a0 n0 k0, .slice a1 n1 k1, .slice a2 n2 k2, .slice a3 n3 k3, .int .i64 d, .slice aa A.length ca, .slice (some ⟨tb, 0, none⟩) tk.length cap, .slice ra rn rc] 39) ∧ ((W3.setCell ⟨tb, q, none⟩ (.int .i64 (m + 1))).drew).heap[w.heap.size + 1]? = some (.cells #[.slice none 0 0, .slice none 0 0, .slice none 0 0, .slice none 0 0, .int .i64 0, .slice none 0 0, .slice none 0 0, .slice none 0 0] 39) ∧ ((W3.setCell ⟨tb, q, none⟩ (.int .i64 (m + 1))).drew).ownsRow w.heap.size 3 1 (.slice (some ⟨tb, 0, none⟩) tk.length cap) tk.length (intsV (tk.set q (m + 1))) := by
  have r1 : w.heap.size ≠ tb := fun e => own_other ho HO (by decide) (congrArg some e.symm)
  have r2 : w.heap.size + 1 ≠ tb := fun e => own_other ho HQ (by decide) (congrArg some e.symm)
  have e1 := Below.heap_setCell W3 ⟨tb, q, none⟩ (.int .i64 (m + 1)) w.heap.size r1
  have e2 := Below.heap_setCell W3 ⟨tb, q, none⟩ (.int .i64 (m + 1)) (w.heap.size + 1) r2
  refine ⟨(HB.setCell (p := ⟨tb, q, none⟩) (ho.lt tb rfl).1 _).drew, e1.trans HO, e2.trans HQ, ?_⟩
  have h := (World.ownsRow.stored ho q (.int .i64 (m + 1))).1
  unfold intsV at h ⊢
  rw [List.map_set]
  exact own_of_block h (fun k hk => rfl)

set_option maxRecDepth 100000 in
set_option maxHeartbeats 6400000 in
theorem rtake_any (a0 a1 a2 a3 ra : Option Addr) (n0 n1 n2 n3 rn k0 k1 k2 k3 rc : Nat) (d : Int) (aa ta : Option Addr) (ca tc B : Nat) (A : List (List Int)) (tk : List Int) (i : Int) (w : World) (ha : GraphM w.heap.size w (.slice aa A.length ca) A) (hx : Small A)
    (ht : w.ownsRow B 3 1 (.slice ta tk.length tc) tk.length (intsV tk)) (hn : tk.length ≤ 4294967296) (hk : TkOk A tk) (hs : ∀ j, (rowAt A j).length ≤ 4294967296) :
    Calls Tryz.prog 10 #[.agg #[.slice a0 n0 k0, .slice a1 n1 k1, .slice a2 n2 k2, .slice a3 n3 k3, .int .i64 d, .slice aa A.length ca, .slice ta tk.length tc, .slice ra rn rc], .int .i64 i] w fun e w' => RTakeE a0 a1 a2 a3 aa ta ra n0 n1 n2 n3 rn k0 k1 k2 k3 ca tc rc d A tk i e w w' := by
  have hx0 := hx.1
  obtain ⟨W0, eW0⟩ : ∃ W0, W0 = (w.alloc (.cells #[.slice a0 n0 k0, .slice a1 n1 k1, .slice a2 n2 k2, .slice a3 n3 k3, .int .i64 d, .slice aa A.length ca, .slice ta tk.length tc, .slice ra rn rc] 39)).alloc (.cells #[.slice none 0 0, .slice none 0 0, .slice none 0 0, .slice none 0 0, .int .i64 0, .slice none 0 0, .slice none 0 0, .slice none 0 0] 39) := ⟨_, rfl⟩
  have HB0 := Lib.hid (show Below w.heap.size w W0 by rw [eW0]; exact ((Below.refl _ _).alloc (Nat.le_refl _) _).alloc (by simp) _)
  have HO0 := Lib.hid (show W0.heap[w.heap.size]? = some (.cells #[.slice a0 n0 k0, .slice a1 n1 k1, .slice a2 n2 k2, .slice a3 n3 k3, .int .i64 d, .slice aa A.length ca, .slice ta tk.length tc, .slice ra rn rc] 39) by rw [eW0]; exact ((Below.refl _ _).alloc (Nat.le_refl _) _ |>.block w.heap.size (by simp)).trans (new_block rfl rfl))
  have HQ0 := Lib.hid (show W0.heap[w.heap.size + 1]? = some (.cells #[.slice none 0 0, .slice none 0 0, .slice none 0 0, .slice none 0 0, .int .i64 0, .slice none 0 0, .slice none 0 0, .slice none 0 0] 39) by rw [eW0]; exact new_block rfl (by simp))
  have HQR := Lib.hid (show ((w.alloc (.cells #[.slice a0 n0 k0, .slice a1 n1 k1, .slice a2 n2 k2, .slice a3 n3 k3, .int .i64 d, .slice aa A.length ca, .slice ta tk.length tc, .slice ra rn rc] 39)).alloc (.cells #[.slice none 0 0, .slice none 0 0, .slice none 0 0, .slice none 0 0, .int .i64 0, .slice none 0 0, .slice none 0 0, .slice none 0 0] 39)).heap[w.heap.size + 1]? = some (.cells #[.slice none 0 0, .slice none 0 0, .slice none 0 0, .slice none 0 0, .int .i64 0, .slice none 0 0, .slice none 0 0, .slice none 0 0] 39) by rw [← eW0]; exact HQ0.out)
  have EW0 := Lib.hid eW0
  have HX := Lib.hid hx
  have HRA := Lib.hid ha
  have HA0 := Lib.hid ((ha.below HB0.out).mono HB0.out.size)
  have HRW := Lib.hid (show Row w.heap.size w (.slice ta tk.length tc) tk from cells_of_row ht)
  have HT0 := Lib.hid ((HRW.out.below HB0.out).mono HB0.out.size)
  have HTK := Lib.hid hk
  have HSZ := Lib.hid hs
  clear eW0 ha ht hx hk hs
  by_cases h0 : 0 ≤ i ∧ i < tk.length
  · obtain ⟨q, rfl⟩ : ∃ q : Nat, i = q := ⟨i.toNat, by omega⟩
    have t1 : decide ((q : Int) < 0) = false := decide_eq_false (by omega)
    have t2 : decide ((tk.length : Int) ≤ (q : Int)) = false := decide_eq_false (by omega)
    have t3 : decide (tk.length ≤ q) = false := decide_eq_false (by omega)
    obtain ⟨t, htt⟩ : ∃ t, t = tkAt tk q := ⟨_, rfl⟩
    obtain ⟨L, hL⟩ : ∃ L, L = rowAt A q := ⟨_, rfl⟩
    have hkq := HTK.out q
    have hsq := HSZ.out q
    rw [← hL, ← htt] at hkq
    rw [← hL] at hsq
    have HLT := Lib.hid (show leftT A tk (q : Int) = (L.length : Int) - t by unfold leftT; rw [if_pos h0, Int.toNat_natCast, ← hL, ← htt])
    have hq : q < tk.length := by omega
    by_cases h1 : (L.length : Int) - t ≤ 0
    · have t4 : decide ((L.length : Int) - t ≤ 0) = true := decide_eq_true h1
      have HE := Lib.hid (fun e w' => show RTakeE a0 a1 a2 a3 aa ta ra n0 n1 n2 n3 rn k0 k1 k2 k3 ca tc rc d A tk (q : Int) e w w' ↔ Below w.heap.size w w' ∧ e = .returned (.tuple #[.agg #[.slice a0 n0 k0, .slice a1 n1 k1, .slice a2 n2 k2, .slice a3 n3 k3, .int .i64 d, .slice aa A.length ca, .slice ta tk.length tc, .slice ra rn rc], .int .i64 0, .int .i64 23]) by unfold RTakeE; rw [if_pos h0, Int.toNat_natCast, ← hL, ← htt, if_pos h1])
      clear h0 h1 htt hL hkq hsq
      go_enter Tryz.func10, Tryz.ntmps10
      go_wp2_with (first
        | (refine wpList_store_row rfl 39 (.tmp 4) (.tmp 22) rfl (w.heap.size + 1) #[.slice a0 n0 k0, .slice a1 n1 k1, .slice a2 n2 k2, .slice a3 n3 k3, .int .i64 d, .slice aa A.length ca, .slice ta tk.length tc, .slice ra rn rc] rfl rfl 39 #[.slice none 0 0, .slice none 0 0, .slice none 0 0, .slice none 0 0, .int .i64 0, .slice none 0 0, .slice none 0 0, .slice none 0 0] HQ1.out (by kernel_rfl) rfl box8_one ?_)
        | (go_at_call 12; rw [← EW0.out]; refine (rleft_any _ _ _ _ _ _ _ _ A tk (q : Int) W0 HA0.out HX.out HT0.out HTK.out (fun j => by have := HSZ.out j; omega)).mono ?_; rintro e w1 ⟨rfl, hb⟩; rw [HLT.out]; have HB1 := Lib.hid (HB0.out.trans (hb.mono HB0.out.size)); have HQ1 := Lib.hid ((hb.block _ (heap_some_lt HQ0.out)).trans HQ0.out); obtain ⟨c0, c1, c2, c3, c4, c5, c6, c7⟩ := obj8_cell HO0.out hb; clear hb))
      have HS := Lib.hid (row_set8 (cs := #[.slice a0 n0 k0, .slice a1 n1 k1, .slice a2 n2 k2, .slice a3 n3 k3, .int .i64 d, .slice aa A.length ca, .slice ta tk.length tc, .slice ra rn rc]) HB1.out (Nat.le_succ _) HQ1.out)
      obtain ⟨d0, d1, d2, d3, d4, d5, d6, d7⟩ := obj8_cell HS.out.2 (Below.refl _ _)
      refine bodyPost_ret (v := .tuple #[.agg #[.slice a0 n0 k0, .slice a1 n1 k1, .slice a2 n2 k2, .slice a3 n3 k3, .int .i64 d, .slice aa A.length ca, .slice ta tk.length tc, .slice ra rn rc], .int .i64 0, .int .i64 23]) (by simp [results, Tryz.results10, go_sem, d0, d1, d2, d3, d4, d5, d6, d7]) rfl ?_
      exact (HE.out _ _).2 ⟨HS.out.1, rfl⟩
    · have t4 : decide ((L.length : Int) - t ≤ 0) = false := decide_eq_false h1
      obtain ⟨m, rfl⟩ : ∃ m : Nat, t = m := ⟨t.toNat, by omega⟩
      have hm : m < L.length := by omega
      obtain ⟨x, hxv⟩ : ∃ x, x = L[m]?.getD 0 := ⟨_, rfl⟩
      have HXV := Lib.hid hxv
      have HE := Lib.hid (fun e w' => show RTakeE a0 a1 a2 a3 aa ta ra n0 n1 n2 n3 rn k0 k1 k2 k3 ca tc rc d A tk (q : Int) e w w' ↔ Below w.heap.size w w' ∧ ∃ tb cap, e = .returned (.tuple #[.agg #[.slice a0 n0 k0, .slice a1 n1 k1, .slice a2 n2 k2, .slice a3 n3 k3, .int .i64 d, .slice aa A.length ca, .slice (some ⟨tb, 0, none⟩) tk.length cap, .slice ra rn rc], .int .i64 x, .int .i64 0]) ∧ w'.ownsRow w.heap.size 3 1 (.slice (some ⟨tb, 0, none⟩) tk.length cap) tk.length (intsV (tk.set q ((m : Int) + 1))) by unfold RTakeE; rw [if_pos h0, Int.toNat_natCast, ← hL, ← htt, if_neg h1, Int.toNat_natCast, ← hxv])
      have HLL := Lib.hid (show rowZ A (q : Int) = L by unfold rowZ; rw [if_pos (by omega), Int.toNat_natCast, hL])
      have i1 : (0 : Int) ≤ q ∧ (q : Int) < tk.length := by omega
      have i2 : (0 : Int) ≤ m ∧ (m : Int) < L.length := by omega
      have hw1 : IntKind.i64.wrap ((m : Int) + 1) = (m : Int) + 1 := by simp [IntKind.wrap, IntKind.bits, IntKind.signed]; omega
      have hw2 : wrap64 ((m : Int) + 1) = (m : Int) + 1 := by unfold wrap64; omega
      have HTQ := Lib.hid (show (intsV tk)[q]? = some (.int .i64 (m : Int)) by rw [intsV_at hq]; exact congrArg (fun x => some (Value.int .i64 x)) htt.symm)
      obtain ⟨i0, hi0, hz0, hz1, hz2⟩ := info_parts Tryz.infoQNum
      clear h0 h1 htt hL hkq hsq hxv
      go_enter Tryz.func10, Tryz.ntmps10
      go_upto_region 6 with (first
        | (at_builtin
           go_loud (
           refine wpList_append_any rfl _ _ 36 rfl w.heap.size 3 i0 (.int .i64 0) 1 8 Tryz.underlying36 hi0 hz0 hz1 hz2 rfl (by decide) _ 0 [] rfl (World.ownsRow_lit (base := w.heap.size) (e := 3) (size := 1) w1 #[] 0 HB1.out.size (by unfold maxLen; omega) rfl) (.slice ta tk.length tc) tk.length (intsV tk) rfl (by rw [intsV_len, Nat.mul_one]) (by have h := Cells.src (show Cells w.heap.size (w1.alloc (.cells #[] 3)) (.slice ta tk.length tc) (intsV tk) from HRW.out.below (HB1.out.alloc HB1.out.size _)); rw [intsV_len] at h; exact h) (QQ.oneInts tk) (by unfold maxLen; omega) (by omega) (by have := HB1.out.size; simp; omega) ?_
           intro v1 w2 ho hg
           obtain ⟨tb, cap, rfl, htb, _⟩ := (QQ.own00 ho).form (by omega)
           have HMD := Lib.hid (rtake_mid HB1.out HO1.out HQ1.out (QQ.own00 ho) hg)
           have hcw := HMD.out.1
           have hfw := HMD.out.2.1
           clear ho hg))
        | (go_at_call 12; rw [← EW0.out]; refine (rleft_any _ _ _ _ _ _ _ _ A tk (q : Int) W0 HA0.out HX.out HT0.out HTK.out (fun j => by have := HSZ.out j; omega)).mono ?_; rintro e w1 ⟨rfl, hb⟩; rw [HLT.out]; have HB1 := Lib.hid (HB0.out.trans (hb.mono HB0.out.size)); have HQ1 := Lib.hid ((hb.block _ (heap_some_lt HQ0.out)).trans HQ0.out); have HO1 := Lib.hid ((hb.block _ (heap_some_lt HO0.out)).trans HO0.out); have kC : (w1.alloc (.cells #[] 3)).cell? ⟨w.heap.size, 6, none⟩ = some (.slice ta tk.length tc) := (by obtain ⟨_, _, _, _, _, _, h6, _⟩ := obj8_cell HO1.out ((Below.refl _ _).alloc (Nat.le_refl _) (.cells #[] 3)); exact h6); clear hb))
      obtain ⟨W3, hW3⟩ : ∃ W3, W3 = w2.setCell ⟨w.heap.size, 6, none⟩ (.slice (some ⟨tb, 0, none⟩) tk.length cap) := ⟨_, rfl⟩
      rw [← hW3]
      clear hcw hfw kC
      have hmd := HMD.out.2.2
      rw [← hW3] at hmd
      obtain ⟨h3, h4, h5, h6⟩ := hmd
      have HB3 := Lib.hid h3
      have HO3 := Lib.hid h4
      have HQ3 := Lib.hid h5
      have HW3 := Lib.hid h6
      have HC3 := Lib.hid (show W3.cell? ⟨tb, q, none⟩ = some (.int .i64 (m : Int)) from (World.ownsRow.cellAt h6 q (by omega)).trans HTQ.out)
      have HTB := Lib.hid (show tb < W3.heap.size from (h6.lt tb rfl).2)
      clear h3 h4 h5 h6 hW3 HMD
      refine wp_region_held_drew (S := (fun V => Below W3.heap.size W3 V ∧ V.cell? ⟨w.heap.size, 5, none⟩ = some (.slice aa A.length ca) ∧ V.cell? ⟨w.heap.size, 6, none⟩ = some (.slice (some ⟨tb, 0, none⟩) tk.length cap) ∧ V.cell? ⟨tb, q, none⟩ = some (.int .i64 (m : Int)))) (by kernel_rfl) ?_ (fun hHeld => ?_)
      · first | exact left_held HO3.out HC3.out HTB.out (Below.refl _ _) | exact left_held HO3.out HC3.out HTB.out (Below.refl _ _).drew
      refine wpAnyH_take (i := 0) (v := .pointer (some ⟨w.heap.size, 5, none⟩)) rfl (by kernel_rfl) (by kernel_rfl) (by kernel_rfl) (fun _ _ _ h => h) (Or.inl ⟨by rfl, fun W hSW => ?_⟩) hHeld ?_
      · ((try dsimp only at hSW); go_split_ands; go_simp <;> with_reducible rfl)
      try simp only [List.getElem_toArray, List.getElem_cons_succ, List.getElem_cons_zero, Act.put, List.setIfInBounds_toArray, List.set_cons_zero, List.set_cons_succ]
      refine wpAnyH_take (i := 1) (v := .slice aa A.length ca) rfl (by kernel_rfl) (by kernel_rfl) (by kernel_rfl) (fun _ _ _ h => h) (Or.inl ⟨by rfl, fun W hSW => ?_⟩) hHeld ?_
      · ((try dsimp only at hSW); go_split_ands; go_simp <;> with_reducible rfl)
      try simp only [List.getElem_toArray, List.getElem_cons_succ, List.getElem_cons_zero, Act.put, List.setIfInBounds_toArray, List.set_cons_zero, List.set_cons_succ]
      refine wpAnyH_take (i := 2) (v := .int .i64 (q : Int)) rfl (by kernel_rfl) (by kernel_rfl) (by kernel_rfl) (fun _ _ _ h => h) (Or.inl ⟨by rfl, fun W hSW => ?_⟩) hHeld ?_
      · ((try dsimp only at hSW); go_split_ands; go_simp <;> with_reducible rfl)
      try simp only [List.getElem_toArray, List.getElem_cons_succ, List.getElem_cons_zero, Act.put, List.setIfInBounds_toArray, List.set_cons_zero, List.set_cons_succ]
      refine wpAnyH_take (i := 4) (v := .pointer (some ⟨w.heap.size, 6, none⟩)) rfl (by kernel_rfl) (by kernel_rfl) (by kernel_rfl) (fun _ _ _ h => h) (Or.inl ⟨by rfl, fun W hSW => ?_⟩) hHeld ?_
      · ((try dsimp only at hSW); go_split_ands; go_simp <;> with_reducible rfl)
      try simp only [List.getElem_toArray, List.getElem_cons_succ, List.getElem_cons_zero, Act.put, List.setIfInBounds_toArray, List.set_cons_zero, List.set_cons_succ]
      refine wpAnyH_take (i := 5) (v := .slice (some ⟨tb, 0, none⟩) tk.length cap) rfl (by kernel_rfl) (by kernel_rfl) (by kernel_rfl) (fun _ _ _ h => h) (Or.inl ⟨by rfl, fun W hSW => ?_⟩) hHeld ?_
      · ((try dsimp only at hSW); go_split_ands; go_simp <;> with_reducible rfl)
      try simp only [List.getElem_toArray, List.getElem_cons_succ, List.getElem_cons_zero, Act.put, List.setIfInBounds_toArray, List.set_cons_zero, List.set_cons_succ]
      refine wpAnyH_take (i := 6) (v := .int .i64 (q : Int)) rfl (by kernel_rfl) (by kernel_rfl) (by kernel_rfl) (fun _ _ _ h => h) (Or.inl ⟨by rfl, fun W hSW => ?_⟩) hHeld ?_
      · ((try dsimp only at hSW); go_split_ands; go_simp <;> with_reducible rfl)
      try simp only [List.getElem_toArray, List.getElem_cons_succ, List.getElem_cons_zero, Act.put, List.setIfInBounds_toArray, List.set_cons_zero, List.set_cons_succ]
      refine wpAnyH_take (i := 7) (v := .pointer (some ⟨tb, q, none⟩)) rfl (by kernel_rfl) (by kernel_rfl) (by kernel_rfl) (fun _ _ _ h => h) (Or.inl ⟨by rfl, fun W hSW => ?_⟩) hHeld ?_
      · ((try dsimp only at hSW); go_split_ands; go_simp <;> with_reducible rfl)
      try simp only [List.getElem_toArray, List.getElem_cons_succ, List.getElem_cons_zero, Act.put, List.setIfInBounds_toArray, List.set_cons_zero, List.set_cons_succ]
      refine wpAnyH_take (i := 8) (v := .int .i64 (m : Int)) rfl (by kernel_rfl) (by kernel_rfl) (by kernel_rfl) (fun _ _ _ h => h) (Or.inl ⟨by rfl, fun W hSW => ?_⟩) hHeld ?_
      · ((try dsimp only at hSW); go_split_ands; go_simp <;> with_reducible rfl)
      try simp only [List.getElem_toArray, List.getElem_cons_succ, List.getElem_cons_zero, Act.put, List.setIfInBounds_toArray, List.set_cons_zero, List.set_cons_succ]
      refine wpAnyH_ready (rs := [3]) (by kernel_rfl) (by simp) ?_
      refine AllReadyH.cons rfl (fun K hK => ?_) AllReadyH.nil
      try simp only [List.getElem_toArray, List.getElem_cons_succ, List.getElem_cons_zero]
      go_simp
      (go_at_call 24; refine (rrow_any _ A w.heap.size q _ ((HRA.out.below (HB3.out.trans (hHeld.1.mono HB3.out.size)))) hx0).mono ?_; rintro e w4 ⟨⟨v, rfl, hv⟩, rfl⟩; rw [HLL.out] at hv; obtain ⟨rb, ro, rcap, rfl, _, hrc⟩ := hv.at (by omega); have hr9 := hrc m (by omega); rw [← HXV.out] at hr9; have HRC := Lib.hid hr9; clear hv hrc hr9)
      try go_wp2_with fail
      refine hK.out _ _ ?_ (fun hHeld => ?_)
      · exact left_held HO3.out HC3.out HTB.out hHeld.1
      clear hK K
      try simp only [List.getElem_toArray, List.getElem_cons_succ, List.getElem_cons_zero, Act.put, List.setIfInBounds_toArray, List.set_cons_zero, List.set_cons_succ]
      refine wpAnyH_take (i := 9) (v := .pointer (some ⟨rb, ro + m, none⟩)) rfl (by kernel_rfl) (by kernel_rfl) (by kernel_rfl) (fun _ _ _ h => h) (Or.inl ⟨by rfl, fun W hSW => ?_⟩) hHeld ?_
      · ((try dsimp only at hSW); go_split_ands; go_simp <;> with_reducible rfl)
      try simp only [List.getElem_toArray, List.getElem_cons_succ, List.getElem_cons_zero, Act.put, List.setIfInBounds_toArray, List.set_cons_zero, List.set_cons_succ]
      have hrx := HRC.out
      have hry : W3.drew.cell? ⟨rb, ro + m, none⟩ = _ := HRC.out
      refine wpAnyH_ready (rs := [10]) (by kernel_rfl) (by simp) ?_
      refine AllReadyH.cons rfl (fun K hK => ?_) AllReadyH.nil
      try simp only [List.getElem_toArray, List.getElem_cons_succ, List.getElem_cons_zero]
      go_simp
      try go_wp2_with fail
      refine hK.out _ _ ?_ (fun hHeld => ?_)
      · exact left_held HO3.out HC3.out HTB.out hHeld.1
      clear hK K
      try simp only [List.getElem_toArray, List.getElem_cons_succ, List.getElem_cons_zero, Act.put, List.setIfInBounds_toArray, List.set_cons_zero, List.set_cons_succ]
      refine wpAnyH_take (i := 11) (v := .int .i64 x) rfl (by kernel_rfl) (by kernel_rfl) (by kernel_rfl) (fun _ _ _ h => h) (Or.inl ⟨by rfl, fun W hSW => ?_⟩) hHeld ?_
      · ((try dsimp only at hSW); go_split_ands; go_simp <;> with_reducible rfl)
      try simp only [List.getElem_toArray, List.getElem_cons_succ, List.getElem_cons_zero, Act.put, List.setIfInBounds_toArray, List.set_cons_zero, List.set_cons_succ]
      refine wpAnyH_done (by kernel_rfl) ?_ _
      clear hrx hry hHeld HRC
      have HF := Lib.hid (rtake_end HB3.out HO3.out HQ3.out HW3.out hq (m : Int) x)
      have hf4 : W3.drew.frozen? ⟨tb, q, none⟩ = false := World.ownsRow.frozenAt HW3.out q
      obtain ⟨c0, c1, c2, c3, c4, c5, c6, c7⟩ := obj8_cell (W0 := W3.drew) HO3.out (Below.refl _ _)
      have hc4 : W3.drew.cell? ⟨tb, q, none⟩ = some (.int .i64 (m : Int)) := HC3.out
      obtain ⟨W5, hW5⟩ : ∃ W5, W5 = (W3.setCell ⟨tb, q, none⟩ (.int .i64 ((m : Int) + 1))).drew := ⟨_, rfl⟩
      have hmf := HF.out
      rw [← hW5] at hmf
      obtain ⟨h3, h4, h5, h6⟩ := hmf
      have HB5 := Lib.hid h3
      have HO5 := Lib.hid h4
      have HQ5 := Lib.hid h5
      have HW5 := Lib.hid h6
      obtain ⟨x0, x1, x2, x3, x4, x5, x6, x7⟩ := obj8_cell h4 (Below.refl _ _)
      have EW5 := Lib.hid hW5
      clear h3 h4 h5 h6 hW5 HF
      go_upto_region 8 with fail
      rw [← EW5.out]
      clear c0 c1 c2 c3 c4 c5 c6 c7 hc4 hf4
      go_wp2_with (refine wpList_store_row rfl 39 (.tmp 4) (.tmp 46) rfl (w.heap.size + 1) #[.slice a0 n0 k0, .slice a1 n1 k1, .slice a2 n2 k2, .slice a3 n3 k3, .int .i64 d, .slice aa A.length ca, .slice (some ⟨tb, 0, none⟩) tk.length cap, .slice ra rn rc] rfl rfl 39 #[.slice none 0 0, .slice none 0 0, .slice none 0 0, .slice none 0 0, .int .i64 0, .slice none 0 0, .slice none 0 0, .slice none 0 0] HQ5.out (by kernel_rfl) rfl box8_one ?_)
      have HS := Lib.hid (row_set8 (cs := #[.slice a0 n0 k0, .slice a1 n1 k1, .slice a2 n2 k2, .slice a3 n3 k3, .int .i64 d, .slice aa A.length ca, .slice (some ⟨tb, 0, none⟩) tk.length cap, .slice ra rn rc]) HB5.out (Nat.le_succ _) HQ5.out)
      obtain ⟨d0, d1, d2, d3, d4, d5, d6, d7⟩ := obj8_cell HS.out.2 (Below.refl _ _)
      refine bodyPost_ret (v := .tuple #[.agg #[.slice a0 n0 k0, .slice a1 n1 k1, .slice a2 n2 k2, .slice a3 n3 k3, .int .i64 d, .slice aa A.length ca, .slice (some ⟨tb, 0, none⟩) tk.length cap, .slice ra rn rc], .int .i64 x, .int .i64 0]) (by simp [results, Tryz.results10, go_sem, d0, d1, d2, d3, d4, d5, d6, d7]) rfl ?_
      exact (HE.out _ _).2 ⟨HS.out.1, tb, cap, rfl, own_of_block HW5.out (fun k hk => setRow_other _ (w.heap.size + 1) k _ (by have h1 : tb = k := Option.some.inj hk; subst h1; intro e; exact (own_other HW5.out HQ5.out (by decide)) (congrArg some (by first | exact e | exact e.symm))))⟩
  · have HE := Lib.hid (fun e w' => show RTakeE a0 a1 a2 a3 aa ta ra n0 n1 n2 n3 rn k0 k1 k2 k3 ca tc rc d A tk i e w w' ↔ Below w.heap.size w w' ∧ e = .returned (.tuple #[.agg #[.slice a0 n0 k0, .slice a1 n1 k1, .slice a2 n2 k2, .slice a3 n3 k3, .int .i64 d, .slice aa A.length ca, .slice ta tk.length tc, .slice ra rn rc], .int .i64 0, .int .i64 1]) by unfold RTakeE; rw [if_neg h0])
    have HS := Lib.hid (row_set8 (cs := #[.slice a0 n0 k0, .slice a1 n1 k1, .slice a2 n2 k2, .slice a3 n3 k3, .int .i64 d, .slice aa A.length ca, .slice ta tk.length tc, .slice ra rn rc]) HB0.out (Nat.le_succ _) HQ0.out)
    obtain ⟨d0, d1, d2, d3, d4, d5, d6, d7⟩ := obj8_cell HS.out.2 (Below.refl _ _)
    have HD := Lib.hid (obj8_cell HS.out.2 (Below.refl _ _))
    clear d0 d1 d2 d3 d4 d5 d6 d7
    by_cases h1 : i < 0
    · have t1 : decide (i < 0) = true := decide_eq_true h1
      clear h0 h1
      go_enter Tryz.func10, Tryz.ntmps10
      go_wp2_with (refine wpList_store_row rfl 39 (.tmp 4) (.tmp 17) rfl (w.heap.size + 1) #[.slice a0 n0 k0, .slice a1 n1 k1, .slice a2 n2 k2, .slice a3 n3 k3, .int .i64 d, .slice aa A.length ca, .slice ta tk.length tc, .slice ra rn rc] rfl rfl 39 #[.slice none 0 0, .slice none 0 0, .slice none 0 0, .slice none 0 0, .int .i64 0, .slice none 0 0, .slice none 0 0, .slice none 0 0] HQR.out (by kernel_rfl) rfl box8_one ?_; rw [← EW0.out])
      obtain ⟨d0, d1, d2, d3, d4, d5, d6, d7⟩ := HD.out
      refine bodyPost_ret (v := .tuple #[.agg #[.slice a0 n0 k0, .slice a1 n1 k1, .slice a2 n2 k2, .slice a3 n3 k3, .int .i64 d, .slice aa A.length ca, .slice ta tk.length tc, .slice ra rn rc], .int .i64 0, .int .i64 1]) (by simp [results, Tryz.results10, go_sem, d0, d1, d2, d3, d4, d5, d6, d7]) rfl ?_
      exact (HE.out _ _).2 ⟨HS.out.1, rfl⟩
    · have t1 : decide (i < 0) = false := decide_eq_false h1
      have t2 : decide ((tk.length : Int) ≤ i) = true := decide_eq_true (by omega)
      clear h0 h1
      go_enter Tryz.func10, Tryz.ntmps10
      go_wp2_with (refine wpList_store_row rfl 39 (.tmp 4) (.tmp 17) rfl (w.heap.size + 1) #[.slice a0 n0 k0, .slice a1 n1 k1, .slice a2 n2 k2, .slice a3 n3 k3, .int .i64 d, .slice aa A.length ca, .slice ta tk.length tc, .slice ra rn rc] rfl rfl 39 #[.slice none 0 0, .slice none 0 0, .slice none 0 0, .slice none 0 0, .int .i64 0, .slice none 0 0, .slice none 0 0, .slice none 0 0] HQR.out (by kernel_rfl) rfl box8_one ?_; rw [← EW0.out])
      obtain ⟨d0, d1, d2, d3, d4, d5, d6, d7⟩ := HD.out
      refine bodyPost_ret (v := .tuple #[.agg #[.slice a0 n0 k0, .slice a1 n1 k1, .slice a2 n2 k2, .slice a3 n3 k3, .int .i64 d, .slice aa A.length ca, .slice ta tk.length tc, .slice ra rn rc], .int .i64 0, .int .i64 1]) (by simp [results, Tryz.results10, go_sem, d0, d1, d2, d3, d4, d5, d6, d7]) rfl ?_
      exact (HE.out _ _).2 ⟨HS.out.1, rfl⟩
end Go.Proofs.YtdkpnbjkehakjaaGreatDoor

/-! layer 15's reference: Put -/
namespace Go.Proofs.YtdkpnbjkehakjaaGreatDoor
open Go.RowKit
def RPutE (a0 a1 a2 a3 aa ta ra : Option Addr) (n0 n1 n2 n3 na nt k0 k1 k2 k3 ca tc rc : Nat) (d : Int) (es : List Ev) (x : Ev) (e : Ending) (w w' : World) : Prop :=
  Below w.heap.size w w' ∧
  if allowB n3 n0 x.k x.r x.f x.a = true then ∃ rb cap, e = .returned (.tuple #[.agg #[.slice a0 n0 k0, .slice a1 n1 k1, .slice a2 n2 k2, .slice a3 n3 k3, .int .i64 d, .slice aa na ca, .slice ta nt tc, .slice (some ⟨rb, 0, none⟩) (es.length + 1) cap], .int .i64 0]) ∧ w'.ownsRow w.heap.size 44 5 (.slice (some ⟨rb, 0, none⟩) (es.length + 1) cap) (es.length + 1) (evCells (es ++ [x]))
  else e = .returned (.tuple #[.agg #[.slice a0 n0 k0, .slice a1 n1 k1, .slice a2 n2 k2, .slice a3 n3 k3, .int .i64 d, .slice aa na ca, .slice ta nt tc, .slice ra es.length rc], .int .i64 1])
theorem play_own {V : World} {g B size : Nat} {t : TypeId} (hg : V.heap[g]? = some (.cells #[] t)) (hB : B ≤ g) : V.ownsRow B t size (.slice (some ⟨g, 0, none⟩) 0 0) 0 [] :=
  ⟨by simp, .inr ⟨g, 0, #[], rfl, hB, hg, Nat.le_refl _, by unfold maxLen; omega, by simp, by simp⟩⟩
theorem box_tr {W V : World} {g : Nat} {c0 c1 c2 c3 c4 c5 c6 c7 : Value} {t : TypeId} (h : W.heap[g]? = some (.cells #[c0, c1, c2, c3, c4, c5, c6, c7] t)) (hb : Below W.heap.size W V) : V.cell? ⟨g, 7, none⟩ = some c7 := by
  obtain ⟨_, _, _, _, _, _, _, h7⟩ := obj8_cell h hb
  exact h7
theorem step_append_play {P : Program} {w : World} {ops : Array Oper} {o : Oper} {a : Act} {K : Act → World → Prop} {Q : Exit → Act → World → Prop} {E : Prop} (hg : o.guard = none) (s x : Operand) (t : TypeId)
    (ho : o.op = .call { callee := .builtin .append, args := #[s, x], argTypes := #[t, t] })
    (base : Nat) (e : TypeId) (i : TypeInfo) (z : Value) (size bytes : Nat) (ht : P.underlying t = some (.slice e)) (hi : P.info? e = some i) (hz : i.zero = some z)
    (hsize : i.size = size) (hby : i.bytes = bytes) (hzs : z.cells.size = size) (hsz : 0 < size)
    (v : Value) (n : Nat) (xs : List Value) (hs : a.eval s = v) (hown : w.ownsRow base e size v n xs)
    (xv : Value) (m : Nat) (news : List Value) (hx : a.eval x = xv) (hl : news.length = m * size)
    (hsrc : xv = .slice none 0 0 ∧ m = 0 ∨ ∃ ad c, xv = .slice (some ad) m c ∧ ∀ j u, news[j]? = some u → w.cell? (ad.add j) = some u) (h1 : ∀ u ∈ news, u.oneCell' = true)
    (h63 : n + m ≤ maxLen) (hbytes : (n + m) * bytes ≤ 140737488355328) (hbase : base ≤ w.heap.size)
    (h : ∀ v' w', w'.ownsRow base e size v' (n + m) (xs ++ news) → w.grownBy w' v.ownBlock → K (a.put o.dst v') w') :
    if Region.wanted o (yielded ops a.tmps) = true then Oper.wp P o a w K Q else E := by
  rw [if_pos (by simp [Region.wanted, hg])]
  rcases hsrc with ⟨rfl, rfl⟩ | ⟨ad, c, rfl, hn⟩
  · have hn : news = [] := List.eq_nil_of_length_eq_zero (by simpa using hl)
    subst hn
    have hr := run_append_owned_none (P := P) (w := w) base t o.type e i size ht hi v n xs hown
    unfold Oper.wp execOp
    simp only [ho, resolve, invoke, builtin, Sem.run_bind, Sem.run_pure, Result.andThen_ok, List.map_toArray, List.map_cons, List.map_nil, hs, hx, hr]
    exact h v w (by simpa using hown) ⟨rfl, rfl, rfl, Nat.le_refl _, fun _ _ _ => rfl⟩
  · exact wp_append_own w s x t ho base e i z size bytes ht hi hz hsize hby hzs hsz v n xs hs hown ad m c news hx hl hn h1 h63 hbytes hbase (fun v' w' p1 p2 _ => h v' w' p1 p2)
theorem rput_fin {w w1 w7 : World} {a0 a1 a2 a3 aa ta ra : Option Addr} {n0 n1 n2 n3 na nt k0 k1 k2 k3 ca tc rc rb cap : Nat} {d : Int} {es : List Ev} {x : Ev} (HB : Below w.heap.size w w1) (HO : w1.heap[w.heap.size]? = some (.cells #[.slice a0 n0 k0, .slice a1 n1 k1, .slice a2 n2 k2, .slice a3 n3 k3, .int .i64 d, .slice aa na ca, .slice ta nt tc, .slice ra es.length rc] 39)) (HQ : w1.heap[w.heap.size + 2]? = some (.cells #[.slice none 0 0, .slice none 0 0, .slice none 0 0, .slice none 0 0, .int .i64 0, .slice none 0 0, .slice none 0 0, .slice none 0 0] 39)) (h7 : Below w1.heap.size w1 w7)
    (ho : w7.ownsRow w1.heap.size 44 5 (.slice (some ⟨rb, 0, none⟩) (es.length + 1) cap) (es.length + 1) (evCells es ++ evC x)) :
    w7.cell? ⟨w.heap.size, 7, none⟩ = some (.slice ra es.length rc) ∧ w7.frozen? ⟨w.heap.size, 7, none⟩ = false ∧ Below w.heap.size w (w7.setCell ⟨w.heap.size, 7, none⟩ (.slice (some ⟨rb, 0, none⟩) (es.length + 1) cap)) ∧ (w7.setCell ⟨w.heap.size, 7, none⟩ (.slice (some ⟨rb, 0, none⟩) (es.length + 1) cap)).heap[w.heap.size]? = some (.cells #[.slice a0 n0 k0, .slice a1 n1 k1, .slice a2 n2 k2, .slice a3 n3 k3, .int .i64 d, .slice aa na ca, .slice ta nt tc, .slice (some ⟨rb, 0, none⟩) (es.length + 1) cap] 39) ∧ (w7.setCell ⟨w.heap.size, 7, none⟩ (.slice (some ⟨rb, 0, none⟩) (es.length + 1) cap)).heap[w.heap.size + 2]? = some (.cells #[.slice none 0 0, .slice none 0 0, .slice none 0 0, .slice none 0 0, .int .i64 0, .slice none 0 0, .slice none 0 0, .slice none 0 0] 39) ∧ (w7.setCell ⟨w.heap.size, 7, none⟩ (.slice (some ⟨rb, 0, none⟩) (es.length + 1) cap)).ownsRow w.heap.size 44 5 (.slice (some ⟨rb, 0, none⟩) (es.length + 1) cap) (es.length + 1) (evCells (es ++ [x])) := by
  have h1 := (h7.block _ (heap_some_lt HO)).trans HO
  have h2 := (h7.block _ (heap_some_lt HQ)).trans HQ
  have l1 := heap_some_lt HO
  have l2 := (ho.lt rb rfl).1
  refine ⟨box_tr HO h7, block_frozen h1, (HB.trans (h7.mono HB.size)).setCell (p := ⟨w.heap.size, 7, none⟩) (Nat.le_refl _) _, set_obj (c := 7) _ h1, (Below.heap_setCell _ _ _ _ (by show w.heap.size + 2 ≠ w.heap.size; omega)).trans h2, ?_⟩
  rw [evCells_snoc]
  exact own_lower HB.size (own_of_block ho (fun k hk => Below.heap_setCell _ _ _ _ (by have e : rb = k := Option.some.inj hk; show k ≠ w.heap.size; omega)))

set_option maxRecDepth 100000 in
set_option maxHeartbeats 12800000 in
theorem rput_any (a0 a1 a2 a3 aa ta ra : Option Addr) (n0 n1 n2 n3 na nt k0 k1 k2 k3 ca tc rc : Nat) (d : Int) (es : List Ev) (x : Ev) (w : World) (hr : EvRow w.heap.size w (.slice ra es.length rc) es) (hes : es.length ≤ 1000000) :
    Calls Tryz.prog 14 #[.agg #[.slice a0 n0 k0, .slice a1 n1 k1, .slice a2 n2 k2, .slice a3 n3 k3, .int .i64 d, .slice aa na ca, .slice ta nt tc, .slice ra es.length rc], .agg #[.int .u8 x.k, .int .i64 x.r, .int .i64 x.v, .int .i64 x.f, .int .i64 x.a]] w fun e w' => RPutE a0 a1 a2 a3 aa ta ra n0 n1 n2 n3 na nt k0 k1 k2 k3 ca tc rc d es x e w w' := by
  obtain ⟨i0, hi0, hz0, hz1, hz2⟩ := info_parts Tryz.infoQEvent
  obtain ⟨W0, eW0⟩ : ∃ W0, W0 = ((w.alloc (.cells #[.slice a0 n0 k0, .slice a1 n1 k1, .slice a2 n2 k2, .slice a3 n3 k3, .int .i64 d, .slice aa na ca, .slice ta nt tc, .slice ra es.length rc] 39)).alloc (.cells #[.int .u8 x.k, .int .i64 x.r, .int .i64 x.v, .int .i64 x.f, .int .i64 x.a] 44)).alloc (.cells #[.slice none 0 0, .slice none 0 0, .slice none 0 0, .slice none 0 0, .int .i64 0, .slice none 0 0, .slice none 0 0, .slice none 0 0] 39) := ⟨_, rfl⟩
  have HB0 := Lib.hid (show Below w.heap.size w W0 by rw [eW0]; exact (((Below.refl _ _).alloc (Nat.le_refl _) _).alloc (by simp) _).alloc (by simp; omega) _)
  have HO0 := Lib.hid (show W0.heap[w.heap.size]? = some (.cells #[.slice a0 n0 k0, .slice a1 n1 k1, .slice a2 n2 k2, .slice a3 n3 k3, .int .i64 d, .slice aa na ca, .slice ta nt tc, .slice ra es.length rc] 39) by rw [eW0]; exact ((((Below.refl _ _).alloc (Nat.le_refl _) _).alloc (by simp) _).block w.heap.size (by simp)).trans (new_block rfl rfl))
  have HE0 := Lib.hid (show W0.heap[w.heap.size + 1]? = some (.cells #[.int .u8 x.k, .int .i64 x.r, .int .i64 x.v, .int .i64 x.f, .int .i64 x.a] 44) by rw [eW0]; exact (((Below.refl _ _).alloc (Nat.le_refl _) _).block (w.heap.size + 1) (by simp)).trans (new_block rfl (by simp)))
  have HQ0 := Lib.hid (show W0.heap[w.heap.size + 2]? = some (.cells #[.slice none 0 0, .slice none 0 0, .slice none 0 0, .slice none 0 0, .int .i64 0, .slice none 0 0, .slice none 0 0, .slice none 0 0] 39) by rw [eW0]; exact new_block rfl (by simp))
  have EW0 := Lib.hid eW0
  have HR := Lib.hid hr
  clear eW0 hr
  cases hz : allowB n3 n0 x.k x.r x.f x.a
  · have HZ := Lib.hid hz
    have HE := Lib.hid (fun e w' => show RPutE a0 a1 a2 a3 aa ta ra n0 n1 n2 n3 na nt k0 k1 k2 k3 ca tc rc d es x e w w' ↔ Below w.heap.size w w' ∧ e = .returned (.tuple #[.agg #[.slice a0 n0 k0, .slice a1 n1 k1, .slice a2 n2 k2, .slice a3 n3 k3, .int .i64 d, .slice aa na ca, .slice ta nt tc, .slice ra es.length rc], .int .i64 1]) by unfold RPutE; rw [hz, if_neg Bool.false_ne_true])
    clear hz
    go_enter Tryz.func14, Tryz.ntmps14
    go_wp2_with (first
      | (refine wpList_store_row rfl 39 (.tmp 4) (.tmp 11) rfl (w.heap.size + 2) #[.slice a0 n0 k0, .slice a1 n1 k1, .slice a2 n2 k2, .slice a3 n3 k3, .int .i64 d, .slice aa na ca, .slice ta nt tc, .slice ra es.length rc] rfl rfl 39 #[.slice none 0 0, .slice none 0 0, .slice none 0 0, .slice none 0 0, .int .i64 0, .slice none 0 0, .slice none 0 0, .slice none 0 0] HQ1.out (by kernel_rfl) rfl box8_one ?_)
      | (go_at_call 26; rw [← EW0.out]; refine (good_any a0 a3 n0 k0 n3 k3 _ _ _ _ _ _ _ _ _).mono ?_; rintro e w1 ⟨rfl, hb⟩; rw [HZ.out]; have HB1 := Lib.hid (HB0.out.trans (hb.mono HB0.out.size)); have HQ1 := Lib.hid ((hb.block _ (heap_some_lt HQ0.out)).trans HQ0.out); obtain ⟨c0, c1, c2, c3, c4, c5, c6, c7⟩ := obj8_cell HO0.out hb; clear hb))
    have HS := Lib.hid (row_set8 (cs := #[.slice a0 n0 k0, .slice a1 n1 k1, .slice a2 n2 k2, .slice a3 n3 k3, .int .i64 d, .slice aa na ca, .slice ta nt tc, .slice ra es.length rc]) HB1.out (Nat.le_add_right _ 2) HQ1.out)
    obtain ⟨d0, d1, d2, d3, d4, d5, d6, d7⟩ := obj8_cell HS.out.2 (Below.refl _ _)
    refine bodyPost_ret (v := .tuple #[.agg #[.slice a0 n0 k0, .slice a1 n1 k1, .slice a2 n2 k2, .slice a3 n3 k3, .int .i64 d, .slice aa na ca, .slice ta nt tc, .slice ra es.length rc], .int .i64 1]) (by simp [results, Tryz.results14, go_sem, d0, d1, d2, d3, d4, d5, d6, d7]) rfl ?_
    exact (HE.out _ _).2 ⟨HS.out.1, rfl⟩
  · have HZ := Lib.hid hz
    have HE := Lib.hid (fun e w' => show RPutE a0 a1 a2 a3 aa ta ra n0 n1 n2 n3 na nt k0 k1 k2 k3 ca tc rc d es x e w w' ↔ Below w.heap.size w w' ∧ ∃ rb cap, e = .returned (.tuple #[.agg #[.slice a0 n0 k0, .slice a1 n1 k1, .slice a2 n2 k2, .slice a3 n3 k3, .int .i64 d, .slice aa na ca, .slice ta nt tc, .slice (some ⟨rb, 0, none⟩) (es.length + 1) cap], .int .i64 0]) ∧ w'.ownsRow w.heap.size 44 5 (.slice (some ⟨rb, 0, none⟩) (es.length + 1) cap) (es.length + 1) (evCells (es ++ [x])) by unfold RPutE; rw [hz, if_pos rfl])
    clear hz
    go_enter Tryz.func14, Tryz.ntmps14
    go_upto_region 3 with (go_at_call 26; rw [← EW0.out]; refine (good_any a0 a3 n0 k0 n3 k3 _ _ _ _ _ _ _ _ _).mono ?_; rintro e w1 ⟨rfl, hb⟩; rw [HZ.out]; have HB1 := Lib.hid (HB0.out.trans (hb.mono HB0.out.size)); have HQ1 := Lib.hid ((hb.block _ (heap_some_lt HQ0.out)).trans HQ0.out); have HO1 := Lib.hid ((hb.block _ (heap_some_lt HO0.out)).trans HO0.out); have HE1 := Lib.hid ((hb.block _ (heap_some_lt HE0.out)).trans HE0.out); have HR1 := Lib.hid ((HR.out.below HB1.out).mono HB1.out.size); clear hb)
    have HBs := Lib.hid (Below.refl w1.heap.size w1)
    refine wp_region_held_drew (S := (fun V => V.heap[w.heap.size + 1]? = some (.cells #[.int .u8 x.k, .int .i64 x.r, .int .i64 x.v, .int .i64 x.f, .int .i64 x.a] 44) ∧ V.cell? ⟨w.heap.size + 1, 0, none⟩ = some (.int .u8 x.k) ∧ V.cell? ⟨w.heap.size + 1, 1, none⟩ = some (.int .i64 x.r) ∧ V.cell? ⟨w.heap.size + 1, 2, none⟩ = some (.int .i64 x.v) ∧ V.cell? ⟨w.heap.size + 1, 3, none⟩ = some (.int .i64 x.f) ∧ V.cell? ⟨w.heap.size + 1, 4, none⟩ = some (.int .i64 x.a))) (by kernel_rfl) ?_ (fun hHeld => ?_)
    · exact put_held2 HE1.out
    refine wpAnyH_take (i := 1) (v := .pointer (some ⟨w.heap.size, 7, none⟩)) rfl (by kernel_rfl) (by kernel_rfl) (by kernel_rfl) (fun _ _ _ h => h) (Or.inl ⟨by rfl, fun W hSW => ?_⟩) hHeld ?_
    · ((try dsimp only at hSW); go_split_ands; go_simp <;> with_reducible rfl)
    try simp only [List.getElem_toArray, List.getElem_cons_succ, List.getElem_cons_zero, Act.put, List.setIfInBounds_toArray, List.set_cons_zero, List.set_cons_succ]
    refine wpAnyH_take (i := 4) (v := .agg #[.int .u8 x.k, .int .i64 x.r, .int .i64 x.v, .int .i64 x.f, .int .i64 x.a]) rfl (by kernel_rfl) (by kernel_rfl) (by kernel_rfl) (fun _ _ _ h => h) (Or.inl ⟨by rfl, fun W hSW => ?_⟩) hHeld ?_
    · ((try dsimp only at hSW); go_split_ands; go_simp <;> with_reducible rfl)
    try simp only [List.getElem_toArray, List.getElem_cons_succ, List.getElem_cons_zero, Act.put, List.setIfInBounds_toArray, List.set_cons_zero, List.set_cons_succ]
    refine wpAnyH_ready (rs := [0, 2, 5]) (by kernel_rfl) (by simp) ?_
    refine AllReadyH.cons rfl (fun K hK => ?_) (AllReadyH.cons rfl (fun K hK => ?_) (AllReadyH.cons rfl (fun K hK => ?_) AllReadyH.nil))
    · skip
      have HB100 := Lib.hid (show Below w1.heap.size w1 (w1.alloc (.cells #[] 44)) from HBs.out.alloc HBs.out.size _)
      have HN100 := Lib.hid (show (w1.alloc (.cells #[] 44)).heap[w1.heap.size]? = some (.cells #[] 44) from new_block rfl (by simp))
      try simp only [List.getElem_toArray, List.getElem_cons_succ, List.getElem_cons_zero]
      go_simp
      try go_wp2_with fail
      refine hK.out _ _ ?_ (fun hHeld => ?_)
      · exact put_held2 ((HB100.out.block _ (heap_some_lt HE1.out)).trans HE1.out)
      clear hK K
      try simp only [List.getElem_toArray, List.getElem_cons_succ, List.getElem_cons_zero, Act.put, List.setIfInBounds_toArray, List.set_cons_zero, List.set_cons_succ]
      refine wpAnyH_ready (rs := [2, 5]) (by kernel_rfl) (by simp) ?_
      refine AllReadyH.cons rfl (fun K hK => ?_) (AllReadyH.cons rfl (fun K hK => ?_) AllReadyH.nil)
      · skip
        have hv101 := box_tr HO1.out HB100.out
        have hu101 := box_tr HO1.out HB100.out.drew
        try simp only [List.getElem_toArray, List.getElem_cons_succ, List.getElem_cons_zero]
        go_simp
        try go_wp2_with fail
        refine hK.out _ _ ?_ (fun hHeld => ?_)
        · exact put_held2 ((HB100.out.block _ (heap_some_lt HE1.out)).trans HE1.out)
        clear hK K
        try simp only [List.getElem_toArray, List.getElem_cons_succ, List.getElem_cons_zero, Act.put, List.setIfInBounds_toArray, List.set_cons_zero, List.set_cons_succ]
        clear hv101 hu101
        refine wpAnyH_ready (rs := [3, 5]) (by kernel_rfl) (by simp) ?_
        refine AllReadyH.cons rfl (fun K hK => ?_) (AllReadyH.cons rfl (fun K hK => ?_) AllReadyH.nil)
        · skip
          refine step_append_play rfl (.tmp 12) (.tmp 14) 37 rfl w1.heap.size 44 i0 (.agg #[.int .u8 0, .int .i64 0, .int .i64 0, .int .i64 0, .int .i64 0]) 5 40 Tryz.underlying37 hi0 hz0 hz1 hz2 rfl (by decide) (.slice (some ⟨w1.heap.size, 0, none⟩) 0 0) 0 [] (by rfl) (play_own HN100.out (by omega)) (.slice ra es.length rc) es.length (evCells es) (by rfl) (evCells_len es) (by first | exact (HR1.out.below HB100.out).src | exact (HR1.out.below HB100.out.drew).src) (evCells_one es) (by unfold maxLen; omega) (by omega) (by first | exact HB100.out.size | exact HB100.out.drew.size) ?_
          intro v6 w6 ho hg
          have HOW102 := Lib.hid (own0 ho)
          have HB102 := Lib.hid (show Below w1.heap.size w1 w6 from by first | exact HB100.out.grown hg HB100.out.size (fun k e => by have h1 : w1.heap.size = k := Option.some.inj e; omega) | exact HB100.out.drew.grown hg HB100.out.size (fun k e => by have h1 : w1.heap.size = k := Option.some.inj e; omega))
          refine hK.out _ _ ?_ (fun hHeld => ?_)
          · exact put_held2 ((HB102.out.block _ (heap_some_lt HE1.out)).trans HE1.out)
          clear hK K
          try simp only [List.getElem_toArray, List.getElem_cons_succ, List.getElem_cons_zero, Act.put, List.setIfInBounds_toArray, List.set_cons_zero, List.set_cons_succ]
          clear ho hg
          refine wpAnyH_ready (rs := [5]) (by kernel_rfl) (by simp) ?_
          refine AllReadyH.cons rfl (fun K hK => ?_) AllReadyH.nil
          have HB103 := Lib.hid (show Below w1.heap.size w1 (w6.alloc (.cells #[.int .u8 x.k, .int .i64 x.r, .int .i64 x.v, .int .i64 x.f, .int .i64 x.a] 44)) from HB102.out.alloc HB102.out.size _)
          have HN103 := Lib.hid (show (w6.alloc (.cells #[.int .u8 x.k, .int .i64 x.r, .int .i64 x.v, .int .i64 x.f, .int .i64 x.a] 44)).heap[w6.heap.size]? = some (.cells #[.int .u8 x.k, .int .i64 x.r, .int .i64 x.v, .int .i64 x.f, .int .i64 x.a] 44) from new_block rfl (by simp))
          have HOW103 := Lib.hid (show (w6.alloc (.cells #[.int .u8 x.k, .int .i64 x.r, .int .i64 x.v, .int .i64 x.f, .int .i64 x.a] 44)).ownsRow w1.heap.size 44 5 v6 es.length (evCells es) from HOW102.out.alloc _)
          try simp only [List.getElem_toArray, List.getElem_cons_succ, List.getElem_cons_zero]
          go_simp
          try go_wp2_with fail
          refine hK.out _ _ ?_ (fun hHeld => ?_)
          · exact put_held2 ((HB103.out.block _ (heap_some_lt HE1.out)).trans HE1.out)
          clear hK K
          try simp only [List.getElem_toArray, List.getElem_cons_succ, List.getElem_cons_zero, Act.put, List.setIfInBounds_toArray, List.set_cons_zero, List.set_cons_succ]
          refine wpAnyH_ready (rs := [6]) (by kernel_rfl) (by simp) ?_
          refine AllReadyH.cons rfl (fun K hK => ?_) AllReadyH.nil
          refine step_append_lies _ rfl (.tmp 15) (.tmp 17) 37 rfl w1.heap.size 44 i0 (.agg #[.int .u8 0, .int .i64 0, .int .i64 0, .int .i64 0, .int .i64 0]) 5 40 Tryz.underlying37 hi0 hz0 hz1 hz2 rfl (by decide) v6 es.length (evCells es) (by rfl) HOW103.out ⟨w6.heap.size, 0, none⟩ 1 1 (evC x) (by rfl) rfl (World.news_of_block (cs := #[.int .u8 x.k, .int .i64 x.r, .int .i64 x.v, .int .i64 x.f, .int .i64 x.a]) (t := 44) (fr := (0, 0)) HN103.out) (evC_one x) (by decide) (by unfold maxLen; omega) (by omega) HB103.out.size _ rfl ?_
          intro rb cap w7 hown hg hat hlt
          have HB104 := Lib.hid (show Below w1.heap.size w1 w7 from HB103.out.grown hg HB103.out.size (fun k e => (HOW103.out.lt k e).1))
          have HF := Lib.hid (rput_fin HB1.out HO1.out HQ1.out HB104.out hown)
          have hc7 := HF.out.1
          have hf7 := HF.out.2.1
          refine hK.out _ _ ?_ (fun hHeld => ?_)
          · exact put_held2 ((HB104.out.block _ (heap_some_lt HE1.out)).trans HE1.out)
          clear hK K
          try simp only [List.getElem_toArray, List.getElem_cons_succ, List.getElem_cons_zero, Act.put, List.setIfInBounds_toArray, List.set_cons_zero, List.set_cons_succ]
          clear hown hg hat hlt
          refine wpAnyH_take (i := 7) (v := .pointer (some ⟨w.heap.size, 7, none⟩)) rfl (by kernel_rfl) (by kernel_rfl) (by kernel_rfl) (fun _ _ _ h => h) (Or.inl ⟨by rfl, fun W hSW => ?_⟩) hHeld ?_
          · ((try dsimp only at hSW); go_split_ands; go_simp <;> with_reducible rfl)
          try simp only [List.getElem_toArray, List.getElem_cons_succ, List.getElem_cons_zero, Act.put, List.setIfInBounds_toArray, List.set_cons_zero, List.set_cons_succ]
          refine wpAnyH_ready (rs := [8]) (by kernel_rfl) (by simp) ?_
          refine AllReadyH.cons rfl (fun K hK => ?_) AllReadyH.nil
          try simp only [List.getElem_toArray, List.getElem_cons_succ, List.getElem_cons_zero]
          go_simp
          try go_wp2_with fail
          refine hK.out _ _ ?_ (fun hHeld => ?_)
          · exact put_held2 ((Below.heap_setCell _ _ _ _ (show w.heap.size + 1 ≠ w.heap.size by omega)).trans ((HB104.out.block _ (heap_some_lt HE1.out)).trans HE1.out))
          clear hK K
          try simp only [List.getElem_toArray, List.getElem_cons_succ, List.getElem_cons_zero, Act.put, List.setIfInBounds_toArray, List.set_cons_zero, List.set_cons_succ]
          refine wpAnyH_done (by kernel_rfl) ?_ _
          clear hHeld hc7 hf7
          obtain ⟨W8, hW8⟩ : ∃ W8, W8 = w7.setCell ⟨w.heap.size, 7, none⟩ (.slice (some ⟨rb, 0, none⟩) (es.length + 1) cap) := ⟨_, rfl⟩
          have hmf := HF.out.2.2
          rw [← hW8] at hmf ⊢
          obtain ⟨h3, h4, h5, h6⟩ := hmf
          obtain ⟨c0, c1, c2, c3, c4, c5, c6, c7⟩ := obj8_cell h4 (Below.refl _ _)
          have HB8 := Lib.hid h3
          have HQ8 := Lib.hid h5
          have HW8 := Lib.hid h6
          clear h3 h4 h5 h6 hW8 HF
          go_wp2_with (refine wpList_store_row rfl 39 (.tmp 4) (.tmp 20) rfl (w.heap.size + 2) #[.slice a0 n0 k0, .slice a1 n1 k1, .slice a2 n2 k2, .slice a3 n3 k3, .int .i64 d, .slice aa na ca, .slice ta nt tc, .slice (some ⟨rb, 0, none⟩) (es.length + 1) cap] rfl rfl 39 #[.slice none 0 0, .slice none 0 0, .slice none 0 0, .slice none 0 0, .int .i64 0, .slice none 0 0, .slice none 0 0, .slice none 0 0] HQ8.out (by kernel_rfl) rfl box8_one ?_)
          have HS := Lib.hid (row_set8 (cs := #[.slice a0 n0 k0, .slice a1 n1 k1, .slice a2 n2 k2, .slice a3 n3 k3, .int .i64 d, .slice aa na ca, .slice ta nt tc, .slice (some ⟨rb, 0, none⟩) (es.length + 1) cap]) HB8.out (Nat.le_add_right _ 2) HQ8.out)
          obtain ⟨d0, d1, d2, d3, d4, d5, d6, d7⟩ := obj8_cell HS.out.2 (Below.refl _ _)
          refine bodyPost_ret (v := .tuple #[.agg #[.slice a0 n0 k0, .slice a1 n1 k1, .slice a2 n2 k2, .slice a3 n3 k3, .int .i64 d, .slice aa na ca, .slice ta nt tc, .slice (some ⟨rb, 0, none⟩) (es.length + 1) cap], .int .i64 0]) (by simp [results, Tryz.results14, go_sem, d0, d1, d2, d3, d4, d5, d6, d7]) rfl ?_
          exact (HE.out _ _).2 ⟨HS.out.1, rb, cap, rfl, own_of_block HW8.out (fun k hk => setRow_other _ (w.heap.size + 2) k _ (by have h1 : rb = k := Option.some.inj hk; subst h1; intro e; exact (own_other HW8.out HQ8.out (by decide)) (congrArg some (by first | exact e | exact e.symm))))⟩
        · skip
          have HB105 := Lib.hid (show Below w1.heap.size w1 ((w1.alloc (.cells #[] 44)).alloc (.cells #[.int .u8 x.k, .int .i64 x.r, .int .i64 x.v, .int .i64 x.f, .int .i64 x.a] 44)) from HB100.out.alloc HB100.out.size _)
          have HN105 := Lib.hid (show ((w1.alloc (.cells #[] 44)).alloc (.cells #[.int .u8 x.k, .int .i64 x.r, .int .i64 x.v, .int .i64 x.f, .int .i64 x.a] 44)).heap[w1.heap.size + 1]? = some (.cells #[.int .u8 x.k, .int .i64 x.r, .int .i64 x.v, .int .i64 x.f, .int .i64 x.a] 44) from new_block rfl (by simp))
          have HL105 := Lib.hid (show ((w1.alloc (.cells #[] 44)).alloc (.cells #[.int .u8 x.k, .int .i64 x.r, .int .i64 x.v, .int .i64 x.f, .int .i64 x.a] 44)).heap[w1.heap.size]? = some (.cells #[] 44) from (heap_alloc_old _ _ (heap_some_lt HN100.out)).trans HN100.out)
          try simp only [List.getElem_toArray, List.getElem_cons_succ, List.getElem_cons_zero]
          go_simp
          try go_wp2_with fail
          refine hK.out _ _ ?_ (fun hHeld => ?_)
          · exact put_held2 ((HB105.out.block _ (heap_some_lt HE1.out)).trans HE1.out)
          clear hK K
          try simp only [List.getElem_toArray, List.getElem_cons_succ, List.getElem_cons_zero, Act.put, List.setIfInBounds_toArray, List.set_cons_zero, List.set_cons_succ]
          refine wpAnyH_ready (rs := [3]) (by kernel_rfl) (by simp) ?_
          refine AllReadyH.cons rfl (fun K hK => ?_) AllReadyH.nil
          refine step_append_play rfl (.tmp 12) (.tmp 14) 37 rfl w1.heap.size 44 i0 (.agg #[.int .u8 0, .int .i64 0, .int .i64 0, .int .i64 0, .int .i64 0]) 5 40 Tryz.underlying37 hi0 hz0 hz1 hz2 rfl (by decide) (.slice (some ⟨w1.heap.size, 0, none⟩) 0 0) 0 [] (by rfl) (play_own HL105.out (by omega)) (.slice ra es.length rc) es.length (evCells es) (by rfl) (evCells_len es) (by first | exact (HR1.out.below HB105.out).src | exact (HR1.out.below HB105.out.drew).src) (evCells_one es) (by unfold maxLen; omega) (by omega) (by first | exact HB105.out.size | exact HB105.out.drew.size) ?_
          intro v6 w6 ho hg
          have HOW106 := Lib.hid (own0 ho)
          have HB106 := Lib.hid (show Below w1.heap.size w1 w6 from by first | exact HB105.out.grown hg HB105.out.size (fun k e => by have h1 : w1.heap.size = k := Option.some.inj e; omega) | exact HB105.out.drew.grown hg HB105.out.size (fun k e => by have h1 : w1.heap.size = k := Option.some.inj e; omega))
          have HLE106 := Lib.hid (show w6.heap[w1.heap.size + 1]? = some (.cells #[.int .u8 x.k, .int .i64 x.r, .int .i64 x.v, .int .i64 x.f, .int .i64 x.a] 44) from (hg.block _ (heap_some_lt HN105.out) (fun e => by have h1 : w1.heap.size + 1 = w1.heap.size := Option.some.inj e; omega)).trans HN105.out)
          refine hK.out _ _ ?_ (fun hHeld => ?_)
          · exact put_held2 ((HB106.out.block _ (heap_some_lt HE1.out)).trans HE1.out)
          clear hK K
          try simp only [List.getElem_toArray, List.getElem_cons_succ, List.getElem_cons_zero, Act.put, List.setIfInBounds_toArray, List.set_cons_zero, List.set_cons_succ]
          clear ho hg
          refine wpAnyH_ready (rs := [6]) (by kernel_rfl) (by simp) ?_
          refine AllReadyH.cons rfl (fun K hK => ?_) AllReadyH.nil
          refine step_append_lies _ rfl (.tmp 15) (.tmp 17) 37 rfl w1.heap.size 44 i0 (.agg #[.int .u8 0, .int .i64 0, .int .i64 0, .int .i64 0, .int .i64 0]) 5 40 Tryz.underlying37 hi0 hz0 hz1 hz2 rfl (by decide) v6 es.length (evCells es) (by rfl) HOW106.out ⟨w1.heap.size + 1, 0, none⟩ 1 1 (evC x) (by rfl) rfl (World.news_of_block (cs := #[.int .u8 x.k, .int .i64 x.r, .int .i64 x.v, .int .i64 x.f, .int .i64 x.a]) (t := 44) (fr := (0, 0)) HLE106.out) (evC_one x) (by decide) (by unfold maxLen; omega) (by omega) HB106.out.size _ rfl ?_
          intro rb cap w7 hown hg hat hlt
          have HB107 := Lib.hid (show Below w1.heap.size w1 w7 from HB106.out.grown hg HB106.out.size (fun k e => (HOW106.out.lt k e).1))
          have HF := Lib.hid (rput_fin HB1.out HO1.out HQ1.out HB107.out hown)
          have hc7 := HF.out.1
          have hf7 := HF.out.2.1
          refine hK.out _ _ ?_ (fun hHeld => ?_)
          · exact put_held2 ((HB107.out.block _ (heap_some_lt HE1.out)).trans HE1.out)
          clear hK K
          try simp only [List.getElem_toArray, List.getElem_cons_succ, List.getElem_cons_zero, Act.put, List.setIfInBounds_toArray, List.set_cons_zero, List.set_cons_succ]
          clear hown hg hat hlt
          refine wpAnyH_take (i := 7) (v := .pointer (some ⟨w.heap.size, 7, none⟩)) rfl (by kernel_rfl) (by kernel_rfl) (by kernel_rfl) (fun _ _ _ h => h) (Or.inl ⟨by rfl, fun W hSW => ?_⟩) hHeld ?_
          · ((try dsimp only at hSW); go_split_ands; go_simp <;> with_reducible rfl)
          try simp only [List.getElem_toArray, List.getElem_cons_succ, List.getElem_cons_zero, Act.put, List.setIfInBounds_toArray, List.set_cons_zero, List.set_cons_succ]
          refine wpAnyH_ready (rs := [8]) (by kernel_rfl) (by simp) ?_
          refine AllReadyH.cons rfl (fun K hK => ?_) AllReadyH.nil
          try simp only [List.getElem_toArray, List.getElem_cons_succ, List.getElem_cons_zero]
          go_simp
          try go_wp2_with fail
          refine hK.out _ _ ?_ (fun hHeld => ?_)
          · exact put_held2 ((Below.heap_setCell _ _ _ _ (show w.heap.size + 1 ≠ w.heap.size by omega)).trans ((HB107.out.block _ (heap_some_lt HE1.out)).trans HE1.out))
          clear hK K
          try simp only [List.getElem_toArray, List.getElem_cons_succ, List.getElem_cons_zero, Act.put, List.setIfInBounds_toArray, List.set_cons_zero, List.set_cons_succ]
          refine wpAnyH_done (by kernel_rfl) ?_ _
          clear hHeld hc7 hf7
          obtain ⟨W8, hW8⟩ : ∃ W8, W8 = w7.setCell ⟨w.heap.size, 7, none⟩ (.slice (some ⟨rb, 0, none⟩) (es.length + 1) cap) := ⟨_, rfl⟩
          have hmf := HF.out.2.2
          rw [← hW8] at hmf ⊢
          obtain ⟨h3, h4, h5, h6⟩ := hmf
          obtain ⟨c0, c1, c2, c3, c4, c5, c6, c7⟩ := obj8_cell h4 (Below.refl _ _)
          have HB8 := Lib.hid h3
          have HQ8 := Lib.hid h5
          have HW8 := Lib.hid h6
          clear h3 h4 h5 h6 hW8 HF
          go_wp2_with (refine wpList_store_row rfl 39 (.tmp 4) (.tmp 20) rfl (w.heap.size + 2) #[.slice a0 n0 k0, .slice a1 n1 k1, .slice a2 n2 k2, .slice a3 n3 k3, .int .i64 d, .slice aa na ca, .slice ta nt tc, .slice (some ⟨rb, 0, none⟩) (es.length + 1) cap] rfl rfl 39 #[.slice none 0 0, .slice none 0 0, .slice none 0 0, .slice none 0 0, .int .i64 0, .slice none 0 0, .slice none 0 0, .slice none 0 0] HQ8.out (by kernel_rfl) rfl box8_one ?_)
          have HS := Lib.hid (row_set8 (cs := #[.slice a0 n0 k0, .slice a1 n1 k1, .slice a2 n2 k2, .slice a3 n3 k3, .int .i64 d, .slice aa na ca, .slice ta nt tc, .slice (some ⟨rb, 0, none⟩) (es.length + 1) cap]) HB8.out (Nat.le_add_right _ 2) HQ8.out)
          obtain ⟨d0, d1, d2, d3, d4, d5, d6, d7⟩ := obj8_cell HS.out.2 (Below.refl _ _)
          refine bodyPost_ret (v := .tuple #[.agg #[.slice a0 n0 k0, .slice a1 n1 k1, .slice a2 n2 k2, .slice a3 n3 k3, .int .i64 d, .slice aa na ca, .slice ta nt tc, .slice (some ⟨rb, 0, none⟩) (es.length + 1) cap], .int .i64 0]) (by simp [results, Tryz.results14, go_sem, d0, d1, d2, d3, d4, d5, d6, d7]) rfl ?_
          exact (HE.out _ _).2 ⟨HS.out.1, rb, cap, rfl, own_of_block HW8.out (fun k hk => setRow_other _ (w.heap.size + 2) k _ (by have h1 : rb = k := Option.some.inj hk; subst h1; intro e; exact (own_other HW8.out HQ8.out (by decide)) (congrArg some (by first | exact e | exact e.symm))))⟩
      · skip
        have HB108 := Lib.hid (show Below w1.heap.size w1 ((w1.alloc (.cells #[] 44)).alloc (.cells #[.int .u8 x.k, .int .i64 x.r, .int .i64 x.v, .int .i64 x.f, .int .i64 x.a] 44)) from HB100.out.alloc HB100.out.size _)
        have HN108 := Lib.hid (show ((w1.alloc (.cells #[] 44)).alloc (.cells #[.int .u8 x.k, .int .i64 x.r, .int .i64 x.v, .int .i64 x.f, .int .i64 x.a] 44)).heap[w1.heap.size + 1]? = some (.cells #[.int .u8 x.k, .int .i64 x.r, .int .i64 x.v, .int .i64 x.f, .int .i64 x.a] 44) from new_block rfl (by simp))
        have HL108 := Lib.hid (show ((w1.alloc (.cells #[] 44)).alloc (.cells #[.int .u8 x.k, .int .i64 x.r, .int .i64 x.v, .int .i64 x.f, .int .i64 x.a] 44)).heap[w1.heap.size]? = some (.cells #[] 44) from (heap_alloc_old _ _ (heap_some_lt HN100.out)).trans HN100.out)
        try simp only [List.getElem_toArray, List.getElem_cons_succ, List.getElem_cons_zero]
        go_simp
        try go_wp2_with fail
        refine hK.out _ _ ?_ (fun hHeld => ?_)
        · exact put_held2 ((HB108.out.block _ (heap_some_lt HE1.out)).trans HE1.out)
        clear hK K
        try simp only [List.getElem_toArray, List.getElem_cons_succ, List.getElem_cons_zero, Act.put, List.setIfInBounds_toArray, List.set_cons_zero, List.set_cons_succ]
        refine wpAnyH_ready (rs := [2]) (by kernel_rfl) (by simp) ?_
        refine AllReadyH.cons rfl (fun K hK => ?_) AllReadyH.nil
        have hv109 := box_tr HO1.out HB108.out
        have hu109 := box_tr HO1.out HB108.out.drew
        try simp only [List.getElem_toArray, List.getElem_cons_succ, List.getElem_cons_zero]
        go_simp
        try go_wp2_with fail
        refine hK.out _ _ ?_ (fun hHeld => ?_)
        · exact put_held2 ((HB108.out.block _ (heap_some_lt HE1.out)).trans HE1.out)
        clear hK K
        try simp only [List.getElem_toArray, List.getElem_cons_succ, List.getElem_cons_zero, Act.put, List.setIfInBounds_toArray, List.set_cons_zero, List.set_cons_succ]
        clear hv109 hu109
        refine wpAnyH_ready (rs := [3]) (by kernel_rfl) (by simp) ?_
        refine AllReadyH.cons rfl (fun K hK => ?_) AllReadyH.nil
        refine step_append_play rfl (.tmp 12) (.tmp 14) 37 rfl w1.heap.size 44 i0 (.agg #[.int .u8 0, .int .i64 0, .int .i64 0, .int .i64 0, .int .i64 0]) 5 40 Tryz.underlying37 hi0 hz0 hz1 hz2 rfl (by decide) (.slice (some ⟨w1.heap.size, 0, none⟩) 0 0) 0 [] (by rfl) (play_own HL108.out (by omega)) (.slice ra es.length rc) es.length (evCells es) (by rfl) (evCells_len es) (by first | exact (HR1.out.below HB108.out).src | exact (HR1.out.below HB108.out.drew).src) (evCells_one es) (by unfold maxLen; omega) (by omega) (by first | exact HB108.out.size | exact HB108.out.drew.size) ?_
        intro v6 w6 ho hg
        have HOW110 := Lib.hid (own0 ho)
        have HB110 := Lib.hid (show Below w1.heap.size w1 w6 from by first | exact HB108.out.grown hg HB108.out.size (fun k e => by have h1 : w1.heap.size = k := Option.some.inj e; omega) | exact HB108.out.drew.grown hg HB108.out.size (fun k e => by have h1 : w1.heap.size = k := Option.some.inj e; omega))
        have HLE110 := Lib.hid (show w6.heap[w1.heap.size + 1]? = some (.cells #[.int .u8 x.k, .int .i64 x.r, .int .i64 x.v, .int .i64 x.f, .int .i64 x.a] 44) from (hg.block _ (heap_some_lt HN108.out) (fun e => by have h1 : w1.heap.size + 1 = w1.heap.size := Option.some.inj e; omega)).trans HN108.out)
        refine hK.out _ _ ?_ (fun hHeld => ?_)
        · exact put_held2 ((HB110.out.block _ (heap_some_lt HE1.out)).trans HE1.out)
        clear hK K
        try simp only [List.getElem_toArray, List.getElem_cons_succ, List.getElem_cons_zero, Act.put, List.setIfInBounds_toArray, List.set_cons_zero, List.set_cons_succ]
        clear ho hg
        refine wpAnyH_ready (rs := [6]) (by kernel_rfl) (by simp) ?_
        refine AllReadyH.cons rfl (fun K hK => ?_) AllReadyH.nil
        refine step_append_lies _ rfl (.tmp 15) (.tmp 17) 37 rfl w1.heap.size 44 i0 (.agg #[.int .u8 0, .int .i64 0, .int .i64 0, .int .i64 0, .int .i64 0]) 5 40 Tryz.underlying37 hi0 hz0 hz1 hz2 rfl (by decide) v6 es.length (evCells es) (by rfl) HOW110.out ⟨w1.heap.size + 1, 0, none⟩ 1 1 (evC x) (by rfl) rfl (World.news_of_block (cs := #[.int .u8 x.k, .int .i64 x.r, .int .i64 x.v, .int .i64 x.f, .int .i64 x.a]) (t := 44) (fr := (0, 0)) HLE110.out) (evC_one x) (by decide) (by unfold maxLen; omega) (by omega) HB110.out.size _ rfl ?_
        intro rb cap w7 hown hg hat hlt
        have HB111 := Lib.hid (show Below w1.heap.size w1 w7 from HB110.out.grown hg HB110.out.size (fun k e => (HOW110.out.lt k e).1))
        have HF := Lib.hid (rput_fin HB1.out HO1.out HQ1.out HB111.out hown)
        have hc7 := HF.out.1
        have hf7 := HF.out.2.1
        refine hK.out _ _ ?_ (fun hHeld => ?_)
        · exact put_held2 ((HB111.out.block _ (heap_some_lt HE1.out)).trans HE1.out)
        clear hK K
        try simp only [List.getElem_toArray, List.getElem_cons_succ, List.getElem_cons_zero, Act.put, List.setIfInBounds_toArray, List.set_cons_zero, List.set_cons_succ]
        clear hown hg hat hlt
        refine wpAnyH_take (i := 7) (v := .pointer (some ⟨w.heap.size, 7, none⟩)) rfl (by kernel_rfl) (by kernel_rfl) (by kernel_rfl) (fun _ _ _ h => h) (Or.inl ⟨by rfl, fun W hSW => ?_⟩) hHeld ?_
        · ((try dsimp only at hSW); go_split_ands; go_simp <;> with_reducible rfl)
        try simp only [List.getElem_toArray, List.getElem_cons_succ, List.getElem_cons_zero, Act.put, List.setIfInBounds_toArray, List.set_cons_zero, List.set_cons_succ]
        refine wpAnyH_ready (rs := [8]) (by kernel_rfl) (by simp) ?_
        refine AllReadyH.cons rfl (fun K hK => ?_) AllReadyH.nil
        try simp only [List.getElem_toArray, List.getElem_cons_succ, List.getElem_cons_zero]
        go_simp
        try go_wp2_with fail
        refine hK.out _ _ ?_ (fun hHeld => ?_)
        · exact put_held2 ((Below.heap_setCell _ _ _ _ (show w.heap.size + 1 ≠ w.heap.size by omega)).trans ((HB111.out.block _ (heap_some_lt HE1.out)).trans HE1.out))
        clear hK K
        try simp only [List.getElem_toArray, List.getElem_cons_succ, List.getElem_cons_zero, Act.put, List.setIfInBounds_toArray, List.set_cons_zero, List.set_cons_succ]
        refine wpAnyH_done (by kernel_rfl) ?_ _
        clear hHeld hc7 hf7
        obtain ⟨W8, hW8⟩ : ∃ W8, W8 = w7.setCell ⟨w.heap.size, 7, none⟩ (.slice (some ⟨rb, 0, none⟩) (es.length + 1) cap) := ⟨_, rfl⟩
        have hmf := HF.out.2.2
        rw [← hW8] at hmf ⊢
        obtain ⟨h3, h4, h5, h6⟩ := hmf
        obtain ⟨c0, c1, c2, c3, c4, c5, c6, c7⟩ := obj8_cell h4 (Below.refl _ _)
        have HB8 := Lib.hid h3
        have HQ8 := Lib.hid h5
        have HW8 := Lib.hid h6
        clear h3 h4 h5 h6 hW8 HF
        go_wp2_with (refine wpList_store_row rfl 39 (.tmp 4) (.tmp 20) rfl (w.heap.size + 2) #[.slice a0 n0 k0, .slice a1 n1 k1, .slice a2 n2 k2, .slice a3 n3 k3, .int .i64 d, .slice aa na ca, .slice ta nt tc, .slice (some ⟨rb, 0, none⟩) (es.length + 1) cap] rfl rfl 39 #[.slice none 0 0, .slice none 0 0, .slice none 0 0, .slice none 0 0, .int .i64 0, .slice none 0 0, .slice none 0 0, .slice none 0 0] HQ8.out (by kernel_rfl) rfl box8_one ?_)
        have HS := Lib.hid (row_set8 (cs := #[.slice a0 n0 k0, .slice a1 n1 k1, .slice a2 n2 k2, .slice a3 n3 k3, .int .i64 d, .slice aa na ca, .slice ta nt tc, .slice (some ⟨rb, 0, none⟩) (es.length + 1) cap]) HB8.out (Nat.le_add_right _ 2) HQ8.out)
        obtain ⟨d0, d1, d2, d3, d4, d5, d6, d7⟩ := obj8_cell HS.out.2 (Below.refl _ _)
        refine bodyPost_ret (v := .tuple #[.agg #[.slice a0 n0 k0, .slice a1 n1 k1, .slice a2 n2 k2, .slice a3 n3 k3, .int .i64 d, .slice aa na ca, .slice ta nt tc, .slice (some ⟨rb, 0, none⟩) (es.length + 1) cap], .int .i64 0]) (by simp [results, Tryz.results14, go_sem, d0, d1, d2, d3, d4, d5, d6, d7]) rfl ?_
        exact (HE.out _ _).2 ⟨HS.out.1, rb, cap, rfl, own_of_block HW8.out (fun k hk => setRow_other _ (w.heap.size + 2) k _ (by have h1 : rb = k := Option.some.inj hk; subst h1; intro e; exact (own_other HW8.out HQ8.out (by decide)) (congrArg some (by first | exact e | exact e.symm))))⟩
    · skip
      have hv112 := box_tr HO1.out HBs.out
      have hu112 := box_tr HO1.out HBs.out.drew
      try simp only [List.getElem_toArray, List.getElem_cons_succ, List.getElem_cons_zero]
      go_simp
      try go_wp2_with fail
      refine hK.out _ _ ?_ (fun hHeld => ?_)
      · exact put_held2 ((HBs.out.block _ (heap_some_lt HE1.out)).trans HE1.out)
      clear hK K
      try simp only [List.getElem_toArray, List.getElem_cons_succ, List.getElem_cons_zero, Act.put, List.setIfInBounds_toArray, List.set_cons_zero, List.set_cons_succ]
      clear hv112 hu112
      refine wpAnyH_ready (rs := [0, 5]) (by kernel_rfl) (by simp) ?_
      refine AllReadyH.cons rfl (fun K hK => ?_) (AllReadyH.cons rfl (fun K hK => ?_) AllReadyH.nil)
      · skip
        have HB113 := Lib.hid (show Below w1.heap.size w1 (w1.alloc (.cells #[] 44)) from HBs.out.alloc HBs.out.size _)
        have HN113 := Lib.hid (show (w1.alloc (.cells #[] 44)).heap[w1.heap.size]? = some (.cells #[] 44) from new_block rfl (by simp))
        try simp only [List.getElem_toArray, List.getElem_cons_succ, List.getElem_cons_zero]
        go_simp
        try go_wp2_with fail
        refine hK.out _ _ ?_ (fun hHeld => ?_)
        · exact put_held2 ((HB113.out.block _ (heap_some_lt HE1.out)).trans HE1.out)
        clear hK K
        try simp only [List.getElem_toArray, List.getElem_cons_succ, List.getElem_cons_zero, Act.put, List.setIfInBounds_toArray, List.set_cons_zero, List.set_cons_succ]
        refine wpAnyH_ready (rs := [3, 5]) (by kernel_rfl) (by simp) ?_
        refine AllReadyH.cons rfl (fun K hK => ?_) (AllReadyH.cons rfl (fun K hK => ?_) AllReadyH.nil)
        · skip
          refine step_append_play rfl (.tmp 12) (.tmp 14) 37 rfl w1.heap.size 44 i0 (.agg #[.int .u8 0, .int .i64 0, .int .i64 0, .int .i64 0, .int .i64 0]) 5 40 Tryz.underlying37 hi0 hz0 hz1 hz2 rfl (by decide) (.slice (some ⟨w1.heap.size, 0, none⟩) 0 0) 0 [] (by rfl) (play_own HN113.out (by omega)) (.slice ra es.length rc) es.length (evCells es) (by rfl) (evCells_len es) (by first | exact (HR1.out.below HB113.out).src | exact (HR1.out.below HB113.out.drew).src) (evCells_one es) (by unfold maxLen; omega) (by omega) (by first | exact HB113.out.size | exact HB113.out.drew.size) ?_
          intro v6 w6 ho hg
          have HOW114 := Lib.hid (own0 ho)
          have HB114 := Lib.hid (show Below w1.heap.size w1 w6 from by first | exact HB113.out.grown hg HB113.out.size (fun k e => by have h1 : w1.heap.size = k := Option.some.inj e; omega) | exact HB113.out.drew.grown hg HB113.out.size (fun k e => by have h1 : w1.heap.size = k := Option.some.inj e; omega))
          refine hK.out _ _ ?_ (fun hHeld => ?_)
          · exact put_held2 ((HB114.out.block _ (heap_some_lt HE1.out)).trans HE1.out)
          clear hK K
          try simp only [List.getElem_toArray, List.getElem_cons_succ, List.getElem_cons_zero, Act.put, List.setIfInBounds_toArray, List.set_cons_zero, List.set_cons_succ]
          clear ho hg
          refine wpAnyH_ready (rs := [5]) (by kernel_rfl) (by simp) ?_
          refine AllReadyH.cons rfl (fun K hK => ?_) AllReadyH.nil
          have HB115 := Lib.hid (show Below w1.heap.size w1 (w6.alloc (.cells #[.int .u8 x.k, .int .i64 x.r, .int .i64 x.v, .int .i64 x.f, .int .i64 x.a] 44)) from HB114.out.alloc HB114.out.size _)
          have HN115 := Lib.hid (show (w6.alloc (.cells #[.int .u8 x.k, .int .i64 x.r, .int .i64 x.v, .int .i64 x.f, .int .i64 x.a] 44)).heap[w6.heap.size]? = some (.cells #[.int .u8 x.k, .int .i64 x.r, .int .i64 x.v, .int .i64 x.f, .int .i64 x.a] 44) from new_block rfl (by simp))
          have HOW115 := Lib.hid (show (w6.alloc (.cells #[.int .u8 x.k, .int .i64 x.r, .int .i64 x.v, .int .i64 x.f, .int .i64 x.a] 44)).ownsRow w1.heap.size 44 5 v6 es.length (evCells es) from HOW114.out.alloc _)
          try simp only [List.getElem_toArray, List.getElem_cons_succ, List.getElem_cons_zero]
          go_simp
          try go_wp2_with fail
          refine hK.out _ _ ?_ (fun hHeld => ?_)
          · exact put_held2 ((HB115.out.block _ (heap_some_lt HE1.out)).trans HE1.out)
          clear hK K
          try simp only [List.getElem_toArray, List.getElem_cons_succ, List.getElem_cons_zero, Act.put, List.setIfInBounds_toArray, List.set_cons_zero, List.set_cons_succ]
          refine wpAnyH_ready (rs := [6]) (by kernel_rfl) (by simp) ?_
          refine AllReadyH.cons rfl (fun K hK => ?_) AllReadyH.nil
          refine step_append_lies _ rfl (.tmp 15) (.tmp 17) 37 rfl w1.heap.size 44 i0 (.agg #[.int .u8 0, .int .i64 0, .int .i64 0, .int .i64 0, .int .i64 0]) 5 40 Tryz.underlying37 hi0 hz0 hz1 hz2 rfl (by decide) v6 es.length (evCells es) (by rfl) HOW115.out ⟨w6.heap.size, 0, none⟩ 1 1 (evC x) (by rfl) rfl (World.news_of_block (cs := #[.int .u8 x.k, .int .i64 x.r, .int .i64 x.v, .int .i64 x.f, .int .i64 x.a]) (t := 44) (fr := (0, 0)) HN115.out) (evC_one x) (by decide) (by unfold maxLen; omega) (by omega) HB115.out.size _ rfl ?_
          intro rb cap w7 hown hg hat hlt
          have HB116 := Lib.hid (show Below w1.heap.size w1 w7 from HB115.out.grown hg HB115.out.size (fun k e => (HOW115.out.lt k e).1))
          have HF := Lib.hid (rput_fin HB1.out HO1.out HQ1.out HB116.out hown)
          have hc7 := HF.out.1
          have hf7 := HF.out.2.1
          refine hK.out _ _ ?_ (fun hHeld => ?_)
          · exact put_held2 ((HB116.out.block _ (heap_some_lt HE1.out)).trans HE1.out)
          clear hK K
          try simp only [List.getElem_toArray, List.getElem_cons_succ, List.getElem_cons_zero, Act.put, List.setIfInBounds_toArray, List.set_cons_zero, List.set_cons_succ]
          clear hown hg hat hlt
          refine wpAnyH_take (i := 7) (v := .pointer (some ⟨w.heap.size, 7, none⟩)) rfl (by kernel_rfl) (by kernel_rfl) (by kernel_rfl) (fun _ _ _ h => h) (Or.inl ⟨by rfl, fun W hSW => ?_⟩) hHeld ?_
          · ((try dsimp only at hSW); go_split_ands; go_simp <;> with_reducible rfl)
          try simp only [List.getElem_toArray, List.getElem_cons_succ, List.getElem_cons_zero, Act.put, List.setIfInBounds_toArray, List.set_cons_zero, List.set_cons_succ]
          refine wpAnyH_ready (rs := [8]) (by kernel_rfl) (by simp) ?_
          refine AllReadyH.cons rfl (fun K hK => ?_) AllReadyH.nil
          try simp only [List.getElem_toArray, List.getElem_cons_succ, List.getElem_cons_zero]
          go_simp
          try go_wp2_with fail
          refine hK.out _ _ ?_ (fun hHeld => ?_)
          · exact put_held2 ((Below.heap_setCell _ _ _ _ (show w.heap.size + 1 ≠ w.heap.size by omega)).trans ((HB116.out.block _ (heap_some_lt HE1.out)).trans HE1.out))
          clear hK K
          try simp only [List.getElem_toArray, List.getElem_cons_succ, List.getElem_cons_zero, Act.put, List.setIfInBounds_toArray, List.set_cons_zero, List.set_cons_succ]
          refine wpAnyH_done (by kernel_rfl) ?_ _
          clear hHeld hc7 hf7
          obtain ⟨W8, hW8⟩ : ∃ W8, W8 = w7.setCell ⟨w.heap.size, 7, none⟩ (.slice (some ⟨rb, 0, none⟩) (es.length + 1) cap) := ⟨_, rfl⟩
          have hmf := HF.out.2.2
          rw [← hW8] at hmf ⊢
          obtain ⟨h3, h4, h5, h6⟩ := hmf
          obtain ⟨c0, c1, c2, c3, c4, c5, c6, c7⟩ := obj8_cell h4 (Below.refl _ _)
          have HB8 := Lib.hid h3
          have HQ8 := Lib.hid h5
          have HW8 := Lib.hid h6
          clear h3 h4 h5 h6 hW8 HF
          go_wp2_with (refine wpList_store_row rfl 39 (.tmp 4) (.tmp 20) rfl (w.heap.size + 2) #[.slice a0 n0 k0, .slice a1 n1 k1, .slice a2 n2 k2, .slice a3 n3 k3, .int .i64 d, .slice aa na ca, .slice ta nt tc, .slice (some ⟨rb, 0, none⟩) (es.length + 1) cap] rfl rfl 39 #[.slice none 0 0, .slice none 0 0, .slice none 0 0, .slice none 0 0, .int .i64 0, .slice none 0 0, .slice none 0 0, .slice none 0 0] HQ8.out (by kernel_rfl) rfl box8_one ?_)
          have HS := Lib.hid (row_set8 (cs := #[.slice a0 n0 k0, .slice a1 n1 k1, .slice a2 n2 k2, .slice a3 n3 k3, .int .i64 d, .slice aa na ca, .slice ta nt tc, .slice (some ⟨rb, 0, none⟩) (es.length + 1) cap]) HB8.out (Nat.le_add_right _ 2) HQ8.out)
          obtain ⟨d0, d1, d2, d3, d4, d5, d6, d7⟩ := obj8_cell HS.out.2 (Below.refl _ _)
          refine bodyPost_ret (v := .tuple #[.agg #[.slice a0 n0 k0, .slice a1 n1 k1, .slice a2 n2 k2, .slice a3 n3 k3, .int .i64 d, .slice aa na ca, .slice ta nt tc, .slice (some ⟨rb, 0, none⟩) (es.length + 1) cap], .int .i64 0]) (by simp [results, Tryz.results14, go_sem, d0, d1, d2, d3, d4, d5, d6, d7]) rfl ?_
          exact (HE.out _ _).2 ⟨HS.out.1, rb, cap, rfl, own_of_block HW8.out (fun k hk => setRow_other _ (w.heap.size + 2) k _ (by have h1 : rb = k := Option.some.inj hk; subst h1; intro e; exact (own_other HW8.out HQ8.out (by decide)) (congrArg some (by first | exact e | exact e.symm))))⟩
        · skip
          have HB117 := Lib.hid (show Below w1.heap.size w1 ((w1.alloc (.cells #[] 44)).alloc (.cells #[.int .u8 x.k, .int .i64 x.r, .int .i64 x.v, .int .i64 x.f, .int .i64 x.a] 44)) from HB113.out.alloc HB113.out.size _)
          have HN117 := Lib.hid (show ((w1.alloc (.cells #[] 44)).alloc (.cells #[.int .u8 x.k, .int .i64 x.r, .int .i64 x.v, .int .i64 x.f, .int .i64 x.a] 44)).heap[w1.heap.size + 1]? = some (.cells #[.int .u8 x.k, .int .i64 x.r, .int .i64 x.v, .int .i64 x.f, .int .i64 x.a] 44) from new_block rfl (by simp))
          have HL117 := Lib.hid (show ((w1.alloc (.cells #[] 44)).alloc (.cells #[.int .u8 x.k, .int .i64 x.r, .int .i64 x.v, .int .i64 x.f, .int .i64 x.a] 44)).heap[w1.heap.size]? = some (.cells #[] 44) from (heap_alloc_old _ _ (heap_some_lt HN113.out)).trans HN113.out)
          try simp only [List.getElem_toArray, List.getElem_cons_succ, List.getElem_cons_zero]
          go_simp
          try go_wp2_with fail
          refine hK.out _ _ ?_ (fun hHeld => ?_)
          · exact put_held2 ((HB117.out.block _ (heap_some_lt HE1.out)).trans HE1.out)
          clear hK K
          try simp only [List.getElem_toArray, List.getElem_cons_succ, List.getElem_cons_zero, Act.put, List.setIfInBounds_toArray, List.set_cons_zero, List.set_cons_succ]
          refine wpAnyH_ready (rs := [3]) (by kernel_rfl) (by simp) ?_
          refine AllReadyH.cons rfl (fun K hK => ?_) AllReadyH.nil
          refine step_append_play rfl (.tmp 12) (.tmp 14) 37 rfl w1.heap.size 44 i0 (.agg #[.int .u8 0, .int .i64 0, .int .i64 0, .int .i64 0, .int .i64 0]) 5 40 Tryz.underlying37 hi0 hz0 hz1 hz2 rfl (by decide) (.slice (some ⟨w1.heap.size, 0, none⟩) 0 0) 0 [] (by rfl) (play_own HL117.out (by omega)) (.slice ra es.length rc) es.length (evCells es) (by rfl) (evCells_len es) (by first | exact (HR1.out.below HB117.out).src | exact (HR1.out.below HB117.out.drew).src) (evCells_one es) (by unfold maxLen; omega) (by omega) (by first | exact HB117.out.size | exact HB117.out.drew.size) ?_
          intro v6 w6 ho hg
          have HOW118 := Lib.hid (own0 ho)
          have HB118 := Lib.hid (show Below w1.heap.size w1 w6 from by first | exact HB117.out.grown hg HB117.out.size (fun k e => by have h1 : w1.heap.size = k := Option.some.inj e; omega) | exact HB117.out.drew.grown hg HB117.out.size (fun k e => by have h1 : w1.heap.size = k := Option.some.inj e; omega))
          have HLE118 := Lib.hid (show w6.heap[w1.heap.size + 1]? = some (.cells #[.int .u8 x.k, .int .i64 x.r, .int .i64 x.v, .int .i64 x.f, .int .i64 x.a] 44) from (hg.block _ (heap_some_lt HN117.out) (fun e => by have h1 : w1.heap.size + 1 = w1.heap.size := Option.some.inj e; omega)).trans HN117.out)
          refine hK.out _ _ ?_ (fun hHeld => ?_)
          · exact put_held2 ((HB118.out.block _ (heap_some_lt HE1.out)).trans HE1.out)
          clear hK K
          try simp only [List.getElem_toArray, List.getElem_cons_succ, List.getElem_cons_zero, Act.put, List.setIfInBounds_toArray, List.set_cons_zero, List.set_cons_succ]
          clear ho hg
          refine wpAnyH_ready (rs := [6]) (by kernel_rfl) (by simp) ?_
          refine AllReadyH.cons rfl (fun K hK => ?_) AllReadyH.nil
          refine step_append_lies _ rfl (.tmp 15) (.tmp 17) 37 rfl w1.heap.size 44 i0 (.agg #[.int .u8 0, .int .i64 0, .int .i64 0, .int .i64 0, .int .i64 0]) 5 40 Tryz.underlying37 hi0 hz0 hz1 hz2 rfl (by decide) v6 es.length (evCells es) (by rfl) HOW118.out ⟨w1.heap.size + 1, 0, none⟩ 1 1 (evC x) (by rfl) rfl (World.news_of_block (cs := #[.int .u8 x.k, .int .i64 x.r, .int .i64 x.v, .int .i64 x.f, .int .i64 x.a]) (t := 44) (fr := (0, 0)) HLE118.out) (evC_one x) (by decide) (by unfold maxLen; omega) (by omega) HB118.out.size _ rfl ?_
          intro rb cap w7 hown hg hat hlt
          have HB119 := Lib.hid (show Below w1.heap.size w1 w7 from HB118.out.grown hg HB118.out.size (fun k e => (HOW118.out.lt k e).1))
          have HF := Lib.hid (rput_fin HB1.out HO1.out HQ1.out HB119.out hown)
          have hc7 := HF.out.1
          have hf7 := HF.out.2.1
          refine hK.out _ _ ?_ (fun hHeld => ?_)
          · exact put_held2 ((HB119.out.block _ (heap_some_lt HE1.out)).trans HE1.out)
          clear hK K
          try simp only [List.getElem_toArray, List.getElem_cons_succ, List.getElem_cons_zero, Act.put, List.setIfInBounds_toArray, List.set_cons_zero, List.set_cons_succ]
          clear hown hg hat hlt
          refine wpAnyH_take (i := 7) (v := .pointer (some ⟨w.heap.size, 7, none⟩)) rfl (by kernel_rfl) (by kernel_rfl) (by kernel_rfl) (fun _ _ _ h => h) (Or.inl ⟨by rfl, fun W hSW => ?_⟩) hHeld ?_
          · ((try dsimp only at hSW); go_split_ands; go_simp <;> with_reducible rfl)
          try simp only [List.getElem_toArray, List.getElem_cons_succ, List.getElem_cons_zero, Act.put, List.setIfInBounds_toArray, List.set_cons_zero, List.set_cons_succ]
          refine wpAnyH_ready (rs := [8]) (by kernel_rfl) (by simp) ?_
          refine AllReadyH.cons rfl (fun K hK => ?_) AllReadyH.nil
          try simp only [List.getElem_toArray, List.getElem_cons_succ, List.getElem_cons_zero]
          go_simp
          try go_wp2_with fail
          refine hK.out _ _ ?_ (fun hHeld => ?_)
          · exact put_held2 ((Below.heap_setCell _ _ _ _ (show w.heap.size + 1 ≠ w.heap.size by omega)).trans ((HB119.out.block _ (heap_some_lt HE1.out)).trans HE1.out))
          clear hK K
          try simp only [List.getElem_toArray, List.getElem_cons_succ, List.getElem_cons_zero, Act.put, List.setIfInBounds_toArray, List.set_cons_zero, List.set_cons_succ]
          refine wpAnyH_done (by kernel_rfl) ?_ _
          clear hHeld hc7 hf7
          obtain ⟨W8, hW8⟩ : ∃ W8, W8 = w7.setCell ⟨w.heap.size, 7, none⟩ (.slice (some ⟨rb, 0, none⟩) (es.length + 1) cap) := ⟨_, rfl⟩
          have hmf := HF.out.2.2
          rw [← hW8] at hmf ⊢
          obtain ⟨h3, h4, h5, h6⟩ := hmf
          obtain ⟨c0, c1, c2, c3, c4, c5, c6, c7⟩ := obj8_cell h4 (Below.refl _ _)
          have HB8 := Lib.hid h3
          have HQ8 := Lib.hid h5
          have HW8 := Lib.hid h6
          clear h3 h4 h5 h6 hW8 HF
          go_wp2_with (refine wpList_store_row rfl 39 (.tmp 4) (.tmp 20) rfl (w.heap.size + 2) #[.slice a0 n0 k0, .slice a1 n1 k1, .slice a2 n2 k2, .slice a3 n3 k3, .int .i64 d, .slice aa na ca, .slice ta nt tc, .slice (some ⟨rb, 0, none⟩) (es.length + 1) cap] rfl rfl 39 #[.slice none 0 0, .slice none 0 0, .slice none 0 0, .slice none 0 0, .int .i64 0, .slice none 0 0, .slice none 0 0, .slice none 0 0] HQ8.out (by kernel_rfl) rfl box8_one ?_)
          have HS := Lib.hid (row_set8 (cs := #[.slice a0 n0 k0, .slice a1 n1 k1, .slice a2 n2 k2, .slice a3 n3 k3, .int .i64 d, .slice aa na ca, .slice ta nt tc, .slice (some ⟨rb, 0, none⟩) (es.length + 1) cap]) HB8.out (Nat.le_add_right _ 2) HQ8.out)
          obtain ⟨d0, d1, d2, d3, d4, d5, d6, d7⟩ := obj8_cell HS.out.2 (Below.refl _ _)
          refine bodyPost_ret (v := .tuple #[.agg #[.slice a0 n0 k0, .slice a1 n1 k1, .slice a2 n2 k2, .slice a3 n3 k3, .int .i64 d, .slice aa na ca, .slice ta nt tc, .slice (some ⟨rb, 0, none⟩) (es.length + 1) cap], .int .i64 0]) (by simp [results, Tryz.results14, go_sem, d0, d1, d2, d3, d4, d5, d6, d7]) rfl ?_
          exact (HE.out _ _).2 ⟨HS.out.1, rb, cap, rfl, own_of_block HW8.out (fun k hk => setRow_other _ (w.heap.size + 2) k _ (by have h1 : rb = k := Option.some.inj hk; subst h1; intro e; exact (own_other HW8.out HQ8.out (by decide)) (congrArg some (by first | exact e | exact e.symm))))⟩
      · skip
        have HB120 := Lib.hid (show Below w1.heap.size w1 (w1.alloc (.cells #[.int .u8 x.k, .int .i64 x.r, .int .i64 x.v, .int .i64 x.f, .int .i64 x.a] 44)) from HBs.out.alloc HBs.out.size _)
        have HN120 := Lib.hid (show (w1.alloc (.cells #[.int .u8 x.k, .int .i64 x.r, .int .i64 x.v, .int .i64 x.f, .int .i64 x.a] 44)).heap[w1.heap.size]? = some (.cells #[.int .u8 x.k, .int .i64 x.r, .int .i64 x.v, .int .i64 x.f, .int .i64 x.a] 44) from new_block rfl (by simp))
        try simp only [List.getElem_toArray, List.getElem_cons_succ, List.getElem_cons_zero]
        go_simp
        try go_wp2_with fail
        refine hK.out _ _ ?_ (fun hHeld => ?_)
        · exact put_held2 ((HB120.out.block _ (heap_some_lt HE1.out)).trans HE1.out)
        clear hK K
        try simp only [List.getElem_toArray, List.getElem_cons_succ, List.getElem_cons_zero, Act.put, List.setIfInBounds_toArray, List.set_cons_zero, List.set_cons_succ]
        refine wpAnyH_ready (rs := [0]) (by kernel_rfl) (by simp) ?_
        refine AllReadyH.cons rfl (fun K hK => ?_) AllReadyH.nil
        have HB121 := Lib.hid (show Below w1.heap.size w1 ((w1.alloc (.cells #[.int .u8 x.k, .int .i64 x.r, .int .i64 x.v, .int .i64 x.f, .int .i64 x.a] 44)).alloc (.cells #[] 44)) from HB120.out.alloc HB120.out.size _)
        have HN121 := Lib.hid (show ((w1.alloc (.cells #[.int .u8 x.k, .int .i64 x.r, .int .i64 x.v, .int .i64 x.f, .int .i64 x.a] 44)).alloc (.cells #[] 44)).heap[w1.heap.size + 1]? = some (.cells #[] 44) from new_block rfl (by simp))
        have HLE121 := Lib.hid (show ((w1.alloc (.cells #[.int .u8 x.k, .int .i64 x.r, .int .i64 x.v, .int .i64 x.f, .int .i64 x.a] 44)).alloc (.cells #[] 44)).heap[w1.heap.size]? = some (.cells #[.int .u8 x.k, .int .i64 x.r, .int .i64 x.v, .int .i64 x.f, .int .i64 x.a] 44) from (heap_alloc_old _ _ (heap_some_lt HN120.out)).trans HN120.out)
        try simp only [List.getElem_toArray, List.getElem_cons_succ, List.getElem_cons_zero]
        go_simp
        try go_wp2_with fail
        refine hK.out _ _ ?_ (fun hHeld => ?_)
        · exact put_held2 ((HB121.out.block _ (heap_some_lt HE1.out)).trans HE1.out)
        clear hK K
        try simp only [List.getElem_toArray, List.getElem_cons_succ, List.getElem_cons_zero, Act.put, List.setIfInBounds_toArray, List.set_cons_zero, List.set_cons_succ]
        refine wpAnyH_ready (rs := [3]) (by kernel_rfl) (by simp) ?_
        refine AllReadyH.cons rfl (fun K hK => ?_) AllReadyH.nil
        refine step_append_play rfl (.tmp 12) (.tmp 14) 37 rfl w1.heap.size 44 i0 (.agg #[.int .u8 0, .int .i64 0, .int .i64 0, .int .i64 0, .int .i64 0]) 5 40 Tryz.underlying37 hi0 hz0 hz1 hz2 rfl (by decide) (.slice (some ⟨w1.heap.size + 1, 0, none⟩) 0 0) 0 [] (by rfl) (play_own HN121.out (by omega)) (.slice ra es.length rc) es.length (evCells es) (by rfl) (evCells_len es) (by first | exact (HR1.out.below HB121.out).src | exact (HR1.out.below HB121.out.drew).src) (evCells_one es) (by unfold maxLen; omega) (by omega) (by first | exact HB121.out.size | exact HB121.out.drew.size) ?_
        intro v6 w6 ho hg
        have HOW122 := Lib.hid (own0 ho)
        have HB122 := Lib.hid (show Below w1.heap.size w1 w6 from by first | exact HB121.out.grown hg HB121.out.size (fun k e => by have h1 : w1.heap.size + 1 = k := Option.some.inj e; omega) | exact HB121.out.drew.grown hg HB121.out.size (fun k e => by have h1 : w1.heap.size + 1 = k := Option.some.inj e; omega))
        have HLE122 := Lib.hid (show w6.heap[w1.heap.size]? = some (.cells #[.int .u8 x.k, .int .i64 x.r, .int .i64 x.v, .int .i64 x.f, .int .i64 x.a] 44) from (hg.block _ (heap_some_lt HLE121.out) (fun e => by have h1 : w1.heap.size = w1.heap.size + 1 := Option.some.inj e; omega)).trans HLE121.out)
        refine hK.out _ _ ?_ (fun hHeld => ?_)
        · exact put_held2 ((HB122.out.block _ (heap_some_lt HE1.out)).trans HE1.out)
        clear hK K
        try simp only [List.getElem_toArray, List.getElem_cons_succ, List.getElem_cons_zero, Act.put, List.setIfInBounds_toArray, List.set_cons_zero, List.set_cons_succ]
        clear ho hg
        refine wpAnyH_ready (rs := [6]) (by kernel_rfl) (by simp) ?_
        refine AllReadyH.cons rfl (fun K hK => ?_) AllReadyH.nil
        refine step_append_lies _ rfl (.tmp 15) (.tmp 17) 37 rfl w1.heap.size 44 i0 (.agg #[.int .u8 0, .int .i64 0, .int .i64 0, .int .i64 0, .int .i64 0]) 5 40 Tryz.underlying37 hi0 hz0 hz1 hz2 rfl (by decide) v6 es.length (evCells es) (by rfl) HOW122.out ⟨w1.heap.size, 0, none⟩ 1 1 (evC x) (by rfl) rfl (World.news_of_block (cs := #[.int .u8 x.k, .int .i64 x.r, .int .i64 x.v, .int .i64 x.f, .int .i64 x.a]) (t := 44) (fr := (0, 0)) HLE122.out) (evC_one x) (by decide) (by unfold maxLen; omega) (by omega) HB122.out.size _ rfl ?_
        intro rb cap w7 hown hg hat hlt
        have HB123 := Lib.hid (show Below w1.heap.size w1 w7 from HB122.out.grown hg HB122.out.size (fun k e => (HOW122.out.lt k e).1))
        have HF := Lib.hid (rput_fin HB1.out HO1.out HQ1.out HB123.out hown)
        have hc7 := HF.out.1
        have hf7 := HF.out.2.1
        refine hK.out _ _ ?_ (fun hHeld => ?_)
        · exact put_held2 ((HB123.out.block _ (heap_some_lt HE1.out)).trans HE1.out)
        clear hK K
        try simp only [List.getElem_toArray, List.getElem_cons_succ, List.getElem_cons_zero, Act.put, List.setIfInBounds_toArray, List.set_cons_zero, List.set_cons_succ]
        clear hown hg hat hlt
        refine wpAnyH_take (i := 7) (v := .pointer (some ⟨w.heap.size, 7, none⟩)) rfl (by kernel_rfl) (by kernel_rfl) (by kernel_rfl) (fun _ _ _ h => h) (Or.inl ⟨by rfl, fun W hSW => ?_⟩) hHeld ?_
        · ((try dsimp only at hSW); go_split_ands; go_simp <;> with_reducible rfl)
        try simp only [List.getElem_toArray, List.getElem_cons_succ, List.getElem_cons_zero, Act.put, List.setIfInBounds_toArray, List.set_cons_zero, List.set_cons_succ]
        refine wpAnyH_ready (rs := [8]) (by kernel_rfl) (by simp) ?_
        refine AllReadyH.cons rfl (fun K hK => ?_) AllReadyH.nil
        try simp only [List.getElem_toArray, List.getElem_cons_succ, List.getElem_cons_zero]
        go_simp
        try go_wp2_with fail
        refine hK.out _ _ ?_ (fun hHeld => ?_)
        · exact put_held2 ((Below.heap_setCell _ _ _ _ (show w.heap.size + 1 ≠ w.heap.size by omega)).trans ((HB123.out.block _ (heap_some_lt HE1.out)).trans HE1.out))
        clear hK K
        try simp only [List.getElem_toArray, List.getElem_cons_succ, List.getElem_cons_zero, Act.put, List.setIfInBounds_toArray, List.set_cons_zero, List.set_cons_succ]
        refine wpAnyH_done (by kernel_rfl) ?_ _
        clear hHeld hc7 hf7
        obtain ⟨W8, hW8⟩ : ∃ W8, W8 = w7.setCell ⟨w.heap.size, 7, none⟩ (.slice (some ⟨rb, 0, none⟩) (es.length + 1) cap) := ⟨_, rfl⟩
        have hmf := HF.out.2.2
        rw [← hW8] at hmf ⊢
        obtain ⟨h3, h4, h5, h6⟩ := hmf
        obtain ⟨c0, c1, c2, c3, c4, c5, c6, c7⟩ := obj8_cell h4 (Below.refl _ _)
        have HB8 := Lib.hid h3
        have HQ8 := Lib.hid h5
        have HW8 := Lib.hid h6
        clear h3 h4 h5 h6 hW8 HF
        go_wp2_with (refine wpList_store_row rfl 39 (.tmp 4) (.tmp 20) rfl (w.heap.size + 2) #[.slice a0 n0 k0, .slice a1 n1 k1, .slice a2 n2 k2, .slice a3 n3 k3, .int .i64 d, .slice aa na ca, .slice ta nt tc, .slice (some ⟨rb, 0, none⟩) (es.length + 1) cap] rfl rfl 39 #[.slice none 0 0, .slice none 0 0, .slice none 0 0, .slice none 0 0, .int .i64 0, .slice none 0 0, .slice none 0 0, .slice none 0 0] HQ8.out (by kernel_rfl) rfl box8_one ?_)
        have HS := Lib.hid (row_set8 (cs := #[.slice a0 n0 k0, .slice a1 n1 k1, .slice a2 n2 k2, .slice a3 n3 k3, .int .i64 d, .slice aa na ca, .slice ta nt tc, .slice (some ⟨rb, 0, none⟩) (es.length + 1) cap]) HB8.out (Nat.le_add_right _ 2) HQ8.out)
        obtain ⟨d0, d1, d2, d3, d4, d5, d6, d7⟩ := obj8_cell HS.out.2 (Below.refl _ _)
        refine bodyPost_ret (v := .tuple #[.agg #[.slice a0 n0 k0, .slice a1 n1 k1, .slice a2 n2 k2, .slice a3 n3 k3, .int .i64 d, .slice aa na ca, .slice ta nt tc, .slice (some ⟨rb, 0, none⟩) (es.length + 1) cap], .int .i64 0]) (by simp [results, Tryz.results14, go_sem, d0, d1, d2, d3, d4, d5, d6, d7]) rfl ?_
        exact (HE.out _ _).2 ⟨HS.out.1, rb, cap, rfl, own_of_block HW8.out (fun k hk => setRow_other _ (w.heap.size + 2) k _ (by have h1 : rb = k := Option.some.inj hk; subst h1; intro e; exact (own_other HW8.out HQ8.out (by decide)) (congrArg some (by first | exact e | exact e.symm))))⟩
    · skip
      have HB124 := Lib.hid (show Below w1.heap.size w1 (w1.alloc (.cells #[.int .u8 x.k, .int .i64 x.r, .int .i64 x.v, .int .i64 x.f, .int .i64 x.a] 44)) from HBs.out.alloc HBs.out.size _)
      have HN124 := Lib.hid (show (w1.alloc (.cells #[.int .u8 x.k, .int .i64 x.r, .int .i64 x.v, .int .i64 x.f, .int .i64 x.a] 44)).heap[w1.heap.size]? = some (.cells #[.int .u8 x.k, .int .i64 x.r, .int .i64 x.v, .int .i64 x.f, .int .i64 x.a] 44) from new_block rfl (by simp))
      try simp only [List.getElem_toArray, List.getElem_cons_succ, List.getElem_cons_zero]
      go_simp
      try go_wp2_with fail
      refine hK.out _ _ ?_ (fun hHeld => ?_)
      · exact put_held2 ((HB124.out.block _ (heap_some_lt HE1.out)).trans HE1.out)
      clear hK K
      try simp only [List.getElem_toArray, List.getElem_cons_succ, List.getElem_cons_zero, Act.put, List.setIfInBounds_toArray, List.set_cons_zero, List.set_cons_succ]
      refine wpAnyH_ready (rs := [0, 2]) (by kernel_rfl) (by simp) ?_
      refine AllReadyH.cons rfl (fun K hK => ?_) (AllReadyH.cons rfl (fun K hK => ?_) AllReadyH.nil)
      · skip
        have HB125 := Lib.hid (show Below w1.heap.size w1 ((w1.alloc (.cells #[.int .u8 x.k, .int .i64 x.r, .int .i64 x.v, .int .i64 x.f, .int .i64 x.a] 44)).alloc (.cells #[] 44)) from HB124.out.alloc HB124.out.size _)
        have HN125 := Lib.hid (show ((w1.alloc (.cells #[.int .u8 x.k, .int .i64 x.r, .int .i64 x.v, .int .i64 x.f, .int .i64 x.a] 44)).alloc (.cells #[] 44)).heap[w1.heap.size + 1]? = some (.cells #[] 44) from new_block rfl (by simp))
        have HLE125 := Lib.hid (show ((w1.alloc (.cells #[.int .u8 x.k, .int .i64 x.r, .int .i64 x.v, .int .i64 x.f, .int .i64 x.a] 44)).alloc (.cells #[] 44)).heap[w1.heap.size]? = some (.cells #[.int .u8 x.k, .int .i64 x.r, .int .i64 x.v, .int .i64 x.f, .int .i64 x.a] 44) from (heap_alloc_old _ _ (heap_some_lt HN124.out)).trans HN124.out)
        try simp only [List.getElem_toArray, List.getElem_cons_succ, List.getElem_cons_zero]
        go_simp
        try go_wp2_with fail
        refine hK.out _ _ ?_ (fun hHeld => ?_)
        · exact put_held2 ((HB125.out.block _ (heap_some_lt HE1.out)).trans HE1.out)
        clear hK K
        try simp only [List.getElem_toArray, List.getElem_cons_succ, List.getElem_cons_zero, Act.put, List.setIfInBounds_toArray, List.set_cons_zero, List.set_cons_succ]
        refine wpAnyH_ready (rs := [2]) (by kernel_rfl) (by simp) ?_
        refine AllReadyH.cons rfl (fun K hK => ?_) AllReadyH.nil
        have hv126 := box_tr HO1.out HB125.out
        have hu126 := box_tr HO1.out HB125.out.drew
        try simp only [List.getElem_toArray, List.getElem_cons_succ, List.getElem_cons_zero]
        go_simp
        try go_wp2_with fail
        refine hK.out _ _ ?_ (fun hHeld => ?_)
        · exact put_held2 ((HB125.out.block _ (heap_some_lt HE1.out)).trans HE1.out)
        clear hK K
        try simp only [List.getElem_toArray, List.getElem_cons_succ, List.getElem_cons_zero, Act.put, List.setIfInBounds_toArray, List.set_cons_zero, List.set_cons_succ]
        clear hv126 hu126
        refine wpAnyH_ready (rs := [3]) (by kernel_rfl) (by simp) ?_
        refine AllReadyH.cons rfl (fun K hK => ?_) AllReadyH.nil
        refine step_append_play rfl (.tmp 12) (.tmp 14) 37 rfl w1.heap.size 44 i0 (.agg #[.int .u8 0, .int .i64 0, .int .i64 0, .int .i64 0, .int .i64 0]) 5 40 Tryz.underlying37 hi0 hz0 hz1 hz2 rfl (by decide) (.slice (some ⟨w1.heap.size + 1, 0, none⟩) 0 0) 0 [] (by rfl) (play_own HN125.out (by omega)) (.slice ra es.length rc) es.length (evCells es) (by rfl) (evCells_len es) (by first | exact (HR1.out.below HB125.out).src | exact (HR1.out.below HB125.out.drew).src) (evCells_one es) (by unfold maxLen; omega) (by omega) (by first | exact HB125.out.size | exact HB125.out.drew.size) ?_
        intro v6 w6 ho hg
        have HOW127 := Lib.hid (own0 ho)
        have HB127 := Lib.hid (show Below w1.heap.size w1 w6 from by first | exact HB125.out.grown hg HB125.out.size (fun k e => by have h1 : w1.heap.size + 1 = k := Option.some.inj e; omega) | exact HB125.out.drew.grown hg HB125.out.size (fun k e => by have h1 : w1.heap.size + 1 = k := Option.some.inj e; omega))
        have HLE127 := Lib.hid (show w6.heap[w1.heap.size]? = some (.cells #[.int .u8 x.k, .int .i64 x.r, .int .i64 x.v, .int .i64 x.f, .int .i64 x.a] 44) from (hg.block _ (heap_some_lt HLE125.out) (fun e => by have h1 : w1.heap.size = w1.heap.size + 1 := Option.some.inj e; omega)).trans HLE125.out)
        refine hK.out _ _ ?_ (fun hHeld => ?_)
        · exact put_held2 ((HB127.out.block _ (heap_some_lt HE1.out)).trans HE1.out)
        clear hK K
        try simp only [List.getElem_toArray, List.getElem_cons_succ, List.getElem_cons_zero, Act.put, List.setIfInBounds_toArray, List.set_cons_zero, List.set_cons_succ]
        clear ho hg
        refine wpAnyH_ready (rs := [6]) (by kernel_rfl) (by simp) ?_
        refine AllReadyH.cons rfl (fun K hK => ?_) AllReadyH.nil
        refine step_append_lies _ rfl (.tmp 15) (.tmp 17) 37 rfl w1.heap.size 44 i0 (.agg #[.int .u8 0, .int .i64 0, .int .i64 0, .int .i64 0, .int .i64 0]) 5 40 Tryz.underlying37 hi0 hz0 hz1 hz2 rfl (by decide) v6 es.length (evCells es) (by rfl) HOW127.out ⟨w1.heap.size, 0, none⟩ 1 1 (evC x) (by rfl) rfl (World.news_of_block (cs := #[.int .u8 x.k, .int .i64 x.r, .int .i64 x.v, .int .i64 x.f, .int .i64 x.a]) (t := 44) (fr := (0, 0)) HLE127.out) (evC_one x) (by decide) (by unfold maxLen; omega) (by omega) HB127.out.size _ rfl ?_
        intro rb cap w7 hown hg hat hlt
        have HB128 := Lib.hid (show Below w1.heap.size w1 w7 from HB127.out.grown hg HB127.out.size (fun k e => (HOW127.out.lt k e).1))
        have HF := Lib.hid (rput_fin HB1.out HO1.out HQ1.out HB128.out hown)
        have hc7 := HF.out.1
        have hf7 := HF.out.2.1
        refine hK.out _ _ ?_ (fun hHeld => ?_)
        · exact put_held2 ((HB128.out.block _ (heap_some_lt HE1.out)).trans HE1.out)
        clear hK K
        try simp only [List.getElem_toArray, List.getElem_cons_succ, List.getElem_cons_zero, Act.put, List.setIfInBounds_toArray, List.set_cons_zero, List.set_cons_succ]
        clear hown hg hat hlt
        refine wpAnyH_take (i := 7) (v := .pointer (some ⟨w.heap.size, 7, none⟩)) rfl (by kernel_rfl) (by kernel_rfl) (by kernel_rfl) (fun _ _ _ h => h) (Or.inl ⟨by rfl, fun W hSW => ?_⟩) hHeld ?_
        · ((try dsimp only at hSW); go_split_ands; go_simp <;> with_reducible rfl)
        try simp only [List.getElem_toArray, List.getElem_cons_succ, List.getElem_cons_zero, Act.put, List.setIfInBounds_toArray, List.set_cons_zero, List.set_cons_succ]
        refine wpAnyH_ready (rs := [8]) (by kernel_rfl) (by simp) ?_
        refine AllReadyH.cons rfl (fun K hK => ?_) AllReadyH.nil
        try simp only [List.getElem_toArray, List.getElem_cons_succ, List.getElem_cons_zero]
        go_simp
        try go_wp2_with fail
        refine hK.out _ _ ?_ (fun hHeld => ?_)
        · exact put_held2 ((Below.heap_setCell _ _ _ _ (show w.heap.size + 1 ≠ w.heap.size by omega)).trans ((HB128.out.block _ (heap_some_lt HE1.out)).trans HE1.out))
        clear hK K
        try simp only [List.getElem_toArray, List.getElem_cons_succ, List.getElem_cons_zero, Act.put, List.setIfInBounds_toArray, List.set_cons_zero, List.set_cons_succ]
        refine wpAnyH_done (by kernel_rfl) ?_ _
        clear hHeld hc7 hf7
        obtain ⟨W8, hW8⟩ : ∃ W8, W8 = w7.setCell ⟨w.heap.size, 7, none⟩ (.slice (some ⟨rb, 0, none⟩) (es.length + 1) cap) := ⟨_, rfl⟩
        have hmf := HF.out.2.2
        rw [← hW8] at hmf ⊢
        obtain ⟨h3, h4, h5, h6⟩ := hmf
        obtain ⟨c0, c1, c2, c3, c4, c5, c6, c7⟩ := obj8_cell h4 (Below.refl _ _)
        have HB8 := Lib.hid h3
        have HQ8 := Lib.hid h5
        have HW8 := Lib.hid h6
        clear h3 h4 h5 h6 hW8 HF
        go_wp2_with (refine wpList_store_row rfl 39 (.tmp 4) (.tmp 20) rfl (w.heap.size + 2) #[.slice a0 n0 k0, .slice a1 n1 k1, .slice a2 n2 k2, .slice a3 n3 k3, .int .i64 d, .slice aa na ca, .slice ta nt tc, .slice (some ⟨rb, 0, none⟩) (es.length + 1) cap] rfl rfl 39 #[.slice none 0 0, .slice none 0 0, .slice none 0 0, .slice none 0 0, .int .i64 0, .slice none 0 0, .slice none 0 0, .slice none 0 0] HQ8.out (by kernel_rfl) rfl box8_one ?_)
        have HS := Lib.hid (row_set8 (cs := #[.slice a0 n0 k0, .slice a1 n1 k1, .slice a2 n2 k2, .slice a3 n3 k3, .int .i64 d, .slice aa na ca, .slice ta nt tc, .slice (some ⟨rb, 0, none⟩) (es.length + 1) cap]) HB8.out (Nat.le_add_right _ 2) HQ8.out)
        obtain ⟨d0, d1, d2, d3, d4, d5, d6, d7⟩ := obj8_cell HS.out.2 (Below.refl _ _)
        refine bodyPost_ret (v := .tuple #[.agg #[.slice a0 n0 k0, .slice a1 n1 k1, .slice a2 n2 k2, .slice a3 n3 k3, .int .i64 d, .slice aa na ca, .slice ta nt tc, .slice (some ⟨rb, 0, none⟩) (es.length + 1) cap], .int .i64 0]) (by simp [results, Tryz.results14, go_sem, d0, d1, d2, d3, d4, d5, d6, d7]) rfl ?_
        exact (HE.out _ _).2 ⟨HS.out.1, rb, cap, rfl, own_of_block HW8.out (fun k hk => setRow_other _ (w.heap.size + 2) k _ (by have h1 : rb = k := Option.some.inj hk; subst h1; intro e; exact (own_other HW8.out HQ8.out (by decide)) (congrArg some (by first | exact e | exact e.symm))))⟩
      · skip
        have hv129 := box_tr HO1.out HB124.out
        have hu129 := box_tr HO1.out HB124.out.drew
        try simp only [List.getElem_toArray, List.getElem_cons_succ, List.getElem_cons_zero]
        go_simp
        try go_wp2_with fail
        refine hK.out _ _ ?_ (fun hHeld => ?_)
        · exact put_held2 ((HB124.out.block _ (heap_some_lt HE1.out)).trans HE1.out)
        clear hK K
        try simp only [List.getElem_toArray, List.getElem_cons_succ, List.getElem_cons_zero, Act.put, List.setIfInBounds_toArray, List.set_cons_zero, List.set_cons_succ]
        clear hv129 hu129
        refine wpAnyH_ready (rs := [0]) (by kernel_rfl) (by simp) ?_
        refine AllReadyH.cons rfl (fun K hK => ?_) AllReadyH.nil
        have HB130 := Lib.hid (show Below w1.heap.size w1 ((w1.alloc (.cells #[.int .u8 x.k, .int .i64 x.r, .int .i64 x.v, .int .i64 x.f, .int .i64 x.a] 44)).alloc (.cells #[] 44)) from HB124.out.alloc HB124.out.size _)
        have HN130 := Lib.hid (show ((w1.alloc (.cells #[.int .u8 x.k, .int .i64 x.r, .int .i64 x.v, .int .i64 x.f, .int .i64 x.a] 44)).alloc (.cells #[] 44)).heap[w1.heap.size + 1]? = some (.cells #[] 44) from new_block rfl (by simp))
        have HLE130 := Lib.hid (show ((w1.alloc (.cells #[.int .u8 x.k, .int .i64 x.r, .int .i64 x.v, .int .i64 x.f, .int .i64 x.a] 44)).alloc (.cells #[] 44)).heap[w1.heap.size]? = some (.cells #[.int .u8 x.k, .int .i64 x.r, .int .i64 x.v, .int .i64 x.f, .int .i64 x.a] 44) from (heap_alloc_old _ _ (heap_some_lt HN124.out)).trans HN124.out)
        try simp only [List.getElem_toArray, List.getElem_cons_succ, List.getElem_cons_zero]
        go_simp
        try go_wp2_with fail
        refine hK.out _ _ ?_ (fun hHeld => ?_)
        · exact put_held2 ((HB130.out.block _ (heap_some_lt HE1.out)).trans HE1.out)
        clear hK K
        try simp only [List.getElem_toArray, List.getElem_cons_succ, List.getElem_cons_zero, Act.put, List.setIfInBounds_toArray, List.set_cons_zero, List.set_cons_succ]
        refine wpAnyH_ready (rs := [3]) (by kernel_rfl) (by simp) ?_
        refine AllReadyH.cons rfl (fun K hK => ?_) AllReadyH.nil
        refine step_append_play rfl (.tmp 12) (.tmp 14) 37 rfl w1.heap.size 44 i0 (.agg #[.int .u8 0, .int .i64 0, .int .i64 0, .int .i64 0, .int .i64 0]) 5 40 Tryz.underlying37 hi0 hz0 hz1 hz2 rfl (by decide) (.slice (some ⟨w1.heap.size + 1, 0, none⟩) 0 0) 0 [] (by rfl) (play_own HN130.out (by omega)) (.slice ra es.length rc) es.length (evCells es) (by rfl) (evCells_len es) (by first | exact (HR1.out.below HB130.out).src | exact (HR1.out.below HB130.out.drew).src) (evCells_one es) (by unfold maxLen; omega) (by omega) (by first | exact HB130.out.size | exact HB130.out.drew.size) ?_
        intro v6 w6 ho hg
        have HOW131 := Lib.hid (own0 ho)
        have HB131 := Lib.hid (show Below w1.heap.size w1 w6 from by first | exact HB130.out.grown hg HB130.out.size (fun k e => by have h1 : w1.heap.size + 1 = k := Option.some.inj e; omega) | exact HB130.out.drew.grown hg HB130.out.size (fun k e => by have h1 : w1.heap.size + 1 = k := Option.some.inj e; omega))
        have HLE131 := Lib.hid (show w6.heap[w1.heap.size]? = some (.cells #[.int .u8 x.k, .int .i64 x.r, .int .i64 x.v, .int .i64 x.f, .int .i64 x.a] 44) from (hg.block _ (heap_some_lt HLE130.out) (fun e => by have h1 : w1.heap.size = w1.heap.size + 1 := Option.some.inj e; omega)).trans HLE130.out)
        refine hK.out _ _ ?_ (fun hHeld => ?_)
        · exact put_held2 ((HB131.out.block _ (heap_some_lt HE1.out)).trans HE1.out)
        clear hK K
        try simp only [List.getElem_toArray, List.getElem_cons_succ, List.getElem_cons_zero, Act.put, List.setIfInBounds_toArray, List.set_cons_zero, List.set_cons_succ]
        clear ho hg
        refine wpAnyH_ready (rs := [6]) (by kernel_rfl) (by simp) ?_
        refine AllReadyH.cons rfl (fun K hK => ?_) AllReadyH.nil
        refine step_append_lies _ rfl (.tmp 15) (.tmp 17) 37 rfl w1.heap.size 44 i0 (.agg #[.int .u8 0, .int .i64 0, .int .i64 0, .int .i64 0, .int .i64 0]) 5 40 Tryz.underlying37 hi0 hz0 hz1 hz2 rfl (by decide) v6 es.length (evCells es) (by rfl) HOW131.out ⟨w1.heap.size, 0, none⟩ 1 1 (evC x) (by rfl) rfl (World.news_of_block (cs := #[.int .u8 x.k, .int .i64 x.r, .int .i64 x.v, .int .i64 x.f, .int .i64 x.a]) (t := 44) (fr := (0, 0)) HLE131.out) (evC_one x) (by decide) (by unfold maxLen; omega) (by omega) HB131.out.size _ rfl ?_
        intro rb cap w7 hown hg hat hlt
        have HB132 := Lib.hid (show Below w1.heap.size w1 w7 from HB131.out.grown hg HB131.out.size (fun k e => (HOW131.out.lt k e).1))
        have HF := Lib.hid (rput_fin HB1.out HO1.out HQ1.out HB132.out hown)
        have hc7 := HF.out.1
        have hf7 := HF.out.2.1
        refine hK.out _ _ ?_ (fun hHeld => ?_)
        · exact put_held2 ((HB132.out.block _ (heap_some_lt HE1.out)).trans HE1.out)
        clear hK K
        try simp only [List.getElem_toArray, List.getElem_cons_succ, List.getElem_cons_zero, Act.put, List.setIfInBounds_toArray, List.set_cons_zero, List.set_cons_succ]
        clear hown hg hat hlt
        refine wpAnyH_take (i := 7) (v := .pointer (some ⟨w.heap.size, 7, none⟩)) rfl (by kernel_rfl) (by kernel_rfl) (by kernel_rfl) (fun _ _ _ h => h) (Or.inl ⟨by rfl, fun W hSW => ?_⟩) hHeld ?_
        · ((try dsimp only at hSW); go_split_ands; go_simp <;> with_reducible rfl)
        try simp only [List.getElem_toArray, List.getElem_cons_succ, List.getElem_cons_zero, Act.put, List.setIfInBounds_toArray, List.set_cons_zero, List.set_cons_succ]
        refine wpAnyH_ready (rs := [8]) (by kernel_rfl) (by simp) ?_
        refine AllReadyH.cons rfl (fun K hK => ?_) AllReadyH.nil
        try simp only [List.getElem_toArray, List.getElem_cons_succ, List.getElem_cons_zero]
        go_simp
        try go_wp2_with fail
        refine hK.out _ _ ?_ (fun hHeld => ?_)
        · exact put_held2 ((Below.heap_setCell _ _ _ _ (show w.heap.size + 1 ≠ w.heap.size by omega)).trans ((HB132.out.block _ (heap_some_lt HE1.out)).trans HE1.out))
        clear hK K
        try simp only [List.getElem_toArray, List.getElem_cons_succ, List.getElem_cons_zero, Act.put, List.setIfInBounds_toArray, List.set_cons_zero, List.set_cons_succ]
        refine wpAnyH_done (by kernel_rfl) ?_ _
        clear hHeld hc7 hf7
        obtain ⟨W8, hW8⟩ : ∃ W8, W8 = w7.setCell ⟨w.heap.size, 7, none⟩ (.slice (some ⟨rb, 0, none⟩) (es.length + 1) cap) := ⟨_, rfl⟩
        have hmf := HF.out.2.2
        rw [← hW8] at hmf ⊢
        obtain ⟨h3, h4, h5, h6⟩ := hmf
        obtain ⟨c0, c1, c2, c3, c4, c5, c6, c7⟩ := obj8_cell h4 (Below.refl _ _)
        have HB8 := Lib.hid h3
        have HQ8 := Lib.hid h5
        have HW8 := Lib.hid h6
        clear h3 h4 h5 h6 hW8 HF
        go_wp2_with (refine wpList_store_row rfl 39 (.tmp 4) (.tmp 20) rfl (w.heap.size + 2) #[.slice a0 n0 k0, .slice a1 n1 k1, .slice a2 n2 k2, .slice a3 n3 k3, .int .i64 d, .slice aa na ca, .slice ta nt tc, .slice (some ⟨rb, 0, none⟩) (es.length + 1) cap] rfl rfl 39 #[.slice none 0 0, .slice none 0 0, .slice none 0 0, .slice none 0 0, .int .i64 0, .slice none 0 0, .slice none 0 0, .slice none 0 0] HQ8.out (by kernel_rfl) rfl box8_one ?_)
        have HS := Lib.hid (row_set8 (cs := #[.slice a0 n0 k0, .slice a1 n1 k1, .slice a2 n2 k2, .slice a3 n3 k3, .int .i64 d, .slice aa na ca, .slice ta nt tc, .slice (some ⟨rb, 0, none⟩) (es.length + 1) cap]) HB8.out (Nat.le_add_right _ 2) HQ8.out)
        obtain ⟨d0, d1, d2, d3, d4, d5, d6, d7⟩ := obj8_cell HS.out.2 (Below.refl _ _)
        refine bodyPost_ret (v := .tuple #[.agg #[.slice a0 n0 k0, .slice a1 n1 k1, .slice a2 n2 k2, .slice a3 n3 k3, .int .i64 d, .slice aa na ca, .slice ta nt tc, .slice (some ⟨rb, 0, none⟩) (es.length + 1) cap], .int .i64 0]) (by simp [results, Tryz.results14, go_sem, d0, d1, d2, d3, d4, d5, d6, d7]) rfl ?_
        exact (HE.out _ _).2 ⟨HS.out.1, rb, cap, rfl, own_of_block HW8.out (fun k hk => setRow_other _ (w.heap.size + 2) k _ (by have h1 : rb = k := Option.some.inj hk; subst h1; intro e; exact (own_other HW8.out HQ8.out (by decide)) (congrArg some (by first | exact e | exact e.symm))))⟩
end Go.Proofs.YtdkpnbjkehakjaaGreatDoor

/-! the arguments of QueuePlays: calls, one behind the other -/
namespace Go.Proofs.YtdkpnbjkehakjaaGreatDoor
open Go.ChangeShapes Go.WideShapes Go.ChangeAt Go.RowKit Go.Deep Go.Joins
structure OpT where
  k : Int
  i : Int
  e : Ev
instance : Inhabited OpT := ⟨⟨0, 0, ev0⟩⟩
def opC (o : OpT) : List Value := .int .i64 o.k :: .int .i64 o.i :: evC o.e
def opAt (os : List OpT) (j : Nat) : OpT := os[j]?.getD default
def OpRow (n₀ : Nat) (W : World) (v : Value) (os : List OpT) : Prop :=
  ((∃ a cap, v = .slice a 0 cap ∧ (a = none → cap = 0)) ∧ os = []) ∨ ∃ b off cap, v = .slice (some ⟨b, off, none⟩) os.length cap ∧ b < n₀ ∧ os.length ≤ cap ∧ ∀ j, j < os.length → ∀ k u, (opC (opAt os j))[k]? = some u → W.cell? ⟨b, off + j * 7 + k, none⟩ = some u
theorem OpRow.below {n₀ : Nat} {A B : World} (h : Below n₀ A B) {v : Value} {os : List OpT} : OpRow n₀ A v os → OpRow n₀ B v os
  | .inl e => .inl e
  | .inr ⟨b, off, cap, e, hb, hl, hc⟩ => .inr ⟨b, off, cap, e, hb, hl, fun j hj k u hk => (h.cell (p := ⟨b, off + j * 7 + k, none⟩) hb).trans (hc j hj k u hk)⟩
theorem OpRow.form {n₀ : Nat} {A : World} {v : Value} {os : List OpT} (h : OpRow n₀ A v os) : ∃ a cap, v = .slice a os.length cap := by
  rcases h with ⟨⟨_, _, rfl, _⟩, rfl⟩ | ⟨b, off, cap, rfl, _⟩
  · exact ⟨_, _, rfl⟩
  · exact ⟨_, _, rfl⟩
theorem OpRow.at {n₀ : Nat} {W : World} {a : Option Addr} {n cap : Nat} {os : List OpT} (h : OpRow n₀ W (.slice a n cap) os) {j : Nat} (hj : j < os.length) :
    ∃ b off, a = some ⟨b, off, none⟩ ∧ b < n₀ ∧ ∀ k u, (opC (opAt os j))[k]? = some u → W.cell? ⟨b, off + j * 7 + k, none⟩ = some u := by
  rcases h with ⟨_, rfl⟩ | ⟨b, off, c, e, hb, _, hc⟩
  · simp at hj
  · cases e
    exact ⟨b, off, rfl, hb, hc j hj⟩
section
variable {H : Type} {enc : TypeId × Value → H} {W : World} {fuel : Nat} {v : Value} {x : DataW H × List MemPlace}
set_option maxRecDepth 100000 in
theorem open_ops (hf : DataW.trod enc Tryz.prog W 0 (fun _ => true) true fuel 28 [v] = some x) : ∃ os, OpRow W.heap.size W v os := by
  rcases open_slice Tryz.underlying28 hf with ⟨hcs, _⟩ | ⟨y, l, c, m, n, D, Pl, hcs, _, hl, hm, hmm, hx, hel⟩
  · simp at hcs
    subst hcs
    exact ⟨[], .inl ⟨⟨_, _, rfl, fun _ => rfl⟩, rfl⟩⟩
  · simp at hcs
    subst hcs
    have hm' : m = c := by simpa using hmm
    have ce : Tryz.prog.cellsOf 46 = 7 := by kernel_rfl
    have each : ∀ i, i < l → ∃ q : OpT, ∀ k u, (opC q)[k]? = some u → W.cell? (y.add (i * 7 + k)) = some u := by
      intro i hi
      obtain ⟨cs', h1, h2⟩ := hel i (by omega)
      rw [ce] at h1
      obtain ⟨_, hlen, hcell⟩ := World.cells?_some h1
      obtain ⟨a, b, e, rfl⟩ := open_opL hlen h2
      refine ⟨⟨a, b, e⟩, fun k u hk => ?_⟩
      have hk7 : k < 7 := (List.getElem?_eq_some_iff.1 hk).1
      have c0 := hcell k hk7
      rw [add_add] at c0
      rw [c0]
      exact hk
    obtain ⟨q, hq⟩ := choose_lt each
    refine ⟨(List.range l).map q, ?_⟩
    by_cases h0 : l = 0
    · subst h0; exact .inl ⟨⟨_, _, rfl, fun e => by cases e⟩, rfl⟩
    · have hc := hq 0 (by omega) 0 _ rfl
      rw [show y.add (0 * 7 + 0) = y from by cases y; rename_i s; cases s <;> simp [Addr.add]] at hc
      obtain ⟨b, off, rfl, hlt⟩ := addr_plainQ hc
      refine .inr ⟨b, off, c, by simp, hlt, by simpa using hl, fun j hj k u hk => ?_⟩
      have hj' : j < l := by simpa using hj
      unfold opAt at hk
      rw [List.getElem?_map, List.getElem?_range hj'] at hk
      have := hq j hj' k u hk
      rw [Addr.add_lit] at this
      simpa [Nat.add_assoc] using this
end
/-- a call is loaded whole -/
theorem wpList_loadOp {ops : Array Oper} {rest : List Oper} {o : Oper} {a : Act} {w : World} {Q : Exit → Act → World → Prop} (hgd : o.guard = none) (x : Operand) (ho : o.op = .load 46 x)
    (blk off : Nat) (hx : a.eval x = .pointer (some ⟨blk, off, none⟩)) (e : OpT) (hc : ∀ k u, (opC e)[k]? = some u → w.cell? ⟨blk, off + k, none⟩ = some u)
    (h : wpList Tryz.prog ops Q rest (a.put o.dst (.agg #[.int .i64 e.k, .int .i64 e.i, .int .u8 e.e.k, .int .i64 e.e.r, .int .i64 e.e.v, .int .i64 e.e.f, .int .i64 e.e.a])) w) : wpList Tryz.prog ops Q (o :: rest) a w := by
  have hl : (loadCells ⟨blk, off, none⟩ 7).run Tryz.prog w = .ok #[.int .i64 e.k, .int .i64 e.i, .int .u8 e.e.k, .int .i64 e.e.r, .int .i64 e.e.v, .int .i64 e.e.f, .int .i64 e.e.a] w :=
    run_loadCells_list (P := Tryz.prog) w ⟨blk, off, none⟩ (opC e) (fun j u hu => by
      rw [Addr.add_lit]
      exact hc j u hu)
  have hagg : (isAgg 46).run Tryz.prog w = .ok true w := by kernel_rfl
  have hs : (sizeOf 46).run Tryz.prog w = .ok 7 w := by kernel_rfl
  refine wpList_plain hgd fun K hK => ?_
  unfold Oper.wp execOp
  simp only [ho, hx, Instr.loadAt, Instr.sureAddr, Sem.run_bind, Sem.run_pure, Result.andThen_ok]
  simp only [loadVar, Sem.run_bind, hagg, hs, hl, Result.andThen_ok, if_true, Sem.run_pure]
  exact hK _ _ h
theorem op_one (e : OpT) : (#[.int .i64 e.k, .int .i64 e.i, .int .u8 e.e.k, .int .i64 e.e.r, .int .i64 e.e.v, .int .i64 e.e.f, .int .i64 e.e.a] : Array Value).all (·.oneCell') = true := by simp [Value.oneCell']
end Go.Proofs.YtdkpnbjkehakjaaGreatDoor

/-! QueuePlays: the walk -/
namespace Go.Proofs.YtdkpnbjkehakjaaGreatDoor
open Go.RowKit
theorem left26 {W V : World} {g q : Nat} {c0 c1 c2 c3 c4 c5 c6 c7 o0 o1 o2 o3 o4 o5 o6 : Value} {t u : TypeId} (h : W.heap[g]? = some (.cells #[c0, c1, c2, c3, c4, c5, c6, c7] t)) (hq : W.heap[q]? = some (.cells #[o0, o1, o2, o3, o4, o5, o6] u)) (hb : Below W.heap.size W V) :
    Below W.heap.size W V ∧ V.cell? ⟨g, 0, none⟩ = some c0 ∧ V.cell? ⟨g, 1, none⟩ = some c1 ∧ V.cell? ⟨g, 2, none⟩ = some c2 ∧ V.cell? ⟨g, 3, none⟩ = some c3 ∧ V.cell? ⟨g, 4, none⟩ = some c4 ∧ V.cell? ⟨g, 5, none⟩ = some c5 ∧ V.cell? ⟨g, 6, none⟩ = some c6 ∧ V.cell? ⟨g, 7, none⟩ = some c7 ∧ V.cell? ⟨q, 1, none⟩ = some o1 := by
  refine ⟨hb, ?_⟩
  obtain ⟨h0, h1, h2, h3, h4, h5, h6, h7⟩ := obj8_cell h hb
  have hq' := (hb.block q (heap_some_lt hq)).trans hq
  exact ⟨h0, h1, h2, h3, h4, h5, h6, h7, by simp [World.cell?, hq']⟩
theorem fin_held {W V : World} {g : Nat} {c0 c1 c2 c3 c4 c5 c6 c7 : Value} {t : TypeId} (h : W.heap[g]? = some (.cells #[c0, c1, c2, c3, c4, c5, c6, c7] t)) (hb : Below W.heap.size W V) : Below W.heap.size W V ∧ V.cell? ⟨g, 7, none⟩ = some c7 :=
  ⟨hb, box_tr h hb⟩
theorem kind_four (k : Int) : (wrap64 (k.tmod 4 + 4)).tmod 4 = 0 ∨ (wrap64 (k.tmod 4 + 4)).tmod 4 = 1 ∨ (wrap64 (k.tmod 4 + 4)).tmod 4 = 2 ∨ (wrap64 (k.tmod 4 + 4)).tmod 4 = 3 := by
  have hb : -3 ≤ k.tmod 4 ∧ k.tmod 4 ≤ 3 := by
    rcases Int.le_total 0 k with h | h
    · rw [Int.tmod_eq_emod_of_nonneg h]; omega
    · obtain ⟨m, rfl⟩ : ∃ m : Int, k = -m := ⟨-k, by omega⟩
      rw [Int.neg_tmod, Int.tmod_eq_emod_of_nonneg (by omega)]; omega
  have hw : wrap64 (k.tmod 4 + 4) = k.tmod 4 + 4 := by unfold wrap64; omega
  rw [hw, Int.tmod_eq_emod_of_nonneg (by omega)]
  omega
theorem left_same {A : List (List Int)} {tk : List Int} {n : Nat} (hl : tk.length = n) (hk : TkOk A tk) (i : Int) : leftI n (fun j => (rowAt A j).drop (tkAt tk j).toNat) i = leftT A tk i := by
  unfold leftI leftT
  rw [hl]
  split
  · have := hk i.toNat
    rw [List.length_drop]
    omega
  · rfl
/-- both boxes, behind some calls -/
def PlayI (B : Nat) (a0 a1 a2 a3 aa : Option Addr) (k0 k1 k2 k3 ca : Nat) (st : PSt) (S : List Int) (A : List (List Int)) (kb rb rk : Nat) (W : World) (i : Nat) : Prop :=
  ∃ (tk : List Int) (es : List Ev) (ve tv rv : Value) (vs : Nat → Value),
    BoxB W kb rb st.I.length st.O.length st.L.length ve ∧ TabQ B W rb st.I.length vs (fun j => (rowAt A j).drop (tkAt tk j).toNat) ∧ W.ownsRow B 44 5 ve es.length (evCells es) ∧
    W.heap[rk]? = some (.cells #[.slice a0 st.L.length k0, .slice a1 S.length k1, .slice a2 st.I.length k2, .slice a3 st.O.length k3, .int .i64 st.D, .slice aa A.length ca, tv, rv] 39) ∧
    W.ownsRow B 3 1 tv st.I.length (intsV tk) ∧ tk.length = st.I.length ∧ TkOk A tk ∧ W.ownsRow B 44 5 rv es.length (evCells es) ∧ (∀ k, ve.ownBlock = some k → rv.ownBlock ≠ some k) ∧ es.length ≤ i
theorem play_of {B : Nat} {a0 a1 a2 a3 aa : Option Addr} {k0 k1 k2 k3 ca : Nat} {st : PSt} {S : List Int} {A : List (List Int)} {kb rb rk : Nat} {W : World} {i : Nat} {tk : List Int} {es : List Ev} {ve tv rv : Value} {vs : Nat → Value}
    (h1 : BoxB W kb rb st.I.length st.O.length st.L.length ve) (h2 : TabQ B W rb st.I.length vs (fun j => (rowAt A j).drop (tkAt tk j).toNat)) (h3 : W.ownsRow B 44 5 ve es.length (evCells es))
    (h4 : W.heap[rk]? = some (.cells #[.slice a0 st.L.length k0, .slice a1 S.length k1, .slice a2 st.I.length k2, .slice a3 st.O.length k3, .int .i64 st.D, .slice aa A.length ca, tv, rv] 39))
    (h5 : W.ownsRow B 3 1 tv st.I.length (intsV tk)) (h6 : tk.length = st.I.length) (h7 : TkOk A tk) (h8 : W.ownsRow B 44 5 rv es.length (evCells es)) (h9 : ∀ k, ve.ownBlock = some k → rv.ownBlock ≠ some k) (h10 : es.length ≤ i) :
    PlayI B a0 a1 a2 a3 aa k0 k1 k2 k3 ca st S A kb rb rk W i := ⟨tk, es, ve, tv, rv, vs, h1, h2, h3, h4, h5, h6, h7, h8, h9, h10⟩
theorem play_on {B : Nat} {a0 a1 a2 a3 aa : Option Addr} {k0 k1 k2 k3 ca : Nat} {st : PSt} {S : List Int} {A : List (List Int)} {kb rb rk : Nat} {W V : World} {i : Nat} (hb : Below W.heap.size W V) (h : PlayI B a0 a1 a2 a3 aa k0 k1 k2 k3 ca st S A kb rb rk W i) : PlayI B a0 a1 a2 a3 aa k0 k1 k2 k3 ca st S A kb rb rk V i := by
  obtain ⟨tk, es, ve, tv, rv, vs, h1, h2, h3, h4, h5, h6, h7, h8, h9, h10⟩ := h
  exact ⟨tk, es, ve, tv, rv, vs, (hb.block _ h1.lt).trans h1, h2.on hb, own_of_block h3 (fun k hk => hb.block _ (h3.lt k hk).2), (hb.block _ (heap_some_lt h4)).trans h4, own_of_block h5 (fun k hk => hb.block _ (h5.lt k hk).2), h6, h7, own_of_block h8 (fun k hk => hb.block _ (h8.lt k hk).2), h9, h10⟩
theorem TabQ.but {B : Nat} {W V : World} {rb n g : Nat} {vs : Nat → Value} {rows : Nat → List Int} {cs : Array Value} (h : TabQ B W rb n vs rows) (hk : W.heap[g]? = some (.cells cs 39)) (hV : ∀ j, j ≠ g → V.heap[j]? = W.heap[j]?) : TabQ B V rb n vs rows := by
  refine ⟨h.base, World.rowIs.of_block h.tab (hV _ (fun e => ?_)), fun j hj => (h.rows j hj).kept fun k c fr _ hk' => hV _ (fun e => ?_)⟩
  · obtain ⟨c', h1, _⟩ := h.tab
    rw [show rb = g from e, hk] at h1
    cases h1
  · rw [show k = g from e, hk] at hk'
    cases hk'
/-- the reference's box is stored anew -/
theorem play_set {B : Nat} {a0 a1 a2 a3 aa : Option Addr} {k0 k1 k2 k3 ca : Nat} {st : PSt} {S : List Int} {A : List (List Int)} {kb rb rk : Nat} {W : World} {i : Nat} {tk : List Int} {es : List Ev} {ve tv rv : Value} {vs : Nat → Value} {old : Array Value} (hk : W.heap[rk]? = some (.cells old 39))
    (h1 : BoxB W kb rb st.I.length st.O.length st.L.length ve) (h2 : TabQ B W rb st.I.length vs (fun j => (rowAt A j).drop (tkAt tk j).toNat)) (h3 : W.ownsRow B 44 5 ve es.length (evCells es))
    (h5 : W.ownsRow B 3 1 tv st.I.length (intsV tk)) (h6 : tk.length = st.I.length) (h7 : TkOk A tk) (h8 : W.ownsRow B 44 5 rv es.length (evCells es)) (h9 : ∀ k, ve.ownBlock = some k → rv.ownBlock ≠ some k) (h10 : es.length ≤ i) :
    PlayI B a0 a1 a2 a3 aa k0 k1 k2 k3 ca st S A kb rb rk (W.setRow rk #[.slice a0 st.L.length k0, .slice a1 S.length k1, .slice a2 st.I.length k2, .slice a3 st.O.length k3, .int .i64 st.D, .slice aa A.length ca, tv, rv]) i := by
  have hV : ∀ j, j ≠ rk → (W.setRow rk #[.slice a0 st.L.length k0, .slice a1 S.length k1, .slice a2 st.I.length k2, .slice a3 st.O.length k3, .int .i64 st.D, .slice aa A.length ca, tv, rv]).heap[j]? = W.heap[j]? := fun j hj => setRow_other W rk j _ hj
  have hkb : kb ≠ rk := by
    intro e
    have h := h1
    unfold BoxB at h
    rw [e, hk] at h
    cases h
  refine ⟨tk, es, ve, tv, rv, vs, (hV _ hkb).trans h1, h2.but hk hV, own_of_block h3 (fun k e => hV _ (fun e' => own_other h3 hk (by decide) (by rw [e, e']))), setRow_heap W rk old _ _ (0, 0) hk, own_of_block h5 (fun k e => hV _ (fun e' => own_other h5 hk (by decide) (by rw [e, e']))), h6, h7, own_of_block h8 (fun k e => hV _ (fun e' => own_other h8 hk (by decide) (by rw [e, e']))), h9, h10⟩
theorem rtake_n {a0 a1 a2 a3 ra : Option Addr} {n0 n1 n2 n3 rn k0 k1 k2 k3 rc : Nat} {d : Int} {aa ta : Option Addr} {ca tc B n : Nat} {A : List (List Int)} {tk : List Int} (i : Int) (w : World) (hl : tk.length = n) (ha : GraphM w.heap.size w (.slice aa A.length ca) A) (hx : Small A)
    (ht : w.ownsRow B 3 1 (.slice ta n tc) n (intsV tk)) (hn : n ≤ 4294967296) (hk : TkOk A tk) (hs : ∀ j, (rowAt A j).length ≤ 4294967296) :
    Calls Tryz.prog 10 #[.agg #[.slice a0 n0 k0, .slice a1 n1 k1, .slice a2 n2 k2, .slice a3 n3 k3, .int .i64 d, .slice aa A.length ca, .slice ta n tc, .slice ra rn rc], .int .i64 i] w fun e w' => Below w.heap.size w w' ∧
      ((¬ (0 ≤ i ∧ i < n) → e = .returned (.tuple #[.agg #[.slice a0 n0 k0, .slice a1 n1 k1, .slice a2 n2 k2, .slice a3 n3 k3, .int .i64 d, .slice aa A.length ca, .slice ta n tc, .slice ra rn rc], .int .i64 0, .int .i64 1])) ∧
       (0 ≤ i ∧ i < n → ((rowAt A i.toNat).length : Int) - tkAt tk i.toNat ≤ 0 → e = .returned (.tuple #[.agg #[.slice a0 n0 k0, .slice a1 n1 k1, .slice a2 n2 k2, .slice a3 n3 k3, .int .i64 d, .slice aa A.length ca, .slice ta n tc, .slice ra rn rc], .int .i64 0, .int .i64 23])) ∧
       (0 ≤ i ∧ i < n → ¬ ((rowAt A i.toNat).length : Int) - tkAt tk i.toNat ≤ 0 → ∃ tb cap, e = .returned (.tuple #[.agg #[.slice a0 n0 k0, .slice a1 n1 k1, .slice a2 n2 k2, .slice a3 n3 k3, .int .i64 d, .slice aa A.length ca, .slice (some ⟨tb, 0, none⟩) n cap, .slice ra rn rc], .int .i64 ((rowAt A i.toNat)[(tkAt tk i.toNat).toNat]?.getD 0), .int .i64 0]) ∧ w'.ownsRow w.heap.size 3 1 (.slice (some ⟨tb, 0, none⟩) n cap) n (intsV (tk.set i.toNat (tkAt tk i.toNat + 1))))) := by
  subst hl
  refine (rtake_any a0 a1 a2 a3 ra n0 n1 n2 n3 rn k0 k1 k2 k3 rc d aa ta ca tc B A tk i w ha hx ht hn hk hs).mono ?_
  rintro e w' ⟨hb, h⟩
  refine ⟨hb, fun c => ?_, fun c1 c2 => ?_, fun c1 c2 => ?_⟩
  · rw [if_neg c] at h; exact h
  · rw [if_pos c1, if_pos c2] at h; exact h
  · rw [if_pos c1, if_neg c2] at h; exact h
theorem take_out {B kb rb n o l : Nat} {ve : Value} {rows : Nat → List Int} {i : Int} {e : Ending} {w w' : World} (h : TakeE B kb rb n o l ve rows i e w w') (c : ¬ (0 ≤ i ∧ i < n)) : e = .returned (.tuple #[.int .i64 0, .int .i64 1]) ∧ w' = w := by
  unfold TakeE at h; rw [if_neg c] at h; exact h
theorem take_dry {B kb rb n o l : Nat} {ve : Value} {rows : Nat → List Int} {i : Int} {e : Ending} {w w' : World} (h : TakeE B kb rb n o l ve rows i e w w') (c : 0 ≤ i ∧ i < n) (c2 : (rows i.toNat).length = 0) : e = .returned (.tuple #[.int .i64 0, .int .i64 23]) ∧ w' = w := by
  unfold TakeE at h; rw [if_pos c, if_pos c2] at h; exact h
theorem take_in {B kb rb n o l : Nat} {ve : Value} {rows : Nat → List Int} {i : Int} {e : Ending} {w w' : World} (h : TakeE B kb rb n o l ve rows i e w w') (c : 0 ≤ i ∧ i < n) (c2 : (rows i.toNat).length ≠ 0) : e = .returned (.tuple #[.int .i64 ((rows i.toNat)[0]?.getD 0), .int .i64 0]) ∧ w.grownBy w' (some rb) ∧ w'.heap.size = w.heap.size ∧ BoxB w' kb rb n o l ve ∧ ∃ vs, TabQ B w' rb n vs (tailAt rows i.toNat) := by
  unfold TakeE at h; rw [if_pos c, if_neg c2] at h; exact h
/-- one number more is taken -/
theorem tk_set {A : List (List Int)} {tk : List Int} {q : Nat} (hq : q < tk.length) (j : Nat) : tkAt (tk.set q (tkAt tk q + 1)) j = if j = q then tkAt tk q + 1 else tkAt tk j := by
  unfold tkAt
  rw [List.getElem?_set]
  by_cases e : q = j
  · subst e; simp [hq]
  · rw [if_neg e, if_neg (fun e' => e e'.symm)]
theorem tk_ok {A : List (List Int)} {tk : List Int} {q : Nat} (hk : TkOk A tk) (hq : q < tk.length) (c : ¬ ((rowAt A q).length : Int) - tkAt tk q ≤ 0) : TkOk A (tk.set q (tkAt tk q + 1)) := by
  intro j
  rw [tk_set (A := A) hq]
  have := hk q
  have := hk j
  by_cases e : j = q
  · subst e; rw [if_pos rfl]; omega
  · rw [if_neg e]; omega
theorem tk_tail {A : List (List Int)} {tk : List Int} {q : Nat} (hk : TkOk A tk) (hq : q < tk.length) (j : Nat) : tailAt (fun j => (rowAt A j).drop (tkAt tk j).toNat) q j = (rowAt A j).drop (tkAt (tk.set q (tkAt tk q + 1)) j).toNat := by
  unfold tailAt
  rw [tk_set (A := A) hq]
  have := hk q
  by_cases e : j = q
  · subst e
    rw [if_pos rfl, if_pos rfl, List.tail_drop, show (tkAt tk j + 1).toNat = (tkAt tk j).toNat + 1 by omega]
  · rw [if_neg e, if_neg e]
theorem tk_len {A : List (List Int)} {tk : List Int} {q : Nat} (hk : TkOk A tk) : (((rowAt A q).drop (tkAt tk q).toNat).length = 0) ↔ ((rowAt A q).length : Int) - tkAt tk q ≤ 0 := by
  have := hk q
  rw [List.length_drop]
  omega
theorem tk_head {A : List (List Int)} {tk : List Int} {q : Nat} : ((rowAt A q).drop (tkAt tk q).toNat)[0]?.getD 0 = (rowAt A q)[(tkAt tk q).toNat]?.getD 0 := by
  rw [List.getElem?_drop, Nat.add_zero]
theorem tk_zero (n j : Nat) : tkAt (List.replicate n 0) j = 0 := by
  unfold tkAt
  by_cases h : j < n
  · simp [h]
  · simp [h]
theorem play_start {B : Nat} {a0 a1 a2 a3 aa : Option Addr} {k0 k1 k2 k3 ca : Nat} {st : PSt} {S : List Int} {A : List (List Int)} {kb rb : Nat} {w2 w3 w4 : World} {tv : Value} {vs : Nat → Value} (h2 : B ≤ w2.heap.size) (h23 : Below w2.heap.size w2 w3) (h34 : Below w3.heap.size w3 w4)
    (hb : BoxB w3 kb rb st.I.length st.O.length st.L.length (.slice none 0 0)) (ht : TabQ w2.heap.size w3 rb st.I.length vs (rowAt A)) (htv : w4.ownsRow w3.heap.size 3 1 tv st.I.length (intsV (List.replicate st.I.length 0))) :
    PlayI B a0 a1 a2 a3 aa k0 k1 k2 k3 ca st S A kb rb w4.heap.size (w4.alloc (.cells #[.slice a0 st.L.length k0, .slice a1 S.length k1, .slice a2 st.I.length k2, .slice a3 st.O.length k3, .int .i64 st.D, .slice aa A.length ca, tv, .slice none 0 0] 39)) 0 := by
  have ha : Below w4.heap.size w4 (w4.alloc (.cells #[.slice a0 st.L.length k0, .slice a1 S.length k1, .slice a2 st.I.length k2, .slice a3 st.O.length k3, .int .i64 st.D, .slice aa A.length ca, tv, .slice none 0 0] 39)) := (Below.refl _ _).alloc (Nat.le_refl _) _
  refine ⟨List.replicate st.I.length 0, [], .slice none 0 0, tv, .slice none 0 0, vs, ?_, ?_, World.ownsRow_nil _ _ _ _, new_block rfl rfl, ?_, by simp, fun j => by rw [tk_zero]; exact ⟨Int.le_refl _, by omega⟩, World.ownsRow_nil _ _ _ _, fun k e => (by cases e), Nat.zero_le _⟩
  · exact (ha.block _ (Nat.lt_of_lt_of_le hb.lt h34.size)).trans ((h34.block _ hb.lt).trans hb)
  · exact (((ht.on h34).on ha).lower h2).congr (fun j _ => by simp only [tk_zero]; rfl)
  · exact (own_lower (Nat.le_trans h2 h23.size) htv).alloc _

theorem play_store {B : Nat} {a0 a1 a2 a3 aa : Option Addr} {k0 k1 k2 k3 ca : Nat} {st : PSt} {S : List Int} {A : List (List Int)} {kb rb rk : Nat} {W0 w7 w8 : World} {i : Nat} {tk : List Int} {es : List Ev} {ve tv rv : Value} {vs : Nat → Value} {old : Array Value} (hb : Below w7.heap.size w7 w8) (hk : w7.heap[rk]? = some (.cells old 39))
    (h1 : BoxB w7 kb rb st.I.length st.O.length st.L.length ve) (h2 : TabQ B w7 rb st.I.length vs (fun j => (rowAt A j).drop (tkAt tk j).toNat)) (h3 : w7.ownsRow B 44 5 ve es.length (evCells es))
    (h5 : w8.ownsRow B 3 1 tv st.I.length (intsV tk)) (h6 : tk.length = st.I.length) (h7 : TkOk A tk) (h8 : w8.ownsRow B 44 5 rv es.length (evCells es)) (h9 : ∀ k, ve.ownBlock = some k → rv.ownBlock ≠ some k) (h10 : es.length ≤ i)
    (hW : Below W0.heap.size W0 w7) (hrk : W0.heap.size ≤ rk) (o : Obj) :
    (w8.alloc o).heap[rk]? = some (.cells old 39) ∧ PlayI B a0 a1 a2 a3 aa k0 k1 k2 k3 ca st S A kb rb rk ((w8.alloc o).setRow rk #[.slice a0 st.L.length k0, .slice a1 S.length k1, .slice a2 st.I.length k2, .slice a3 st.O.length k3, .int .i64 st.D, .slice aa A.length ca, tv, rv]) i ∧ Below W0.heap.size W0 ((w8.alloc o).setRow rk #[.slice a0 st.L.length k0, .slice a1 S.length k1, .slice a2 st.I.length k2, .slice a3 st.O.length k3, .int .i64 st.D, .slice aa A.length ca, tv, rv]) := by
  have hbo : Below w7.heap.size w7 (w8.alloc o) := hb.alloc hb.size _
  have hk' := (hbo.block _ (heap_some_lt hk)).trans hk
  exact ⟨hk', play_set hk' ((hbo.block _ h1.lt).trans h1) (h2.on hbo) (own_of_block h3 (fun k e => hbo.block _ (h3.lt k e).2)) (h5.alloc o) h6 h7 (h8.alloc o) h9 h10, (row_set8 (hW.trans (hbo.mono hW.size)) hrk hk').1⟩
theorem play_in {B kb rb n o l : Nat} {ve : Value} {A : List (List Int)} {tk : List Int} {i z : Int} {e : Ending} {w w' : World} (h : TakeE B kb rb n o l ve (fun j => (rowAt A j).drop (tkAt tk j).toNat) i e w w') (hl : tk.length = n) (hk : TkOk A tk) (c : 0 ≤ i ∧ i < n) (c2 : ¬ ((rowAt A i.toNat).length : Int) - tkAt tk i.toNat ≤ 0) (hz : z = (rowAt A i.toNat)[(tkAt tk i.toNat).toNat]?.getD 0) :
    e = .returned (.tuple #[.int .i64 z, .int .i64 0]) ∧ w.grownBy w' (some rb) ∧ w'.heap.size = w.heap.size ∧ BoxB w' kb rb n o l ve ∧ ∃ vs, TabQ B w' rb n vs (fun j => (rowAt A j).drop (tkAt (tk.set i.toNat (tkAt tk i.toNat + 1)) j).toNat) := by
  obtain ⟨h1, h2, h3, h4, vs, h5⟩ := take_in h c (fun e => c2 ((tk_len hk).1 e))
  refine ⟨?_, h2, h3, h4, vs, h5.congr (fun j _ => tk_tail hk (by omega) j)⟩
  rw [h1, hz, ← tk_head]
theorem play_dry {B kb rb n o l : Nat} {ve : Value} {A : List (List Int)} {tk : List Int} {i : Int} {e : Ending} {w w' : World} (h : TakeE B kb rb n o l ve (fun j => (rowAt A j).drop (tkAt tk j).toNat) i e w w') (hk : TkOk A tk) (c : 0 ≤ i ∧ i < n) (c2 : ((rowAt A i.toNat).length : Int) - tkAt tk i.toNat ≤ 0) :
    e = .returned (.tuple #[.int .i64 0, .int .i64 23]) ∧ w' = w := take_dry h c ((tk_len hk).2 c2)
theorem play_grown {B rb rk q n m m' : Nat} {vs : Nat → Value} {rows : Nat → List Int} {ve rv : Value} {xs xs' : List Value} {cs os : Array Value} {wq w7 W0 : World} (hg : wq.grownBy w7 (some rb)) (ht : TabQ B wq rb n vs rows) (hk : wq.heap[rk]? = some (.cells cs 39)) (hv : wq.ownsRow B 44 5 ve m xs) (hr : wq.ownsRow B 44 5 rv m' xs') (hx : wq.heap[q]? = some (.cells os 46))
    (hW : Below W0.heap.size W0 wq) (hB : W0.heap.size = B) :
    w7.heap[rk]? = some (.cells cs 39) ∧ w7.ownsRow B 44 5 ve m xs ∧ w7.ownsRow B 44 5 rv m' xs' ∧ w7.heap[q]? = some (.cells os 46) ∧ Below W0.heap.size W0 w7 := by
  obtain ⟨c', h1, _⟩ := ht.tab
  have k : ∀ j, j < wq.heap.size → j ≠ rb → w7.heap[j]? = wq.heap[j]? := fun j hj hn => hg.block j hj (fun e => hn (Option.some.inj e))
  refine ⟨(k _ (heap_some_lt hk) (fun e => ?_)).trans hk, own_of_block hv (fun j e => k _ (hv.lt j e).2 (fun e' => own_other hv h1 (by decide) (by rw [e, e']))), own_of_block hr (fun j e => k _ (hr.lt j e).2 (fun e' => own_other hr h1 (by decide) (by rw [e, e']))), (k _ (heap_some_lt hx) (fun e => ?_)).trans hx, hW.grown hg hW.size (fun j e => ?_)⟩
  · rw [e, h1] at hk; cases hk
  · rw [e, h1] at hx; cases hx
  · have := ht.base
    have := Option.some.inj e
    omega
theorem play_put2 {B kb rb rk q n o l m m' p : Nat} {ve rv tv : Value} {xs xs' ys : List Value} {cs os : Array Value} {wq w7 W0 : World} (hg : Put2 wq w7 kb ve.ownBlock) (hb : BoxB wq kb rb n o l ve) (hk : wq.heap[rk]? = some (.cells cs 39)) (hv : wq.ownsRow B 44 5 ve m xs) (hr : wq.ownsRow B 44 5 rv m' xs') (htv : wq.ownsRow B 3 1 tv p ys) (hx : wq.heap[q]? = some (.cells os 46)) (hap : ∀ k, ve.ownBlock = some k → rv.ownBlock ≠ some k)
    (hW : Below W0.heap.size W0 wq) (hB : W0.heap.size = B) (hkb : W0.heap.size ≤ kb) :
    w7.heap[rk]? = some (.cells cs 39) ∧ w7.ownsRow B 44 5 rv m' xs' ∧ w7.ownsRow B 3 1 tv p ys ∧ w7.heap[q]? = some (.cells os 46) ∧ Below W0.heap.size W0 w7 := by
  have hb0 := hb
  unfold BoxB at hb0
  refine ⟨(hg.block _ (heap_some_lt hk) (fun e => ?_) (fun e => own_other hv hk (by decide) e.symm)).trans hk, own_of_block hr (fun j e => hg.block _ (hr.lt j e).2 (fun e' => own_other hr hb0 (by decide) (by rw [e, e'])) (fun e' => hap j e'.symm e)), own_of_block htv (fun j e => hg.block _ (htv.lt j e).2 (fun e' => own_other htv hb0 (by decide) (by rw [e, e'])) (fun e' => ?_)), (hg.block _ (heap_some_lt hx) (fun e => ?_) (fun e => own_other hv hx (by decide) e.symm)).trans hx, ⟨hg.os.trans hW.os, hg.tape.trans hW.tape, hg.output.trans hW.output, Nat.le_trans hW.size hg.size, fun k hk' => (hg.block k (Nat.lt_of_lt_of_le hk' hW.size) (by omega) (fun e => ?_)).trans (hW.block k hk')⟩⟩
  · rw [e, hb0] at hk; cases hk
  · exact own_types hv htv (by decide) e'.symm e
  · rw [e, hb0] at hx; cases hx
  · have := (hv.lt k e.symm).1
    omega
theorem op_cells {W : World} {q : Nat} {o0 o1 o2 o3 o4 o5 o6 : Value} {u : TypeId} (hq : W.heap[q]? = some (.cells #[o0, o1, o2, o3, o4, o5, o6] u)) : W.cell? ⟨q, 2, none⟩ = some o2 ∧ W.cell? ⟨q, 3, none⟩ = some o3 ∧ W.cell? ⟨q, 4, none⟩ = some o4 ∧ W.cell? ⟨q, 5, none⟩ = some o5 ∧ W.cell? ⟨q, 6, none⟩ = some o6 := by
  refine ⟨?_, ?_, ?_, ?_, ?_⟩ <;> simp [World.cell?, hq]
theorem play_apart {w7 w8 : World} {B e size n n' : Nat} {ve rv : Value} {xs xs' : List Value} (h : w7.ownsRow B e size ve n xs) (g : w8.ownsRow w7.heap.size e size rv n' xs') : ∀ k, ve.ownBlock = some k → rv.ownBlock ≠ some k := by
  intro k e1 e2
  have := (h.lt k e1).2
  have := (g.lt k e2).1
  omega

set_option maxRecDepth 100000 in
set_option maxHeartbeats 12800000 in
theorem queuePlays_walk (v0 v1 v2 v3 : Value) (st : PSt) (S : List Int) (a vo : Value) (A : List (List Int)) (os : List OpT) (w : World) (h : PolIn w v0 v1 v2 v3 st S) (hw : Wide S) (hsh : Short9 st)
    (ha : GraphM w.heap.size w a A) (hxA : Small A) (ho : OpRow w.heap.size w vo os)
    (hT : Go.Lib.Utf8Tabs 0 1 w) (hE : Errs w) (hP : Pow w) (hM : MaxL w) (hTz : Tz w) :
    Calls Tryz.prog 3 #[.agg #[v0, v1, v2, v3, .int .i64 st.D], a, vo] w fun e w' => e = .returned (.bool true) ∧ Below w.heap.size w w' := by
  obtain ⟨a0, k0, rfl⟩ := h.s0.form
  obtain ⟨a1, k1, rfl⟩ := h.s1.form
  obtain ⟨a2, k2, rfl⟩ := h.s2.form
  obtain ⟨a3, k3, rfl⟩ := h.s3.form
  obtain ⟨aa, ca, rfl⟩ := ha.form
  obtain ⟨ao, co, rfl⟩ := ho.form
  obtain ⟨W0, eW0⟩ : ∃ W0, W0 = w.alloc (.cells #[.slice a0 st.L.length k0, .slice a1 S.length k1, .slice a2 st.I.length k2, .slice a3 st.O.length k3, .int .i64 st.D] 26) := ⟨_, rfl⟩
  have HB0 := Lib.hid (show Below w.heap.size w W0 by rw [eW0]; exact (Below.refl _ _).alloc (Nat.le_refl _) _)
  have HO0 := Lib.hid (show W0.heap[w.heap.size]? = some (.cells #[.slice a0 st.L.length k0, .slice a1 S.length k1, .slice a2 st.I.length k2, .slice a3 st.O.length k3, .int .i64 st.D] 26) by rw [eW0]; exact new_block rfl rfl)
  have HP0 := Lib.hid (h.below HB0.out)
  have HTz := Lib.hid (hTz.on HB0.out)
  have HT := Lib.hid (Utf8Tabs_below hT HB0.out)
  have HE := Lib.hid (hE.below HB0.out)
  have HPw := Lib.hid (hP.below HB0.out)
  have HM := Lib.hid (hM.below HB0.out)
  have HA0 := Lib.hid ((ha.below HB0.out).mono HB0.out.size)
  have HOP := Lib.hid (ho.below HB0.out)
  have HSH := Lib.hid hsh
  have HWD := Lib.hid hw
  have EW0 := Lib.hid eW0
  have HXA := Lib.hid hxA
  have la := hxA.1
  have HAW := Lib.hid (fun (W : World) (hb : Below W0.heap.size W0 W) => (awake15_any W (Utf8Tabs_below HT.out hb) (HE.out.below hb) (HPw.out.below hb) (HM.out.below hb) (HTz.out.on hb)))
  clear h hTz hsh hw eW0 ha hxA hT hE hP hM HT HE HPw HM ho
  by_cases g0 : 100 < os.length
  · have s1 : decide (100 < os.length) = true := decide_eq_true g0
    have s2 : decide ((100 : Int) < (os.length : Int)) = true := decide_eq_true (by omega)
    go_enter Tryz.func3, Tryz.ntmps3
    go_wp2_with fail
    go_ret
    exact ⟨rfl, by rw [← EW0.out]; exact HB0.out⟩
  · have s1 : decide (100 < os.length) = false := decide_eq_false g0
    have s2 : decide ((100 : Int) < (os.length : Int)) = false := decide_eq_false (by omega)
    by_cases g1 : 40 < A.length
    · have t1 : decide (40 < A.length) = true := decide_eq_true g1
      have t2 : decide ((40 : Int) < (A.length : Int)) = true := decide_eq_true (by omega)
      clear g0
      go_enter Tryz.func3, Tryz.ntmps3
      go_wp2_with fail
      go_ret
      exact ⟨rfl, by rw [← EW0.out]; exact HB0.out⟩
    · have t1 : decide (40 < A.length) = false := decide_eq_false g1
      have t2 : decide ((40 : Int) < (A.length : Int)) = false := decide_eq_false (by omega)
      have ho1 : os.length ≤ 100 := by omega
      have ha1 : A.length ≤ 40 := by omega
      clear g0 g1
      go_enter Tryz.func3, Tryz.ntmps3
      go_wp2_with fail
      rw [← EW0.out]
      clear t1 t2 s1 s2
      go_loopw [7] (fun k wr => ∃ i : Nat, i ≤ A.length ∧ k = .int .i64 (i : Int) ∧ RowKit.Hid (∃ d, wr = W0.drewN d)) (fun k _ => A.length - (intOf k).toNat)
      case atStart => exact ⟨0, by omega, rfl, Lib.hid ⟨0, rfl⟩⟩
      case round =>
        obtain ⟨i, hi, rfl, HW⟩ := hrel
        obtain ⟨d0, hd0⟩ := HW.out
        have HB := Lib.hid (show Below W0.heap.size W0 wr by rw [hd0]; exact QQ.dN (Below.refl _ _) d0)
        have HWR := HW
        clear HW hd0
        by_cases hlt : i < A.length
        · obtain ⟨xb, xo, xc, e1⟩ := HA0.out.addr (by omega)
          cases e1
          obtain ⟨ra, rac, hx1, _⟩ := (HA0.out.below HB.out).at hlt
          have i1 : (0 : Int) ≤ i ∧ (i : Int) < A.length := by omega
          obtain ⟨r, er⟩ : ∃ r, r = rowAt A i := ⟨_, rfl⟩
          change wr.cell? _ = some (.slice ra (rowAt A i).length rac) at hx1
          rw [← er] at hx1
          clear er
          by_cases hr : 5000 < r.length
          · have t2 : decide (5000 < r.length) = true := decide_eq_true hr
            have t3 : decide ((5000 : Int) < (r.length : Int)) = true := decide_eq_true (by omega)
            clear hr
            go_wp2_with fail
            go_ret
            exact ⟨rfl, QQ.step HB0.out HB.out⟩
          · have t2 : decide (5000 < r.length) = false := decide_eq_false hr
            have t3 : decide ((5000 : Int) < (r.length : Int)) = false := decide_eq_false (by omega)
            clear hr
            go_wp2_with fail
            go_roundw
            case rel => exact ⟨i + 1, by omega, by go_num, by first | exact HWR | exact trivial⟩
            case measure => simp [intOf]; omega
        · have i1 : decide (i < A.length) = false := decide_eq_false hlt
          have i2 : decide ((i : Int) < (A.length : Int)) = false := decide_eq_false (by omega)
          clear hi hlt HWR
          obtain ⟨y0, y1, y2, y3, y4⟩ := obj5_cell HO0.out HB.out
          cases hf : (rightP st S && fillOk st.I.length A)
          · have HF := Lib.hid hf
            clear hf
            go_wp2_with (first
              | (refine wpList_store_row rfl 39 (.tmp 10) (.tmp 54) rfl _ #[.slice none 0 0, .slice none 0 0, .slice none 0 0, .slice none 0 0, .int .i64 0, .slice none 0 0, .slice none 0 0, .slice none 0 0] rfl rfl 39 #[.slice none 0 0, .slice none 0 0, .slice none 0 0, .slice none 0 0, .int .i64 0, .slice none 0 0, .slice none 0 0, .slice none 0 0] (heap_alloc_new _ _) (by kernel_rfl) rfl (by simp [Value.oneCell']) ?_; rw [setRow_new6])
              | (go_at_call 8; refine (HAW.out _ (HB4.out.alloc HB4.out.size _)).mono ?_; rintro e w9 ⟨rfl, hb⟩; have HB9 := Lib.hid (QQ.step (QQ.step HB0.out (HB4.out.alloc HB4.out.size _)) hb); clear hb)
              | (go_at_call 7; refine (rnew_any _ _ _ _ st S _ A w3 (HP0.out.below HB3.out) HWD.out HSH.out ((HA0.out.below HB3.out).mono HB3.out.size) HXA.out).mono ?_; rintro e w4 ⟨hb, ⟨h1, _⟩ | ⟨h1, rfl⟩⟩; (rw [HF.out] at h1; cases h1); have HB4 := Lib.hid (HB3.out.trans (hb.mono HB3.out.size)); clear hb h1)
              | (go_at_call 4; refine (qnew_any _ _ _ _ st S _ A w2 HPD.out HWD.out (HTz.out.on HB2.out) HSH.out.six HGA.out HXA.out).mono ?_; rintro e w3 ⟨hb, ⟨h1, _⟩ | ⟨h1, rfl⟩⟩; (rw [HF.out] at h1; cases h1); have HB3 := Lib.hid (HB2.out.trans (hb.mono HB2.out.size)); clear hb h1 y0 y1 y2 y3 y4; obtain ⟨y0, y1, y2, y3, y4⟩ := obj5_cell HO0.out HB3.out)
              | (go_at_call 6; refine (rcopy15_any _ A w1 ((HA0.out.below HB1.out).mono HB1.out.size) HXA.out (by omega)).mono ?_; rintro e w2 ⟨va, rfl, hga, hb⟩; have HB2 := Lib.hid (HB1.out.trans (hb.mono HB1.out.size)); have HGA := Lib.hid hga; have HPD := Lib.hid (HPC.out.below hb); clear hb hga)
              | (go_at_call 5; refine (rcopy_in _ _ _ _ st S wr (HP0.out.below HB.out)).mono ?_; rintro e w1 ⟨⟨p0, p1, p2, p3, rfl, hp⟩, hb⟩; have HB1 := Lib.hid (HB.out.trans (hb.mono HB.out.size)); have HPC := Lib.hid hp; clear hb hp))
            go_ret
            exact ⟨rfl, HB9.out⟩
          · have HF := Lib.hid hf
            have HI32 := Lib.hid (show st.I.length ≤ 4294967296 by
              have h1 := hf
              rw [Bool.and_eq_true] at h1
              have h2 := (right_sizes h1.1).2.2.1
              omega)
            have HRS := Lib.hid (fun j => show (rowAt A j).length ≤ 17592186044416 by
              have h1 := hf
              rw [Bool.and_eq_true] at h1
              have h2 := fill_row h1.2 j
              omega)
            have HRT := Lib.hid (fun j => show (rowAt A j).length ≤ 4294967296 by
              have h1 := hf
              rw [Bool.and_eq_true] at h1
              have h2 := fill_row h1.2 j
              omega)
            clear hf
            go_wp2_with (first
              | (refine wpList_store_row rfl 39 (.tmp 10) (.tmp 54) rfl _ #[.slice a0 st.L.length k0, .slice a1 S.length k1, .slice a2 st.I.length k2, .slice a3 st.O.length k3, .int .i64 st.D, .slice aa A.length ca, .slice tva st.I.length tvc, .slice none 0 0] rfl rfl 39 #[.slice none 0 0, .slice none 0 0, .slice none 0 0, .slice none 0 0, .int .i64 0, .slice none 0 0, .slice none 0 0, .slice none 0 0] (heap_alloc_new _ _) (by kernel_rfl) rfl HONE.out ?_; rw [setRow_new6])
              | (go_at_call 7; refine (rnew_any _ _ _ _ st S _ A w3 (HP0.out.below HB3.out) HWD.out HSH.out ((HA0.out.below HB3.out).mono HB3.out.size) HXA.out).mono ?_; rintro e w4 ⟨hb, ⟨h1, tv, rfl, htv⟩ | ⟨h1, _⟩⟩; (case inr => rw [HF.out] at h1; cases h1); obtain ⟨tva, tvc, rfl⟩ := QQ.ownOf htv; have HB4 := Lib.hid (HB3.out.trans (hb.mono HB3.out.size)); have HST := Lib.hid (play_start (a0 := a0) (a1 := a1) (a2 := a2) (a3 := a3) (aa := aa) (k0 := k0) (k1 := k1) (k2 := k2) (k3 := k3) (ca := ca) (S := S) HB2.out.size H23.out hb HBX.out HTB.out htv); have HONE := Lib.hid (show (#[.slice a0 st.L.length k0, .slice a1 S.length k1, .slice a2 st.I.length k2, .slice a3 st.O.length k3, .int .i64 st.D, .slice aa A.length ca, .slice tva st.I.length tvc, .slice none 0 0] : Array Value).all (·.oneCell') = true by simp [Value.oneCell']); clear hb h1 htv)
              | (go_at_call 4; refine (qnew_any _ _ _ _ st S _ A w2 HPD.out HWD.out (HTz.out.on HB2.out) HSH.out.six HGA.out HXA.out).mono ?_; rintro e w3 ⟨hb, ⟨h1, kb, rb, vs, rfl, hkb, hbx, htb⟩ | ⟨h1, _⟩⟩; (case inr => rw [HF.out] at h1; cases h1); have HB3 := Lib.hid (HB2.out.trans (hb.mono HB2.out.size)); have H23 := Lib.hid hb; have HBX := Lib.hid hbx; have HTB := Lib.hid htb; have HKB := Lib.hid (Nat.le_trans HB2.out.size hkb); clear hb h1 hkb hbx htb y0 y1 y2 y3 y4; obtain ⟨y0, y1, y2, y3, y4⟩ := obj5_cell HO0.out HB3.out)
              | (go_at_call 6; refine (rcopy15_any _ A w1 ((HA0.out.below HB1.out).mono HB1.out.size) HXA.out (by omega)).mono ?_; rintro e w2 ⟨va, rfl, hga, hb⟩; have HB2 := Lib.hid (HB1.out.trans (hb.mono HB1.out.size)); have HGA := Lib.hid hga; have HPD := Lib.hid (HPC.out.below hb); clear hb hga)
              | (go_at_call 5; refine (rcopy_in _ _ _ _ st S wr (HP0.out.below HB.out)).mono ?_; rintro e w1 ⟨⟨p0, p1, p2, p3, rfl, hp⟩, hb⟩; have HB1 := Lib.hid (HB.out.trans (hb.mono HB.out.size)); have HPC := Lib.hid hp; clear hb hp))
            clear y0 y1 y2 y3 y4
            go_loopw [12] (fun k w6 => ∃ i : Nat, i ≤ os.length ∧ k = .int .i64 (i : Int) ∧ PlayI W0.heap.size a0 a1 a2 a3 aa k0 k1 k2 k3 ca st S A kb rb w4.heap.size w6 i ∧ Below W0.heap.size W0 w6) (fun k _ => os.length - (intOf k).toNat)
            case atStart => exact ⟨0, by omega, rfl, HST.out, HB4.out.alloc HB4.out.size _⟩
            case round =>
              obtain ⟨w6, rfl⟩ : ∃ w6, w6 = wr := ⟨_, rfl⟩
              obtain ⟨i, hi, rfl, hI, hB6⟩ := hrel
              obtain ⟨tk, es, ve, tv, rv, vs6, hbx, htb, hve, hrk, htv, htl, htk, hrv, hap, hel⟩ := hI
              have HB6 := Lib.hid hB6
              have HBX6 := Lib.hid hbx
              have HTB6 := Lib.hid htb
              have HVE := Lib.hid hve
              have HRK := Lib.hid hrk
              have HTV := Lib.hid htv
              have HTL := Lib.hid htl
              have HTK := Lib.hid htk
              have HRV := Lib.hid hrv
              have HAP := Lib.hid hap
              have hes : es.length ≤ 1000000 := by omega
              have HK4 := Lib.hid HB4.out.size
              clear hB6 hbx htb hve hrk htv htl htk hrv hap HST HB4 HBX HTB HF H23 HB3 HB2 HB1 HPC HPD HGA HONE
              by_cases hlt : i < os.length
              · have j1 : decide ((i : Int) < (os.length : Int)) = true := decide_eq_true (by omega)
                have j2 : decide (i < os.length) = true := decide_eq_true hlt
                obtain ⟨ob, oo, e, _, hoc⟩ := (HOP.out.below (HB6.out.mono HB0.out.size)).at hlt
                cases e
                obtain ⟨x, ex⟩ : ∃ x, x = opAt os i := ⟨_, rfl⟩
                rw [← ex] at hoc
                have HOC := Lib.hid hoc
                have i1 : (0 : Int) ≤ i ∧ (i : Int) < os.length := by omega
                clear ex hoc
                go_upto_region 19 with (first
                  | (refine wpList_loadOp rfl (.tmp 77) rfl ob (oo + i * 7) rfl x HOC.out ?_)
                  | (refine wpList_store_row rfl 46 (.tmp 13) (.tmp 78) rfl _ #[.int .i64 x.k, .int .i64 x.i, .int .u8 x.e.k, .int .i64 x.e.r, .int .i64 x.e.v, .int .i64 x.e.f, .int .i64 x.e.a] rfl rfl 46 #[.int .i64 0, .int .i64 0, .int .u8 0, .int .i64 0, .int .i64 0, .int .i64 0, .int .i64 0] (heap_alloc_new _ _) (by kernel_rfl) rfl (op_one x) ?_; rw [setRow_new6]))
                obtain ⟨wq, hwq⟩ : ∃ wq, wq = w6.alloc (.cells #[.int .i64 x.k, .int .i64 x.i, .int .u8 x.e.k, .int .i64 x.e.r, .int .i64 x.e.v, .int .i64 x.e.f, .int .i64 x.e.a] 46) := ⟨_, rfl⟩
                rw [← hwq]
                have HBQ := Lib.hid (show Below w6.heap.size w6 wq by rw [hwq]; exact (Below.refl _ _).alloc (Nat.le_refl _) _)
                have HXQ := Lib.hid (show wq.heap[w6.heap.size]? = some (.cells #[.int .i64 x.k, .int .i64 x.i, .int .u8 x.e.k, .int .i64 x.e.r, .int .i64 x.e.v, .int .i64 x.e.f, .int .i64 x.e.a] 46) by rw [hwq]; exact new_block rfl rfl)
                have HRQ := Lib.hid ((HBQ.out.block _ (heap_some_lt HRK.out)).trans HRK.out)
                have HBXQ := Lib.hid (show BoxB wq kb rb st.I.length st.O.length st.L.length ve from (HBQ.out.block _ HBX6.out.lt).trans HBX6.out)
                have HTBQ := Lib.hid (HTB6.out.on HBQ.out)
                have HVQ := Lib.hid (own_of_block HVE.out (fun k hk => HBQ.out.block _ (HVE.out.lt k hk).2))
                have HTQ := Lib.hid (own_of_block HTV.out (fun k hk => HBQ.out.block _ (HTV.out.lt k hk).2))
                have HRVQ := Lib.hid (own_of_block HRV.out (fun k hk => HBQ.out.block _ (HRV.out.lt k hk).2))
                have HB7 := Lib.hid (HB6.out.trans (HBQ.out.mono HB6.out.size))
                clear hwq HRK HBX6 HTB6 HVE HTV HRV
                rcases kind_four x.k with hc | hc | hc | hc
                · obtain ⟨tva6, tvc6, rfl⟩ := QQ.ownOf HTQ.out
                  obtain ⟨ra6, rac6, rfl⟩ := QQ.ownOf HRVQ.out
                  obtain ⟨_, y0, y1, y2, y3, y4, y5, y6, y7, y8⟩ := left26 HRQ.out HXQ.out (Below.refl _ _)
                  by_cases c1 : 0 ≤ x.i ∧ x.i < st.I.length
                  · have HC1 := Lib.hid c1
                    by_cases c2 : ((rowAt A x.i.toNat).length : Int) - tkAt tk x.i.toNat ≤ 0
                    · have HC2 := Lib.hid c2
                      clear c1 c2
                      have HPS := Lib.hid (fun (w8 : World) (hb : Below wq.heap.size wq w8) (o : Obj) => play_store (a0 := a0) (a1 := a1) (a2 := a2) (a3 := a3) (aa := aa) (k0 := k0) (k1 := k1) (k2 := k2) (k3 := k3) (ca := ca) (S := S) (i := i + 1) hb HRQ.out HBXQ.out HTBQ.out HVQ.out (own_of_block HTQ.out (fun k e => hb.block _ (HTQ.out.lt k e).2)) HTL.out HTK.out (own_of_block HRVQ.out (fun k e => hb.block _ (HRVQ.out.lt k e).2)) HAP.out (show es.length ≤ i + 1 by omega) HB7.out HK4.out o)
                      go_wp2_with fail
                      refine (take_any x.i wq HBXQ.out HTBQ.out HI32.out).mono ?_
                      intro e w7 hte
                      obtain ⟨rfl, hw7⟩ := play_dry hte HTK.out HC1.out HC2.out
                      have hw7' := hw7.symm
                      clear hw7 hte
                      subst hw7'
                      go_wp2_with fail
                      refine (rtake_n x.i wq HTL.out ((HA0.out.below HB7.out).mono HB7.out.size) HXA.out HTQ.out HI32.out HTK.out HRT.out).mono ?_
                      rintro e w8 ⟨hb, h⟩
                      obtain rfl := h.2.1 HC1.out HC2.out
                      have HB8 := Lib.hid hb
                      clear h hb
                      go_wp2_with (first
                        | (refine wpList_store_row rfl 39 (.tmp 10) (.tmp 101) rfl _ #[.slice a0 st.L.length k0, .slice a1 S.length k1, .slice a2 st.I.length k2, .slice a3 st.O.length k3, .int .i64 st.D, .slice aa A.length ca, .slice tva6 st.I.length tvc6, .slice ra6 es.length rac6] rfl rfl 39 #[.slice a0 st.L.length k0, .slice a1 S.length k1, .slice a2 st.I.length k2, .slice a3 st.O.length k3, .int .i64 st.D, .slice aa A.length ca, .slice tva6 st.I.length tvc6, .slice ra6 es.length rac6] (HPS.out w8 HB8.out _).1 (by kernel_rfl) rfl box8_one ?_)
                        | (refine wpList_store_row rfl 39 (.tmp 16) (.tmp 98) rfl _ #[.slice a0 st.L.length k0, .slice a1 S.length k1, .slice a2 st.I.length k2, .slice a3 st.O.length k3, .int .i64 st.D, .slice aa A.length ca, .slice tva6 st.I.length tvc6, .slice ra6 es.length rac6] rfl rfl 39 #[.slice none 0 0, .slice none 0 0, .slice none 0 0, .slice none 0 0, .int .i64 0, .slice none 0 0, .slice none 0 0, .slice none 0 0] (heap_alloc_new _ _) (by kernel_rfl) rfl box8_one ?_; rw [setRow_new6]))
                      go_wp2_with fail
                      go_roundw
                      case rel => exact ⟨i + 1, by omega, by go_num, (HPS.out w8 HB8.out _).2.1, (HPS.out w8 HB8.out _).2.2⟩
                      case measure => simp [intOf]; omega
                    · have HC2 := Lib.hid c2
                      clear c1 c2
                      obtain ⟨z, hz⟩ : ∃ z, z = (rowAt A x.i.toNat)[(tkAt tk x.i.toNat).toNat]?.getD 0 := ⟨_, rfl⟩
                      have HZ := Lib.hid hz
                      clear hz
                      go_wp2_with fail
                      refine (take_any x.i wq HBXQ.out HTBQ.out HI32.out).mono ?_
                      intro e w7 hte
                      obtain ⟨rfl, hg7, hs7, hb7, vs7, ht7⟩ := play_in hte HTL.out HTK.out HC1.out (by have := HC2.out; omega) HZ.out
                      obtain ⟨hrk7, hv7, hr7, hx7, hw7⟩ := play_grown hg7 HTBQ.out HRQ.out HVQ.out HRVQ.out HXQ.out HB7.out rfl
                      have HW7 := Lib.hid hw7
                      have HPS := Lib.hid (fun (tb cap : Nat) (w8 : World) (hb : Below w7.heap.size w7 w8) (htv : w8.ownsRow w7.heap.size 3 1 (.slice (some ⟨tb, 0, none⟩) st.I.length cap) st.I.length (intsV (tk.set x.i.toNat (tkAt tk x.i.toNat + 1)))) (o : Obj) => play_store (a0 := a0) (a1 := a1) (a2 := a2) (a3 := a3) (aa := aa) (k0 := k0) (k1 := k1) (k2 := k2) (k3 := k3) (ca := ca) (S := S) (i := i + 1) hb hrk7 hb7 ht7 hv7 (own_lower HW7.out.size htv) (by rw [List.length_set]; exact HTL.out) (tk_ok HTK.out (by have := HTL.out; have := HC1.out; omega) (by have := HC2.out; omega)) (own_of_block hr7 (fun k e => hb.block _ (hr7.lt k e).2)) HAP.out (show es.length ≤ i + 1 by omega) hw7 HK4.out o)
                      have HTQ7 := Lib.hid (show w7.ownsRow W0.heap.size 3 1 (.slice tva6 st.I.length tvc6) st.I.length (intsV tk) from own_of_block HTQ.out (fun k e => hg7.block k (HTQ.out.lt k e).2 (fun e' => by
                        obtain ⟨c', h1, _⟩ := HTBQ.out.tab
                        exact own_other HTQ.out h1 (by decide) (by rw [e, e']))))
                      obtain ⟨_, y0, y1, y2, y3, y4, y5, y6, y7, y8⟩ := left26 hrk7 hx7 (Below.refl _ _)
                      clear hte hg7 hs7 hb7 ht7 hrk7 hv7 hr7 hx7 hw7
                      go_wp2_with fail
                      refine (rtake_n x.i w7 HTL.out ((HA0.out.below HW7.out).mono HW7.out.size) HXA.out HTQ7.out HI32.out HTK.out HRT.out).mono ?_
                      rintro e w8 ⟨hb, h⟩
                      obtain ⟨tb, cap, rfl, htv⟩ := h.2.2 HC1.out (by have := HC2.out; omega)
                      rw [← HZ.out]
                      have HB8 := Lib.hid hb
                      have HTV8 := Lib.hid htv
                      clear h hb htv
                      go_wp2_with (first
                        | (refine wpList_store_row rfl 39 (.tmp 10) (.tmp 101) rfl _ #[.slice a0 st.L.length k0, .slice a1 S.length k1, .slice a2 st.I.length k2, .slice a3 st.O.length k3, .int .i64 st.D, .slice aa A.length ca, .slice (some ⟨tb, 0, none⟩) st.I.length cap, .slice ra6 es.length rac6] rfl rfl 39 #[.slice a0 st.L.length k0, .slice a1 S.length k1, .slice a2 st.I.length k2, .slice a3 st.O.length k3, .int .i64 st.D, .slice aa A.length ca, .slice tva6 st.I.length tvc6, .slice ra6 es.length rac6] (HPS.out tb cap w8 HB8.out HTV8.out _).1 (by kernel_rfl) rfl box8_one ?_)
                        | (refine wpList_store_row rfl 39 (.tmp 16) (.tmp 98) rfl _ #[.slice a0 st.L.length k0, .slice a1 S.length k1, .slice a2 st.I.length k2, .slice a3 st.O.length k3, .int .i64 st.D, .slice aa A.length ca, .slice (some ⟨tb, 0, none⟩) st.I.length cap, .slice ra6 es.length rac6] rfl rfl 39 #[.slice none 0 0, .slice none 0 0, .slice none 0 0, .slice none 0 0, .int .i64 0, .slice none 0 0, .slice none 0 0, .slice none 0 0] (heap_alloc_new _ _) (by kernel_rfl) rfl box8_one ?_; rw [setRow_new6]))
                      go_wp2_with fail
                      go_roundw
                      case rel => exact ⟨i + 1, by omega, by go_num, (HPS.out tb cap w8 HB8.out HTV8.out _).2.1, (HPS.out tb cap w8 HB8.out HTV8.out _).2.2⟩
                      case measure => simp [intOf]; omega
                  · have HC1 := Lib.hid c1
                    clear c1
                    have HPS := Lib.hid (fun (w8 : World) (hb : Below wq.heap.size wq w8) (o : Obj) => play_store (a0 := a0) (a1 := a1) (a2 := a2) (a3 := a3) (aa := aa) (k0 := k0) (k1 := k1) (k2 := k2) (k3 := k3) (ca := ca) (S := S) (i := i + 1) hb HRQ.out HBXQ.out HTBQ.out HVQ.out (own_of_block HTQ.out (fun k e => hb.block _ (HTQ.out.lt k e).2)) HTL.out HTK.out (own_of_block HRVQ.out (fun k e => hb.block _ (HRVQ.out.lt k e).2)) HAP.out (show es.length ≤ i + 1 by omega) HB7.out HK4.out o)
                    go_wp2_with fail
                    refine (take_any x.i wq HBXQ.out HTBQ.out HI32.out).mono ?_
                    intro e w7 hte
                    obtain ⟨rfl, hw7⟩ := take_out hte HC1.out
                    have hw7' := hw7.symm
                    clear hw7 hte
                    subst hw7'
                    go_wp2_with fail
                    refine (rtake_n x.i wq HTL.out ((HA0.out.below HB7.out).mono HB7.out.size) HXA.out HTQ.out HI32.out HTK.out HRT.out).mono ?_
                    rintro e w8 ⟨hb, h⟩
                    obtain rfl := h.1 HC1.out
                    have HB8 := Lib.hid hb
                    clear h hb
                    go_wp2_with (first
                      | (refine wpList_store_row rfl 39 (.tmp 10) (.tmp 101) rfl _ #[.slice a0 st.L.length k0, .slice a1 S.length k1, .slice a2 st.I.length k2, .slice a3 st.O.length k3, .int .i64 st.D, .slice aa A.length ca, .slice tva6 st.I.length tvc6, .slice ra6 es.length rac6] rfl rfl 39 #[.slice a0 st.L.length k0, .slice a1 S.length k1, .slice a2 st.I.length k2, .slice a3 st.O.length k3, .int .i64 st.D, .slice aa A.length ca, .slice tva6 st.I.length tvc6, .slice ra6 es.length rac6] (HPS.out w8 HB8.out _).1 (by kernel_rfl) rfl box8_one ?_)
                      | (refine wpList_store_row rfl 39 (.tmp 16) (.tmp 98) rfl _ #[.slice a0 st.L.length k0, .slice a1 S.length k1, .slice a2 st.I.length k2, .slice a3 st.O.length k3, .int .i64 st.D, .slice aa A.length ca, .slice tva6 st.I.length tvc6, .slice ra6 es.length rac6] rfl rfl 39 #[.slice none 0 0, .slice none 0 0, .slice none 0 0, .slice none 0 0, .int .i64 0, .slice none 0 0, .slice none 0 0, .slice none 0 0] (heap_alloc_new _ _) (by kernel_rfl) rfl box8_one ?_; rw [setRow_new6]))
                    go_wp2_with fail
                    go_roundw
                    case rel => exact ⟨i + 1, by omega, by go_num, (HPS.out w8 HB8.out _).2.1, (HPS.out w8 HB8.out _).2.2⟩
                    case measure => simp [intOf]; omega
                · go_upto_region 26 with fail
                  refine wp_region_held_drew (S := (fun V => Below wq.heap.size wq V ∧ V.cell? ⟨w4.heap.size, 0, none⟩ = some (.slice a0 st.L.length k0) ∧ V.cell? ⟨w4.heap.size, 1, none⟩ = some (.slice a1 S.length k1) ∧ V.cell? ⟨w4.heap.size, 2, none⟩ = some (.slice a2 st.I.length k2) ∧ V.cell? ⟨w4.heap.size, 3, none⟩ = some (.slice a3 st.O.length k3) ∧ V.cell? ⟨w4.heap.size, 4, none⟩ = some (.int .i64 st.D) ∧ V.cell? ⟨w4.heap.size, 5, none⟩ = some (.slice aa A.length ca) ∧ V.cell? ⟨w4.heap.size, 6, none⟩ = some (tv) ∧ V.cell? ⟨w4.heap.size, 7, none⟩ = some (rv) ∧ V.cell? ⟨w6.heap.size, 1, none⟩ = some (.int .i64 x.i))) (by kernel_rfl) ?_ (fun hHeld => ?_)
                  · first | exact left26 HRQ.out HXQ.out (Below.refl _ _) | exact left26 HRQ.out HXQ.out (Below.refl _ _).drew
                  refine wpAnyH_take (i := 0) (v := .pointer (some ⟨kb, 0, none⟩)) rfl (by kernel_rfl) (by kernel_rfl) (by kernel_rfl) (fun _ _ _ h => h) (Or.inl ⟨by rfl, fun W hSW => ?_⟩) hHeld ?_
                  · ((try dsimp only at hSW); go_split_ands; go_simp <;> with_reducible rfl)
                  try simp only [List.getElem_toArray, List.getElem_cons_succ, List.getElem_cons_zero, Act.put, List.setIfInBounds_toArray, List.set_cons_zero, List.set_cons_succ]
                  refine wpAnyH_take (i := 1) (v := .pointer (some ⟨w6.heap.size, 1, none⟩)) rfl (by kernel_rfl) (by kernel_rfl) (by kernel_rfl) (fun _ _ _ h => h) (Or.inl ⟨by rfl, fun W hSW => ?_⟩) hHeld ?_
                  · ((try dsimp only at hSW); go_split_ands; go_simp <;> with_reducible rfl)
                  try simp only [List.getElem_toArray, List.getElem_cons_succ, List.getElem_cons_zero, Act.put, List.setIfInBounds_toArray, List.set_cons_zero, List.set_cons_succ]
                  refine wpAnyH_take (i := 2) (v := .int .i64 x.i) rfl (by kernel_rfl) (by kernel_rfl) (by kernel_rfl) (fun _ _ _ h => h) (Or.inl ⟨by rfl, fun W hSW => ?_⟩) hHeld ?_
                  · ((try dsimp only at hSW); go_split_ands; go_simp <;> with_reducible rfl)
                  try simp only [List.getElem_toArray, List.getElem_cons_succ, List.getElem_cons_zero, Act.put, List.setIfInBounds_toArray, List.set_cons_zero, List.set_cons_succ]
                  refine wpAnyH_take (i := 4) (v := .agg #[.slice a0 st.L.length k0, .slice a1 S.length k1, .slice a2 st.I.length k2, .slice a3 st.O.length k3, .int .i64 st.D, .slice aa A.length ca, tv, rv]) rfl (by kernel_rfl) (by kernel_rfl) (by kernel_rfl) (fun _ _ _ h => h) (Or.inl ⟨by rfl, fun W hSW => ?_⟩) hHeld ?_
                  · ((try dsimp only at hSW); go_split_ands; go_simp <;> with_reducible rfl)
                  try simp only [List.getElem_toArray, List.getElem_cons_succ, List.getElem_cons_zero, Act.put, List.setIfInBounds_toArray, List.set_cons_zero, List.set_cons_succ]
                  refine wpAnyH_take (i := 5) (v := .pointer (some ⟨w6.heap.size, 1, none⟩)) rfl (by kernel_rfl) (by kernel_rfl) (by kernel_rfl) (fun _ _ _ h => h) (Or.inl ⟨by rfl, fun W hSW => ?_⟩) hHeld ?_
                  · ((try dsimp only at hSW); go_split_ands; go_simp <;> with_reducible rfl)
                  try simp only [List.getElem_toArray, List.getElem_cons_succ, List.getElem_cons_zero, Act.put, List.setIfInBounds_toArray, List.set_cons_zero, List.set_cons_succ]
                  refine wpAnyH_take (i := 6) (v := .int .i64 x.i) rfl (by kernel_rfl) (by kernel_rfl) (by kernel_rfl) (fun _ _ _ h => h) (Or.inl ⟨by rfl, fun W hSW => ?_⟩) hHeld ?_
                  · ((try dsimp only at hSW); go_split_ands; go_simp <;> with_reducible rfl)
                  try simp only [List.getElem_toArray, List.getElem_cons_succ, List.getElem_cons_zero, Act.put, List.setIfInBounds_toArray, List.set_cons_zero, List.set_cons_succ]
                  obtain ⟨z, hz⟩ : ∃ z, z = leftT A tk x.i := ⟨_, rfl⟩
                  have HZ := Lib.hid hz
                  have HLS := Lib.hid (left_same HTL.out HTK.out x.i)
                  clear hz
                  refine wpAnyH_ready (rs := [3]) (by kernel_rfl) (by simp) ?_
                  refine AllReadyH.cons rfl (fun K hK => ?_) AllReadyH.nil
                  try simp only [List.getElem_toArray, List.getElem_cons_succ, List.getElem_cons_zero]
                  go_simp
                  (refine (left_any x.i _ ((hHeld.1.block _ HBXQ.out.lt).trans HBXQ.out) (HTBQ.out.on hHeld.1) HI32.out).mono ?_; rintro e w7 ⟨rfl, rfl⟩; rw [HLS.out, ← HZ.out])
                  try go_wp2_with fail
                  refine hK.out _ _ ?_ (fun hHeld => ?_)
                  · exact left26 HRQ.out HXQ.out hHeld.1
                  clear hK K
                  try simp only [List.getElem_toArray, List.getElem_cons_succ, List.getElem_cons_zero, Act.put, List.setIfInBounds_toArray, List.set_cons_zero, List.set_cons_succ]
                  refine wpAnyH_ready (rs := [7]) (by kernel_rfl) (by simp) ?_
                  refine AllReadyH.cons rfl (fun K hK => ?_) AllReadyH.nil
                  try simp only [List.getElem_toArray, List.getElem_cons_succ, List.getElem_cons_zero]
                  go_simp
                  (go_at_call 12; refine (rleft_any _ _ _ _ _ _ _ _ A tk x.i _ ((HA0.out.below (HB7.out.trans (hHeld.1.mono HB7.out.size))).mono (HB7.out.trans (hHeld.1.mono HB7.out.size)).size) HXA.out (cells_of_row (own_of_block HTQ.out (fun k hk => hHeld.1.block _ (HTQ.out.lt k hk).2))) HTK.out HRS.out).mono ?_; rintro e w8 ⟨rfl, hb⟩; rw [← HZ.out])
                  try go_wp2_with fail
                  refine hK.out _ _ ?_ (fun hHeld => ?_)
                  · exact left26 HRQ.out HXQ.out (hHeld.1.trans (hb.mono hHeld.1.size))
                  clear hK K
                  try simp only [List.getElem_toArray, List.getElem_cons_succ, List.getElem_cons_zero, Act.put, List.setIfInBounds_toArray, List.set_cons_zero, List.set_cons_succ]
                  refine wpAnyH_take (i := 8) (v := .bool false) rfl (by kernel_rfl) (by kernel_rfl) (by kernel_rfl) (fun _ _ _ h => h) (Or.inl ⟨by rfl, fun W hSW => ?_⟩) hHeld ?_
                  · ((try dsimp only at hSW); go_split_ands; go_simp <;> with_reducible rfl)
                  try simp only [List.getElem_toArray, List.getElem_cons_succ, List.getElem_cons_zero, Act.put, List.setIfInBounds_toArray, List.set_cons_zero, List.set_cons_succ]
                  refine wpAnyH_done (by kernel_rfl) ?_ _
                  have HBZ := Lib.hid hHeld.1
                  clear hHeld
                  go_wp2_with fail
                  go_roundw
                  case rel => exact ⟨i + 1, by omega, by go_num, play_on HBZ.out (play_of HBXQ.out HTBQ.out HVQ.out HRQ.out HTQ.out HTL.out HTK.out HRVQ.out HAP.out (show es.length ≤ i + 1 by omega)), HB7.out.trans (HBZ.out.mono HB7.out.size)⟩
                  case measure => simp [intOf]; omega
                · obtain ⟨tva6, tvc6, rfl⟩ := QQ.ownOf HTQ.out
                  obtain ⟨ra6, rac6, rfl⟩ := QQ.ownOf HRVQ.out
                  obtain ⟨_, y0, y1, y2, y3, y4, y5, y6, y7, y8⟩ := left26 HRQ.out HXQ.out (Below.refl _ _)
                  obtain ⟨u2, u3, u4, u5, u6⟩ := op_cells HXQ.out
                  cases hal : allowB st.O.length st.L.length x.e.k x.e.r x.e.f x.e.a
                  · have HAL := Lib.hid hal
                    clear hal
                    have HPS := Lib.hid (fun (w8 : World) (hb : Below wq.heap.size wq w8) (o : Obj) => play_store (a0 := a0) (a1 := a1) (a2 := a2) (a3 := a3) (aa := aa) (k0 := k0) (k1 := k1) (k2 := k2) (k3 := k3) (ca := ca) (S := S) (i := i + 1) hb HRQ.out HBXQ.out HTBQ.out HVQ.out (own_of_block HTQ.out (fun k e => hb.block _ (HTQ.out.lt k e).2)) HTL.out HTK.out (own_of_block HRVQ.out (fun k e => hb.block _ (HRVQ.out.lt k e).2)) HAP.out (show es.length ≤ i + 1 by omega) HB7.out HK4.out o)
                    go_wp2_with fail
                    refine (qput_any x.e wq HBXQ.out HTBQ.out HVQ.out hes HKB.out).mono ?_
                    intro e w7 hp
                    unfold PutE at hp
                    rw [HAL.out, if_neg Bool.false_ne_true] at hp
                    obtain ⟨rfl, hb7⟩ := hp
                    have HQ7 := Lib.hid hb7
                    clear hb7 y0 y1 y2 y3 y4 y5 y6 y7 y8 u2 u3 u4 u5 u6
                    obtain ⟨_, y0, y1, y2, y3, y4, y5, y6, y7, y8⟩ := left26 HRQ.out HXQ.out HQ7.out
                    obtain ⟨u2, u3, u4, u5, u6⟩ := op_cells ((HQ7.out.block _ (heap_some_lt HXQ.out)).trans HXQ.out)
                    go_wp2_with fail
                    refine (rput_any _ _ _ _ _ _ _ _ _ _ _ _ _ _ _ _ _ _ _ _ _ es x.e w7 (ev_of_row (own_of_block HRVQ.out (fun k e => HQ7.out.block _ (HRVQ.out.lt k e).2))) hes).mono ?_
                    rintro e w8 ⟨hb, h⟩
                    rw [HAL.out, if_neg Bool.false_ne_true] at h
                    subst h
                    have HB8 := Lib.hid (HQ7.out.trans (hb.mono HQ7.out.size))
                    clear hb
                    go_wp2_with (first
                      | (refine wpList_store_row rfl 39 (.tmp 10) (.tmp 134) rfl _ #[.slice a0 st.L.length k0, .slice a1 S.length k1, .slice a2 st.I.length k2, .slice a3 st.O.length k3, .int .i64 st.D, .slice aa A.length ca, .slice tva6 st.I.length tvc6, .slice ra6 es.length rac6] rfl rfl 39 #[.slice a0 st.L.length k0, .slice a1 S.length k1, .slice a2 st.I.length k2, .slice a3 st.O.length k3, .int .i64 st.D, .slice aa A.length ca, .slice tva6 st.I.length tvc6, .slice ra6 es.length rac6] (HPS.out w8 HB8.out _).1 (by kernel_rfl) rfl box8_one ?_)
                      | (refine wpList_store_row rfl 39 (.tmp 20) (.tmp 132) rfl _ #[.slice a0 st.L.length k0, .slice a1 S.length k1, .slice a2 st.I.length k2, .slice a3 st.O.length k3, .int .i64 st.D, .slice aa A.length ca, .slice tva6 st.I.length tvc6, .slice ra6 es.length rac6] rfl rfl 39 #[.slice none 0 0, .slice none 0 0, .slice none 0 0, .slice none 0 0, .int .i64 0, .slice none 0 0, .slice none 0 0, .slice none 0 0] (heap_alloc_new _ _) (by kernel_rfl) rfl box8_one ?_; rw [setRow_new6]))
                    go_wp2_with fail
                    go_roundw
                    case rel => exact ⟨i + 1, by omega, by go_num, (HPS.out w8 HB8.out _).2.1, (HPS.out w8 HB8.out _).2.2⟩
                    case measure => simp [intOf]; omega
                  · have HAL := Lib.hid hal
                    clear hal
                    go_wp2_with fail
                    refine (qput_any x.e wq HBXQ.out HTBQ.out HVQ.out hes HKB.out).mono ?_
                    intro e w7 hp
                    unfold PutE at hp
                    rw [HAL.out, if_pos rfl] at hp
                    obtain ⟨rfl, hg7, ve7, hb7, hv7, ⟨vs7, ht7⟩, hl7⟩ := hp
                    obtain ⟨hrk7, hr7, htv7, hx7, hw7⟩ := play_put2 hg7 HBXQ.out HRQ.out HVQ.out HRVQ.out HTQ.out HXQ.out HAP.out HB7.out rfl HKB.out
                    have HR7 := Lib.hid hr7
                    have HPS := Lib.hid (fun (rb8 cap8 : Nat) (w8 : World) (hb : Below w7.heap.size w7 w8) (hrv : w8.ownsRow w7.heap.size 44 5 (.slice (some ⟨rb8, 0, none⟩) (es.length + 1) cap8) (es.length + 1) (evCells (es ++ [x.e]))) (o : Obj) => play_store (a0 := a0) (a1 := a1) (a2 := a2) (a3 := a3) (aa := aa) (k0 := k0) (k1 := k1) (k2 := k2) (k3 := k3) (ca := ca) (S := S) (i := i + 1) hb hrk7 hb7 ht7 hv7 (own_of_block htv7 (fun k e => hb.block _ (htv7.lt k e).2)) HTL.out HTK.out (show w8.ownsRow W0.heap.size 44 5 (.slice (some ⟨rb8, 0, none⟩) (es.length + 1) cap8) (es ++ [x.e]).length (evCells (es ++ [x.e])) by rw [List.length_append]; exact own_lower hw7.size hrv) (play_apart hv7 hrv) (show (es ++ [x.e]).length ≤ i + 1 by rw [List.length_append]; show es.length + 1 ≤ i + 1; omega) hw7 HK4.out o)
                    clear y0 y1 y2 y3 y4 y5 y6 y7 y8 u2 u3 u4 u5 u6
                    obtain ⟨_, y0, y1, y2, y3, y4, y5, y6, y7, y8⟩ := left26 hrk7 hx7 (Below.refl _ _)
                    obtain ⟨u2, u3, u4, u5, u6⟩ := op_cells hx7
                    clear hg7 hb7 hv7 ht7 hl7 hrk7 hr7 htv7 hx7 hw7
                    go_wp2_with fail
                    refine (rput_any _ _ _ _ _ _ _ _ _ _ _ _ _ _ _ _ _ _ _ _ _ es x.e w7 (ev_of_row HR7.out) hes).mono ?_
                    rintro e w8 ⟨hb, h⟩
                    rw [HAL.out, if_pos rfl] at h
                    obtain ⟨rb8, cap8, rfl, hrv⟩ := h
                    have HB8 := Lib.hid hb
                    have HRV8 := Lib.hid hrv
                    clear hb hrv
                    go_wp2_with (first
                      | (refine wpList_store_row rfl 39 (.tmp 10) (.tmp 134) rfl _ #[.slice a0 st.L.length k0, .slice a1 S.length k1, .slice a2 st.I.length k2, .slice a3 st.O.length k3, .int .i64 st.D, .slice aa A.length ca, .slice tva6 st.I.length tvc6, .slice (some ⟨rb8, 0, none⟩) (es.length + 1) cap8] rfl rfl 39 #[.slice a0 st.L.length k0, .slice a1 S.length k1, .slice a2 st.I.length k2, .slice a3 st.O.length k3, .int .i64 st.D, .slice aa A.length ca, .slice tva6 st.I.length tvc6, .slice ra6 es.length rac6] (HPS.out rb8 cap8 w8 HB8.out HRV8.out _).1 (by kernel_rfl) rfl box8_one ?_)
                      | (refine wpList_store_row rfl 39 (.tmp 20) (.tmp 132) rfl _ #[.slice a0 st.L.length k0, .slice a1 S.length k1, .slice a2 st.I.length k2, .slice a3 st.O.length k3, .int .i64 st.D, .slice aa A.length ca, .slice tva6 st.I.length tvc6, .slice (some ⟨rb8, 0, none⟩) (es.length + 1) cap8] rfl rfl 39 #[.slice none 0 0, .slice none 0 0, .slice none 0 0, .slice none 0 0, .int .i64 0, .slice none 0 0, .slice none 0 0, .slice none 0 0] (heap_alloc_new _ _) (by kernel_rfl) rfl box8_one ?_; rw [setRow_new6]))
                    go_wp2_with fail
                    go_roundw
                    case rel => exact ⟨i + 1, by omega, by go_num, (HPS.out rb8 cap8 w8 HB8.out HRV8.out _).2.1, (HPS.out rb8 cap8 w8 HB8.out HRV8.out _).2.2⟩
                    case measure => simp [intOf]; omega
                · go_upto_region 35 with fail
                  refine wp_region_held_drew (S := (fun V => Below wq.heap.size wq V ∧ V.cell? ⟨w4.heap.size, 7, none⟩ = some rv)) (by kernel_rfl) ?_ (fun hHeld => ?_)
                  · first | exact fin_held HRQ.out (Below.refl _ _) | exact fin_held HRQ.out (Below.refl _ _).drew
                  refine wpAnyH_take (i := 0) (v := .pointer (some ⟨kb, 0, none⟩)) rfl (by kernel_rfl) (by kernel_rfl) (by kernel_rfl) (fun _ _ _ h => h) (Or.inl ⟨by rfl, fun W hSW => ?_⟩) hHeld ?_
                  · ((try dsimp only at hSW); go_split_ands; go_simp <;> with_reducible rfl)
                  try simp only [List.getElem_toArray, List.getElem_cons_succ, List.getElem_cons_zero, Act.put, List.setIfInBounds_toArray, List.set_cons_zero, List.set_cons_succ]
                  refine wpAnyH_take (i := 2) (v := .pointer (some ⟨w4.heap.size, 7, none⟩)) rfl (by kernel_rfl) (by kernel_rfl) (by kernel_rfl) (fun _ _ _ h => h) (Or.inl ⟨by rfl, fun W hSW => ?_⟩) hHeld ?_
                  · ((try dsimp only at hSW); go_split_ands; go_simp <;> with_reducible rfl)
                  try simp only [List.getElem_toArray, List.getElem_cons_succ, List.getElem_cons_zero, Act.put, List.setIfInBounds_toArray, List.set_cons_zero, List.set_cons_succ]
                  refine wpAnyH_take (i := 3) (v := rv) rfl (by kernel_rfl) (by kernel_rfl) (by kernel_rfl) (fun _ _ _ h => h) (Or.inl ⟨by rfl, fun W hSW => ?_⟩) hHeld ?_
                  · ((try dsimp only at hSW); go_split_ands; go_simp <;> with_reducible rfl)
                  try simp only [List.getElem_toArray, List.getElem_cons_succ, List.getElem_cons_zero, Act.put, List.setIfInBounds_toArray, List.set_cons_zero, List.set_cons_succ]
                  refine wpAnyH_ready (rs := [1]) (by kernel_rfl) (by simp) ?_
                  refine AllReadyH.cons rfl (fun K hK => ?_) AllReadyH.nil
                  try simp only [List.getElem_toArray, List.getElem_cons_succ, List.getElem_cons_zero]
                  go_simp
                  (refine (qtrace_any (es := es) _ ((hHeld.1.block _ HBXQ.out.lt).trans HBXQ.out) (own_of_block HVQ.out (fun k hk => hHeld.1.block _ (HVQ.out.lt k hk).2)) hes).mono ?_; rintro e w7 ⟨⟨v7, rfl, h7⟩, hb⟩)
                  try go_wp2_with fail
                  refine hK.out _ _ ?_ (fun hHeld => ?_)
                  · exact fin_held HRQ.out (hHeld.1.trans (hb.mono hHeld.1.size))
                  clear hK K
                  try simp only [List.getElem_toArray, List.getElem_cons_succ, List.getElem_cons_zero, Act.put, List.setIfInBounds_toArray, List.set_cons_zero, List.set_cons_succ]
                  have HEV := Lib.hid h7
                  clear hb h7
                  refine wpAnyH_ready (rs := [4]) (by kernel_rfl) (by simp) ?_
                  refine AllReadyH.cons rfl (fun K hK => ?_) AllReadyH.nil
                  try simp only [List.getElem_toArray, List.getElem_cons_succ, List.getElem_cons_zero]
                  go_simp
                  (go_at_call 15; refine (events_same _ _ es w7.heap.size w7 HEV.out (ev_of_row (own_of_block HRVQ.out (fun k hk => hHeld.1.block _ (HRVQ.out.lt k hk).2))) (by omega)).mono ?_; rintro e w8 ⟨rfl, d, rfl⟩)
                  try go_wp2_with fail
                  refine hK.out _ _ ?_ (fun hHeld => ?_)
                  · exact fin_held HRQ.out (QQ.dN hHeld.1 d)
                  clear hK K
                  try simp only [List.getElem_toArray, List.getElem_cons_succ, List.getElem_cons_zero, Act.put, List.setIfInBounds_toArray, List.set_cons_zero, List.set_cons_succ]
                  refine wpAnyH_take (i := 5) (v := .bool false) rfl (by kernel_rfl) (by kernel_rfl) (by kernel_rfl) (fun _ _ _ h => h) (Or.inl ⟨by rfl, fun W hSW => ?_⟩) hHeld ?_
                  · ((try dsimp only at hSW); go_split_ands; go_simp <;> with_reducible rfl)
                  try simp only [List.getElem_toArray, List.getElem_cons_succ, List.getElem_cons_zero, Act.put, List.setIfInBounds_toArray, List.set_cons_zero, List.set_cons_succ]
                  refine wpAnyH_done (by kernel_rfl) ?_ _
                  have HBZ := Lib.hid hHeld.1
                  clear hHeld
                  go_wp2_with fail
                  go_roundw
                  case rel => exact ⟨i + 1, by omega, by go_num, play_on HBZ.out (play_of HBXQ.out HTBQ.out HVQ.out HRQ.out HTQ.out HTL.out HTK.out HRVQ.out HAP.out (show es.length ≤ i + 1 by omega)), HB7.out.trans (HBZ.out.mono HB7.out.size)⟩
                  case measure => simp [intOf]; omega
              · have j1 : decide ((i : Int) < (os.length : Int)) = false := decide_eq_false (by omega)
                have j2 : decide (i < os.length) = false := decide_eq_false hlt
                clear hlt
                go_upto_region 37 with fail
                refine wp_region_held_drew (S := (fun V => Below w6.heap.size w6 V ∧ V.cell? ⟨w4.heap.size, 7, none⟩ = some rv)) (by kernel_rfl) ?_ (fun hHeld => ?_)
                · first | exact fin_held HRK.out (Below.refl _ _) | exact fin_held HRK.out (Below.refl _ _).drew
                refine wpAnyH_take (i := 0) (v := .pointer (some ⟨kb, 0, none⟩)) rfl (by kernel_rfl) (by kernel_rfl) (by kernel_rfl) (fun _ _ _ h => h) (Or.inl ⟨by rfl, fun W hSW => ?_⟩) hHeld ?_
                · ((try dsimp only at hSW); go_split_ands; go_simp <;> with_reducible rfl)
                try simp only [List.getElem_toArray, List.getElem_cons_succ, List.getElem_cons_zero, Act.put, List.setIfInBounds_toArray, List.set_cons_zero, List.set_cons_succ]
                refine wpAnyH_take (i := 2) (v := .pointer (some ⟨w4.heap.size, 7, none⟩)) rfl (by kernel_rfl) (by kernel_rfl) (by kernel_rfl) (fun _ _ _ h => h) (Or.inl ⟨by rfl, fun W hSW => ?_⟩) hHeld ?_
                · ((try dsimp only at hSW); go_split_ands; go_simp <;> with_reducible rfl)
                try simp only [List.getElem_toArray, List.getElem_cons_succ, List.getElem_cons_zero, Act.put, List.setIfInBounds_toArray, List.set_cons_zero, List.set_cons_succ]
                refine wpAnyH_take (i := 3) (v := rv) rfl (by kernel_rfl) (by kernel_rfl) (by kernel_rfl) (fun _ _ _ h => h) (Or.inl ⟨by rfl, fun W hSW => ?_⟩) hHeld ?_
                · ((try dsimp only at hSW); go_split_ands; go_simp <;> with_reducible rfl)
                try simp only [List.getElem_toArray, List.getElem_cons_succ, List.getElem_cons_zero, Act.put, List.setIfInBounds_toArray, List.set_cons_zero, List.set_cons_succ]
                refine wpAnyH_ready (rs := [1]) (by kernel_rfl) (by simp) ?_
                refine AllReadyH.cons rfl (fun K hK => ?_) AllReadyH.nil
                try simp only [List.getElem_toArray, List.getElem_cons_succ, List.getElem_cons_zero]
                go_simp
                (refine (qtrace_any (es := es) _ ((hHeld.1.block _ HBX6.out.lt).trans HBX6.out) (own_of_block HVE.out (fun k hk => hHeld.1.block _ (HVE.out.lt k hk).2)) hes).mono ?_; rintro e w7 ⟨⟨v7, rfl, h7⟩, hb⟩)
                try go_wp2_with fail
                refine hK.out _ _ ?_ (fun hHeld => ?_)
                · exact fin_held HRK.out (hHeld.1.trans (hb.mono hHeld.1.size))
                clear hK K
                try simp only [List.getElem_toArray, List.getElem_cons_succ, List.getElem_cons_zero, Act.put, List.setIfInBounds_toArray, List.set_cons_zero, List.set_cons_succ]
                have HB7 := Lib.hid (HB6.out.trans (hHeld.1.mono HB6.out.size))
                have HEV := Lib.hid h7
                clear hb h7
                refine wpAnyH_ready (rs := [4]) (by kernel_rfl) (by simp) ?_
                refine AllReadyH.cons rfl (fun K hK => ?_) AllReadyH.nil
                try simp only [List.getElem_toArray, List.getElem_cons_succ, List.getElem_cons_zero]
                go_simp
                (go_at_call 15; refine (events_same _ _ es w7.heap.size w7 HEV.out (ev_of_row (own_of_block HRV.out (fun k hk => hHeld.1.block _ (HRV.out.lt k hk).2))) (by omega)).mono ?_; rintro e w8 ⟨rfl, d, rfl⟩)
                try go_wp2_with fail
                refine hK.out _ _ ?_ (fun hHeld => ?_)
                · exact fin_held HRK.out (QQ.dN hHeld.1 d)
                clear hK K
                try simp only [List.getElem_toArray, List.getElem_cons_succ, List.getElem_cons_zero, Act.put, List.setIfInBounds_toArray, List.set_cons_zero, List.set_cons_succ]
                refine wpAnyH_take (i := 5) (v := .bool true) rfl (by kernel_rfl) (by kernel_rfl) (by kernel_rfl) (fun _ _ _ h => h) (Or.inl ⟨by rfl, fun W hSW => ?_⟩) hHeld ?_
                · ((try dsimp only at hSW); go_split_ands; go_simp <;> with_reducible rfl)
                try simp only [List.getElem_toArray, List.getElem_cons_succ, List.getElem_cons_zero, Act.put, List.setIfInBounds_toArray, List.set_cons_zero, List.set_cons_succ]
                refine wpAnyH_ready (rs := [6]) (by kernel_rfl) (by simp) ?_
                refine AllReadyH.cons rfl (fun K hK => ?_) AllReadyH.nil
                try simp only [List.getElem_toArray, List.getElem_cons_succ, List.getElem_cons_zero]
                go_simp
                (go_at_call 8; refine (HAW.out _ (QQ.dN HB7.out d)).mono ?_; rintro e w9 ⟨rfl, hb⟩; have hb17 := QQ.step (QQ.step HB0.out (QQ.dN HB7.out d)) hb)
                try go_wp2_with fail
                refine hK.out _ _ ?_ (fun hHeld => ?_)
                · exact fin_held HRK.out (hHeld.1.trans (hb.mono hHeld.1.size))
                clear hK K
                try simp only [List.getElem_toArray, List.getElem_cons_succ, List.getElem_cons_zero, Act.put, List.setIfInBounds_toArray, List.set_cons_zero, List.set_cons_succ]
                refine wpAnyH_take (i := 7) (v := .bool true) rfl (by kernel_rfl) (by kernel_rfl) (by kernel_rfl) (fun _ _ _ h => h) (Or.inl ⟨by rfl, fun W hSW => ?_⟩) hHeld ?_
                · ((try dsimp only at hSW); go_split_ands; go_simp <;> with_reducible rfl)
                try simp only [List.getElem_toArray, List.getElem_cons_succ, List.getElem_cons_zero, Act.put, List.setIfInBounds_toArray, List.set_cons_zero, List.set_cons_succ]
                refine wpAnyH_take (i := 8) (v := .bool true) rfl (by kernel_rfl) (by kernel_rfl) (by kernel_rfl) (fun _ _ _ h => h) (Or.inl ⟨by rfl, fun W hSW => ?_⟩) hHeld ?_
                · ((try dsimp only at hSW); go_split_ands; go_simp <;> with_reducible rfl)
                try simp only [List.getElem_toArray, List.getElem_cons_succ, List.getElem_cons_zero, Act.put, List.setIfInBounds_toArray, List.set_cons_zero, List.set_cons_succ]
                refine wpAnyH_done (by kernel_rfl) ?_ _
                have HBZ := Lib.hid hb17
                clear hHeld hb17
                go_wp2_with fail
                go_ret
                exact ⟨rfl, HBZ.out⟩
end Go.Proofs.YtdkpnbjkehakjaaGreatDoor

/-! QueuePlays: the listed variables -/
namespace Go.Proofs.YtdkpnbjkehakjaaGreatDoor
open Go.RowKit
theorem queuePlaysTabs {W : World} (h : laidMetH Tryz.prog Rows.queuePlaysRow.laid W) : Lib.Utf8Tabs 0 1 W ∧ Errs W ∧ Pow W ∧ Tz W :=
  ⟨utabs_of h (by kernel_rfl), errs_of h (by kernel_rfl) (by kernel_rfl), pow_of (laid_one h (fun x => x.1 == "internal/strconv.uint64pow10") (by kernel_rfl)), tz_of h (by kernel_rfl)⟩
end Go.Proofs.YtdkpnbjkehakjaaGreatDoor
