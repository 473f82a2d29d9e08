import Derived.Test.YthjfgfgkbfhdfaaGreatDoorPrnC
import Derived.Test.YthjfgfgkbfhdfaaGreatDoorPolE
import Derived.Test.YthjfgfgkbfhdfaaGreatDoorPolA
set_option linter.unusedSimpArgs false
set_option linter.unusedVariables false
/-! PolicyPrints: the walk -/
namespace Go.Proofs.YthjfgfgkbfhdfaaGreatDoor
open Go.RowKit
theorem pol_cells2 {w W : World} {v0 v1 v2 v3 : Value} {d : Int} (h : Below (w.alloc (.cells #[v0, v1, v2, v3, .int .i64 d] 26)).heap.size (w.alloc (.cells #[v0, v1, v2, v3, .int .i64 d] 26)) W) :
    W.cell? ⟨w.heap.size, 0, none⟩ = some v0 ∧ W.cell? ⟨w.heap.size, 1, none⟩ = some v1 ∧ W.cell? ⟨w.heap.size, 2, none⟩ = some v2 ∧ W.cell? ⟨w.heap.size, 3, none⟩ = some v3 ∧ W.cell? ⟨w.heap.size, 4, none⟩ = some (.int .i64 d) :=
  block_cells ((h.block w.heap.size (by simp)).trans (new_block (w := w) rfl rfl))
/-- the texts of a policy are no longer than texts that came in -/
structure Short7 (st : PSt) : Prop where
  l : ∀ j, j < st.L.length → (wd6 st.L j).size ≤ 140737488351232
  i : ∀ j, j < st.I.length → (chAt st.I j).1.size ≤ 140737488351232
  o : ∀ j, j < st.O.length → (chAt st.O j).1.size ≤ 140737488351232
theorem Short7.six {st : PSt} (h : Short7 st) : Short6 st := ⟨fun j hj => Nat.le_trans (h.l j hj) (by decide), fun j hj => Nat.le_trans (h.i j hj) (by decide), fun j hj => Nat.le_trans (h.o j hj) (by decide)⟩
/-- what both Prints answer -/
def PrintB (st : PSt) (S : List Int) (s : ByteArray) (e : Int) : Prop := (rightP st S = true ∧ e = 0 ∧ s.data.toList = printL st S) ∨ (rightP st S = false ∧ e = 1 ∧ s = ⟨#[]⟩)
theorem PrintB.same {st : PSt} {S : List Int} {s t : ByteArray} {e f : Int} (h : PrintB st S s e) (k : PrintB st S t f) : e = f ∧ s = t := by
  rcases h with ⟨h1, h2, h3⟩ | ⟨h1, h2, h3⟩ <;> rcases k with ⟨k1, k2, k3⟩ | ⟨k1, k2, k3⟩
  · refine ⟨by rw [h2, k2], ?_⟩
    have : s.data = t.data := Array.ext' (h3.trans k3.symm)
    cases s; cases t; simp at this; rw [this]
  · rw [h1] at k1; cases k1
  · rw [h1] at k1; cases k1
  · exact ⟨by rw [h2, k2], by rw [h3, k3]⟩
theorem rightP_fit {st : PSt} {S : List Int} (h : rightP st S = true) (hw : Wide S) : (printL st S).length ≤ 65536 := by
  have hp := rightP_parts h
  have h64 : st.L.length ≤ 64 := by have := (LL.ord_len (LL.right_ord hp.2.2.1)).2; omega
  exact print_size h hw h64 (fun p hq => by have := LL.covers_ok S p hq; omega)
theorem print6_any (v0 v1 v2 v3 : Value) (st : PSt) (S : List Int) (w : World) (h : PolIn w v0 v1 v2 v3 st S) (hw : Wide S) (hTz : Tz w) (hsh : Short7 st) (hPw : Pow w) :
    Calls Tryz.prog 6 #[.agg #[v0, v1, v2, v3, .int .i64 st.D]] w fun e w' => (∃ s k, e = .returned (.tuple #[.string s, .int .i64 k]) ∧ PrintB st S s k) ∧ Below w.heap.size w w' := by
  cases hr : rightP st S
  · exact (print6_no v0 v1 v2 v3 st S w h hw hTz hsh.six hr).mono fun e w' ⟨h1, h2⟩ => ⟨⟨_, _, h1, .inr ⟨hr, rfl, rfl⟩⟩, h2⟩
  · exact (print6_yes v0 v1 v2 v3 st S w h hw hTz hsh.six hPw hr (rightP_fit hr hw)).mono fun e w' ⟨⟨T, h1, h3⟩, h2⟩ => ⟨⟨_, _, h1, .inl ⟨hr, rfl, h3⟩⟩, h2⟩
theorem rprint6_any (v0 v1 v2 v3 : Value) (st : PSt) (S : List Int) (w : World) (h : PolIn w v0 v1 v2 v3 st S) (hw : Wide S) (hsh : Short7 st) :
    Calls Tryz.prog 8 #[.agg #[v0, v1, v2, v3, .int .i64 st.D]] w fun e w' => (∃ s k, e = .returned (.tuple #[.string s, .int .i64 k]) ∧ PrintB st S s k) ∧ Below w.heap.size w w' := by
  cases hr : rightP st S
  · exact (rprint6_no v0 v1 v2 v3 st S w h hw hsh.l hsh.i hsh.o hr).mono fun e w' ⟨h1, h2⟩ => ⟨⟨_, _, h1, .inr ⟨hr, rfl, rfl⟩⟩, h2⟩
  · exact (rprint6_yes v0 v1 v2 v3 st S w h hw hsh.l hsh.i hsh.o hr (rightP_fit hr hw)).mono fun e w' ⟨⟨T, h1, h3⟩, h2⟩ => ⟨⟨_, _, h1, .inl ⟨hr, rfl, h3⟩⟩, h2⟩
set_option maxRecDepth 100000 in
set_option maxHeartbeats 6400000 in
theorem prints_any (v0 v1 v2 v3 : Value) (st : PSt) (S : List Int) (w : World) (h : PolIn w v0 v1 v2 v3 st S) (hw : Wide S) (hsh : Short7 st) (hT : Go.Lib.Utf8Tabs 1 2 w) (hE : Errs w) (hP : Pow w) (hM : MaxL w) (hTz : Tz w) :
    Calls Tryz.prog 3 #[.agg #[v0, v1, v2, v3, .int .i64 st.D]] w fun e w' => e = .returned (.bool true) ∧ Below w.heap.size w w' := by
  have HT := Lib.hid hT
  have HE := Lib.hid hE
  have HPw := Lib.hid hP
  have HM := Lib.hid hM
  have HTz := Lib.hid hTz
  have HW := Lib.hid hw
  have HS := Lib.hid hsh
  have hA : Below w.heap.size w (w.alloc (.cells #[v0, v1, v2, v3, .int .i64 st.D] 26)) := (Below.refl _ _).alloc (Nat.le_refl _) _
  have H := Lib.hid (h.below hA)
  have HA := Lib.hid hA
  have HG := Lib.hid (Below.refl (w.alloc (.cells #[v0, v1, v2, v3, .int .i64 st.D] 26)).heap.size (w.alloc (.cells #[v0, v1, v2, v3, .int .i64 st.D] 26)))
  clear h hT hE hP hM hTz hA hw hsh
  obtain ⟨c0, c1, c2, c3, c4⟩ := pol_cells2 HG.out
  go_enter Tryz.func3, Tryz.ntmps3
  go_wp2_with fail
  refine (rcopy_in v0 v1 v2 v3 st S _ (H.out.below HG.out)).mono ?_
  rintro e w1 ⟨⟨u0, u1, u2, u3, rfl, hq⟩, hb⟩
  have HQ := Lib.hid hq
  clear hq
  have HG1 := Lib.hid (HG.out.trans (hb.mono HG.out.size))
  clear HG c0 c1 c2 c3 c4
  have HG := HG1
  clear HG1 hb
  obtain ⟨c0, c1, c2, c3, c4⟩ := pol_cells2 HG.out
  have HB := Lib.hid (bstep HA.out HG.out)
  go_wp2_with fail
  refine (print6_any u0 u1 u2 u3 st S _ HQ.out HW.out (HTz.out.on HB.out) HS.out (HPw.out.below HB.out)).mono ?_
  rintro e w2 ⟨⟨s, k, rfl, hpb⟩, hb⟩
  have HK1 := Lib.hid hpb
  clear HQ hpb HB
  have HG2 := Lib.hid (HG.out.trans (hb.mono HG.out.size))
  clear HG c0 c1 c2 c3 c4
  have HG := HG2
  clear HG2 hb
  obtain ⟨c0, c1, c2, c3, c4⟩ := pol_cells2 HG.out
  go_wp2_with fail
  refine (rprint6_any v0 v1 v2 v3 st S _ (H.out.below HG.out) HW.out HS.out).mono ?_
  rintro e w3 ⟨⟨t, k2, rfl, hpb⟩, hb⟩
  obtain ⟨rfl, rfl⟩ := HK1.out.same hpb
  clear HK1 hpb
  have HG3 := Lib.hid (HG.out.trans (hb.mono HG.out.size))
  clear HG c0 c1 c2 c3 c4
  have HG := HG3
  clear HG3 hb
  obtain ⟨c0, c1, c2, c3, c4⟩ := pol_cells2 HG.out
  go_wp2_with fail
  refine wp_region_held_drew (S := (fun V => Below (w.alloc (.cells #[v0, v1, v2, v3, .int .i64 st.D] 26)).heap.size (w.alloc (.cells #[v0, v1, v2, v3, .int .i64 st.D] 26)) V ∧ V.cell? ⟨w.heap.size, 0, none⟩ = some v0 ∧ V.cell? ⟨w.heap.size, 0, none⟩ = some v0 ∧ V.cell? ⟨w.heap.size, 1, none⟩ = some v1 ∧ V.cell? ⟨w.heap.size, 2, none⟩ = some v2 ∧ V.cell? ⟨w.heap.size, 3, none⟩ = some v3 ∧ V.cell? ⟨w.heap.size, 4, none⟩ = some (.int .i64 st.D))) (by kernel_rfl) ?_ (fun hHeld => ?_)
  · exact rr_at HG.out (pol_cells w v0 v1 v2 v3 (.int .i64 st.D) 26 0 _ rfl) (pol_cells w v0 v1 v2 v3 (.int .i64 st.D) 26)
  refine wpAnyH_take (i := 0) (v := .int .i64 k) rfl (by kernel_rfl) (by kernel_rfl) (by kernel_rfl) (fun _ _ _ h => h) (Or.inl ⟨by rfl, fun W hSW => ?_⟩) hHeld ?_
  · ((try dsimp only at hSW); go_split_ands; go_simp <;> with_reducible rfl)
  try simp only [List.getElem_toArray, List.getElem_cons_succ, List.getElem_cons_zero, Act.put, List.setIfInBounds_toArray, List.set_cons_zero, List.set_cons_succ]
  refine wpAnyH_take (i := 1) (v := .int .i64 k) rfl (by kernel_rfl) (by kernel_rfl) (by kernel_rfl) (fun _ _ _ h => h) (Or.inl ⟨by rfl, fun W hSW => ?_⟩) hHeld ?_
  · ((try dsimp only at hSW); go_split_ands; go_simp <;> with_reducible rfl)
  try simp only [List.getElem_toArray, List.getElem_cons_succ, List.getElem_cons_zero, Act.put, List.setIfInBounds_toArray, List.set_cons_zero, List.set_cons_succ]
  refine wpAnyH_take (i := 2) (v := .bool true) rfl (by kernel_rfl) (by kernel_rfl) (by kernel_rfl) (fun _ _ _ h => h) (Or.inl ⟨by rfl, fun W hSW => ?_⟩) hHeld ?_
  · ((try dsimp only at hSW); go_split_ands; go_simp <;> with_reducible rfl)
  try simp only [List.getElem_toArray, List.getElem_cons_succ, List.getElem_cons_zero, Act.put, List.setIfInBounds_toArray, List.set_cons_zero, List.set_cons_succ]
  refine wpAnyH_take (i := 3) (v := .bool true) rfl (by kernel_rfl) (by kernel_rfl) (by kernel_rfl) (fun _ _ _ h => h) (Or.inl ⟨by rfl, fun W hSW => ?_⟩) hHeld ?_
  · ((try dsimp only at hSW); go_split_ands; go_simp <;> with_reducible rfl)
  try simp only [List.getElem_toArray, List.getElem_cons_succ, List.getElem_cons_zero, Act.put, List.setIfInBounds_toArray, List.set_cons_zero, List.set_cons_succ]
  refine wpAnyH_take (i := 4) (v := .string s) rfl (by kernel_rfl) (by kernel_rfl) (by kernel_rfl) (fun _ _ _ h => h) (Or.inl ⟨by rfl, fun W hSW => ?_⟩) hHeld ?_
  · ((try dsimp only at hSW); go_split_ands; go_simp <;> with_reducible rfl)
  try simp only [List.getElem_toArray, List.getElem_cons_succ, List.getElem_cons_zero, Act.put, List.setIfInBounds_toArray, List.set_cons_zero, List.set_cons_succ]
  refine wpAnyH_take (i := 5) (v := .string s) rfl (by kernel_rfl) (by kernel_rfl) (by kernel_rfl) (fun _ _ _ h => h) (Or.inl ⟨by rfl, fun W hSW => ?_⟩) hHeld ?_
  · ((try dsimp only at hSW); go_split_ands; go_simp <;> with_reducible rfl)
  try simp only [List.getElem_toArray, List.getElem_cons_succ, List.getElem_cons_zero, Act.put, List.setIfInBounds_toArray, List.set_cons_zero, List.set_cons_succ]
  refine wpAnyH_take (i := 6) (v := .bool true) rfl (by kernel_rfl) (by kernel_rfl) (by kernel_rfl) (fun _ _ _ h => h) (Or.inl ⟨by rfl, fun W hSW => ?_⟩) hHeld ?_
  · ((try dsimp only at hSW); go_split_ands; go_simp <;> with_reducible rfl)
  try simp only [List.getElem_toArray, List.getElem_cons_succ, List.getElem_cons_zero, Act.put, List.setIfInBounds_toArray, List.set_cons_zero, List.set_cons_succ]
  refine wpAnyH_take (i := 7) (v := .bool true) rfl (by kernel_rfl) (by kernel_rfl) (by kernel_rfl) (fun _ _ _ h => h) (Or.inl ⟨by rfl, fun W hSW => ?_⟩) hHeld ?_
  · ((try dsimp only at hSW); go_split_ands; go_simp <;> with_reducible rfl)
  try simp only [List.getElem_toArray, List.getElem_cons_succ, List.getElem_cons_zero, Act.put, List.setIfInBounds_toArray, List.set_cons_zero, List.set_cons_succ]
  refine wpAnyH_take (i := 8) (v := .bool true) rfl (by kernel_rfl) (by kernel_rfl) (by kernel_rfl) (fun _ _ _ h => h) (Or.inl ⟨by rfl, fun W hSW => ?_⟩) hHeld ?_
  · ((try dsimp only at hSW); go_split_ands; go_simp <;> with_reducible rfl)
  try simp only [List.getElem_toArray, List.getElem_cons_succ, List.getElem_cons_zero, Act.put, List.setIfInBounds_toArray, List.set_cons_zero, List.set_cons_succ]
  refine wpAnyH_take (i := 9) (v := .agg #[v0, v1, v2, v3, .int .i64 st.D]) rfl (by kernel_rfl) (by kernel_rfl) (by kernel_rfl) (fun _ _ _ h => h) (Or.inl ⟨by rfl, fun W hSW => ?_⟩) hHeld ?_
  · ((try dsimp only at hSW); go_split_ands; go_simp <;> with_reducible rfl)
  try simp only [List.getElem_toArray, List.getElem_cons_succ, List.getElem_cons_zero, Act.put, List.setIfInBounds_toArray, List.set_cons_zero, List.set_cons_succ]
  refine wpAnyH_take (i := 12) (v := .agg #[v0, v1, v2, v3, .int .i64 st.D]) rfl (by kernel_rfl) (by kernel_rfl) (by kernel_rfl) (fun _ _ _ h => h) (Or.inl ⟨by rfl, fun W hSW => ?_⟩) hHeld ?_
  · ((try dsimp only at hSW); go_split_ands; go_simp <;> with_reducible rfl)
  try simp only [List.getElem_toArray, List.getElem_cons_succ, List.getElem_cons_zero, Act.put, List.setIfInBounds_toArray, List.set_cons_zero, List.set_cons_succ]
  refine wpAnyH_ready (rs := [10]) (by kernel_rfl) (by simp) ?_
  refine AllReadyH.cons rfl (fun K hK => ?_) AllReadyH.nil
  try simp only [List.getElem_toArray, List.getElem_cons_succ, List.getElem_cons_zero]
  go_simp
  (go_at_call 7; refine (rcopy_in v0 v1 v2 v3 st S _ (H.out.below hHeld.1)).mono ?_; rintro e w' ⟨⟨u0, u1, u2, u3, rfl, hq⟩, hb⟩; have HQ := Lib.hid hq; clear hq)
  try go_wp2_with fail
  refine hK.out _ _ ?_ (fun hHeld => ?_)
  · exact rr_held (by assumption) (by assumption)
  clear hK K
  try simp only [List.getElem_toArray, List.getElem_cons_succ, List.getElem_cons_zero, Act.put, List.setIfInBounds_toArray, List.set_cons_zero, List.set_cons_succ]
  refine wpAnyH_ready (rs := [11]) (by kernel_rfl) (by simp) ?_
  refine AllReadyH.cons rfl (fun K hK => ?_) AllReadyH.nil
  try simp only [List.getElem_toArray, List.getElem_cons_succ, List.getElem_cons_zero]
  go_simp
  (go_at_call 9; refine (right6_any u0 u1 u2 u3 st S _ HQ.out HW.out (HTz.out.on (bstep HA.out hHeld.1)) HS.out.six).mono ?_; rintro e w' ⟨rfl, hb⟩)
  try go_wp2_with fail
  refine hK.out _ _ ?_ (fun hHeld => ?_)
  · exact rr_held (by assumption) (by assumption)
  clear hK K
  try simp only [List.getElem_toArray, List.getElem_cons_succ, List.getElem_cons_zero, Act.put, List.setIfInBounds_toArray, List.set_cons_zero, List.set_cons_succ]
  refine wpAnyH_ready (rs := [13]) (by kernel_rfl) (by simp) ?_
  refine AllReadyH.cons rfl (fun K hK => ?_) AllReadyH.nil
  try simp only [List.getElem_toArray, List.getElem_cons_succ, List.getElem_cons_zero]
  go_simp
  (go_at_call 10; refine (rright6_any v0 v1 v2 v3 st S _ (H.out.below hHeld.1) HW.out HS.out.l HS.out.i HS.out.o).mono ?_; rintro e w' ⟨rfl, hb⟩)
  try go_wp2_with fail
  refine hK.out _ _ ?_ (fun hHeld => ?_)
  · exact rr_held (by assumption) (by assumption)
  clear hK K
  try simp only [List.getElem_toArray, List.getElem_cons_succ, List.getElem_cons_zero, Act.put, List.setIfInBounds_toArray, List.set_cons_zero, List.set_cons_succ]
  refine wpAnyH_take (i := 14) (v := .bool true) rfl (by kernel_rfl) (by kernel_rfl) (by kernel_rfl) (fun _ _ _ h => h) (Or.inl ⟨by rfl, fun W hSW => ?_⟩) hHeld ?_
  · ((try dsimp only at hSW); go_split_ands; go_simp <;> with_reducible rfl)
  try simp only [List.getElem_toArray, List.getElem_cons_succ, List.getElem_cons_zero, Act.put, List.setIfInBounds_toArray, List.set_cons_zero, List.set_cons_succ]
  refine wpAnyH_take (i := 15) (v := .bool true) rfl (by kernel_rfl) (by kernel_rfl) (by kernel_rfl) (fun _ _ _ h => h) (Or.inl ⟨by rfl, fun W hSW => ?_⟩) hHeld ?_
  · ((try dsimp only at hSW); go_split_ands; go_simp <;> with_reducible rfl)
  try simp only [List.getElem_toArray, List.getElem_cons_succ, List.getElem_cons_zero, Act.put, List.setIfInBounds_toArray, List.set_cons_zero, List.set_cons_succ]
  refine wpAnyH_take (i := 16) (v := .bool true) rfl (by kernel_rfl) (by kernel_rfl) (by kernel_rfl) (fun _ _ _ h => h) (Or.inl ⟨by rfl, fun W hSW => ?_⟩) hHeld ?_
  · ((try dsimp only at hSW); go_split_ands; go_simp <;> with_reducible rfl)
  try simp only [List.getElem_toArray, List.getElem_cons_succ, List.getElem_cons_zero, Act.put, List.setIfInBounds_toArray, List.set_cons_zero, List.set_cons_succ]
  refine wpAnyH_ready (rs := [17]) (by kernel_rfl) (by simp) ?_
  refine AllReadyH.cons rfl (fun K hK => ?_) AllReadyH.nil
  try simp only [List.getElem_toArray, List.getElem_cons_succ, List.getElem_cons_zero]
  go_simp
  (go_at_call 11; refine (awake6_any _ (Utf8Tabs_below HT.out (bstep HA.out hHeld.1)) (HE.out.below (bstep HA.out hHeld.1)) (HPw.out.below (bstep HA.out hHeld.1)) (HM.out.below (bstep HA.out hHeld.1)) (HTz.out.on (bstep HA.out hHeld.1))).mono ?_; rintro e w' ⟨rfl, hb⟩)
  try go_wp2_with fail
  refine hK.out _ _ ?_ (fun hHeld => ?_)
  · exact rr_held (by assumption) (by assumption)
  clear hK K
  try simp only [List.getElem_toArray, List.getElem_cons_succ, List.getElem_cons_zero, Act.put, List.setIfInBounds_toArray, List.set_cons_zero, List.set_cons_succ]
  refine wpAnyH_take (i := 18) (v := .bool true) rfl (by kernel_rfl) (by kernel_rfl) (by kernel_rfl) (fun _ _ _ h => h) (Or.inl ⟨by rfl, fun W hSW => ?_⟩) hHeld ?_
  · ((try dsimp only at hSW); go_split_ands; go_simp <;> with_reducible rfl)
  try simp only [List.getElem_toArray, List.getElem_cons_succ, List.getElem_cons_zero, Act.put, List.setIfInBounds_toArray, List.set_cons_zero, List.set_cons_succ]
  refine wpAnyH_take (i := 19) (v := .bool true) rfl (by kernel_rfl) (by kernel_rfl) (by kernel_rfl) (fun _ _ _ h => h) (Or.inl ⟨by rfl, fun W hSW => ?_⟩) hHeld ?_
  · ((try dsimp only at hSW); go_split_ands; go_simp <;> with_reducible rfl)
  try simp only [List.getElem_toArray, List.getElem_cons_succ, List.getElem_cons_zero, Act.put, List.setIfInBounds_toArray, List.set_cons_zero, List.set_cons_succ]
  refine wpAnyH_done (by kernel_rfl) ?_ _
  have HB9 := Lib.hid (bstep HA.out hHeld.1)
  go_wp2_with fail
  go_ret
  exact ⟨rfl, HB9.out⟩
end Go.Proofs.YthjfgfgkbfhdfaaGreatDoor
