import Derived.Test.YtgfjdnmnjabbbaaDoorPolE
import Derived.Test.YtgfjdnmnjabbbaaDoorPolP
import Derived.Test.YtgfjdnmnjabbbaaDoorPolA
set_option linter.unusedSimpArgs false
set_option linter.unusedVariables false
/-! PolicyFinds: the walk -/
namespace Go.Proofs.YtgfjdnmnjabbbaaDoor
open Go.RowKit

theorem pol_cells {w W : World} {v0 v1 v2 v3 : Value} {d : Int} (h : Below (w.alloc (.cells #[v0, v1, v2, v3, .int .i64 d] 26)).heap.size (w.alloc (.cells #[v0, v1, v2, v3, .int .i64 d] 26)) W) :
    W.cell? ⟨w.heap.size, 0, none⟩ = some v0 ∧ W.cell? ⟨w.heap.size, 1, none⟩ = some v1 ∧ W.cell? ⟨w.heap.size, 2, none⟩ = some v2 ∧ W.cell? ⟨w.heap.size, 3, none⟩ = some v3 ∧ W.cell? ⟨w.heap.size, 4, none⟩ = some (.int .i64 d) :=
  block_cells ((h.block w.heap.size (by simp)).trans (new_block (w := w) rfl rfl))

set_option maxRecDepth 100000 in
set_option maxHeartbeats 6400000 in
theorem finds_any (v0 v1 v2 v3 : Value) (st : PSt) (S : List Int) (s : ByteArray) (w : World) (h : PolIn w v0 v1 v2 v3 st S) (hT : Go.Lib.Utf8Tabs 0 1 w) (hE : Errs w) (hP : Pow w) (hM : MaxL w) (hTz : Tz w) :
    Calls Tryd.prog 3 #[.agg #[v0, v1, v2, v3, .int .i64 st.D], .string s] w fun e w' => e = .returned (.bool true) ∧ Below w.heap.size w w' := by
  have HT := Lib.hid hT
  have HE := Lib.hid hE
  have HPw := Lib.hid hP
  have HM := Lib.hid hM
  have HTz := Lib.hid hTz
  have x0 : st.L.length ≤ 9223372036854775807 := by have := h.l0; omega
  have x2 : st.I.length ≤ 9223372036854775807 := by have := h.l2; omega
  have x3 : st.O.length ≤ 9223372036854775807 := by have := h.l3; omega
  have hA : Below w.heap.size w (w.alloc (.cells #[v0, v1, v2, v3, .int .i64 st.D] 26)) := (Below.refl _ _).alloc (Nat.le_refl _) _
  have H := Lib.hid (h.below hA)
  have HA := Lib.hid hA
  have HG := Lib.hid (Below.refl (w.alloc (.cells #[v0, v1, v2, v3, .int .i64 st.D] 26)).heap.size (w.alloc (.cells #[v0, v1, v2, v3, .int .i64 st.D] 26)))
  clear h hT hE hP hM hTz hA
  obtain ⟨c0, c1, c2, c3, c4⟩ := pol_cells HG.out
  go_enter Tryd.func3, Tryd.ntmps3
  go_wp2_with fail
  refine (rcopy_any v0 v1 v2 v3 st S _ (H.out.below HG.out)).mono ?_
  rintro e w1 ⟨⟨v, rfl, a0, a1, a2, a3, rfl, p0, p1, p2, p3⟩, hb⟩
  have HQ := Lib.hid p0
  clear p0 p1 p2 p3
  have HG1 := Lib.hid (HG.out.trans (hb.mono HG.out.size))
  clear HG c0 c1 c2 c3 c4
  have HG := HG1
  clear HG1 hb
  obtain ⟨c0, c1, c2, c3, c4⟩ := pol_cells HG.out
  go_wp2_with fail
  refine (plevel_any a0 a1 a2 a3 _ st.L s _ HQ.out x0).mono ?_
  rintro e w2 ⟨rfl, hb⟩
  clear HQ
  have HG2 := Lib.hid (HG.out.trans (hb.mono HG.out.size))
  clear HG c0 c1 c2 c3 c4
  have HG := HG2
  clear HG2 hb
  obtain ⟨c0, c1, c2, c3, c4⟩ := pol_cells HG.out
  go_wp2_with fail
  refine (rcopy_any v0 v1 v2 v3 st S _ (H.out.below HG.out)).mono ?_
  rintro e w3 ⟨⟨v, rfl, a0, a1, a2, a3, rfl, p0, p1, p2, p3⟩, hb⟩
  have HQ := Lib.hid p2
  clear p0 p1 p2 p3
  have HG3 := Lib.hid (HG.out.trans (hb.mono HG.out.size))
  clear HG c0 c1 c2 c3 c4
  have HG := HG3
  clear HG3 hb
  obtain ⟨c0, c1, c2, c3, c4⟩ := pol_cells HG.out
  go_wp2_with fail
  refine (pinput_any a2 a0 a1 a3 _ st.I s _ HQ.out x2).mono ?_
  rintro e w4 ⟨rfl, hb⟩
  clear HQ
  have HG4 := Lib.hid (HG.out.trans (hb.mono HG.out.size))
  clear HG c0 c1 c2 c3 c4
  have HG := HG4
  clear HG4 hb
  obtain ⟨c0, c1, c2, c3, c4⟩ := pol_cells HG.out
  go_wp2_with fail
  refine (rcopy_any v0 v1 v2 v3 st S _ (H.out.below HG.out)).mono ?_
  rintro e w5 ⟨⟨v, rfl, a0, a1, a2, a3, rfl, p0, p1, p2, p3⟩, hb⟩
  have HQ := Lib.hid p3
  clear p0 p1 p2 p3
  have HG5 := Lib.hid (HG.out.trans (hb.mono HG.out.size))
  clear HG c0 c1 c2 c3 c4
  have HG := HG5
  clear HG5 hb
  obtain ⟨c0, c1, c2, c3, c4⟩ := pol_cells HG.out
  go_wp2_with fail
  refine (poutput_any a3 a0 a1 a2 _ st.O s _ HQ.out x3).mono ?_
  rintro e w6 ⟨rfl, hb⟩
  clear HQ
  have HG6 := Lib.hid (HG.out.trans (hb.mono HG.out.size))
  clear HG c0 c1 c2 c3 c4
  have HG := HG6
  clear HG6 hb
  obtain ⟨c0, c1, c2, c3, c4⟩ := pol_cells HG.out
  go_wp2_with fail
  refine (rlevel_any v0 v1 v2 v3 _ st.L s _ _ (Nat.le_refl _) (strs_on H.out.s0 HG.out) x0).mono ?_
  rintro e w7 ⟨rfl, hb⟩
  have HG7 := Lib.hid (HG.out.trans (hb.mono HG.out.size))
  clear HG c0 c1 c2 c3 c4
  have HG := HG7
  clear HG7 hb
  obtain ⟨c0, c1, c2, c3, c4⟩ := pol_cells HG.out
  go_wp2_with fail
  refine (lawfound_any (sameAt st.L s) st.L.length _).mono ?_
  rintro e w8 ⟨rfl, rfl⟩
  go_wp2_with fail
  refine (rchan_any v2 st.I s _ _ (Nat.le_refl _) (chans_on H.out.s2 HG.out) x2).mono ?_
  rintro e w9 ⟨rfl, hb⟩
  have HG8 := Lib.hid (HG.out.trans (hb.mono HG.out.size))
  clear HG c0 c1 c2 c3 c4
  have HG := HG8
  clear HG8 hb
  obtain ⟨c0, c1, c2, c3, c4⟩ := pol_cells HG.out
  go_wp2_with fail
  refine (lawfound_any (namedAt st.I s) st.I.length _).mono ?_
  rintro e w12 ⟨rfl, rfl⟩
  go_wp2_with fail
  refine (rchan_any v3 st.O s _ _ (Nat.le_refl _) (chans_on H.out.s3 HG.out) x3).mono ?_
  rintro e w10 ⟨rfl, hb⟩
  have HG9 := Lib.hid (HG.out.trans (hb.mono HG.out.size))
  clear HG c0 c1 c2 c3 c4
  have HG := HG9
  clear HG9 hb
  obtain ⟨c0, c1, c2, c3, c4⟩ := pol_cells HG.out
  go_wp2_with fail
  refine (lawfound_any (namedAt st.O s) st.O.length _).mono ?_
  rintro e w13 ⟨rfl, rfl⟩
  have HB := Lib.hid (bstep HA.out HG.out)
  clear c0 c1 c2 c3 c4 HG
  go_wp2_with fail
  refine (awake6_any _ (Utf8Tabs_below HT.out HB.out) (HE.out.below HB.out) (HPw.out.below HB.out) (HM.out.below HB.out) (HTz.out.on HB.out)).mono ?_
  rintro e w14 ⟨rfl, hb⟩
  go_wp2_with fail
  go_ret
  exact ⟨rfl, bstep HB.out hb⟩
end Go.Proofs.YtgfjdnmnjabbbaaDoor
