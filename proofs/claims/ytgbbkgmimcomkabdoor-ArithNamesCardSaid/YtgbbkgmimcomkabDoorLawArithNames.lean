import Derived.Test.YtgbbkgmimcomkabDoorArithT
import Derived.LaidSub
import Derived.LaidMore
/-! ArithNames: the walk -/
namespace Go.Proofs.YtgbbkgmimcomkabDoor
set_option linter.unusedVariables false
open Go.RowKit
theorem opI_pos (s : ByteArray) : decide (0 < opI s) = (opI s != 0) := by
  have h : ∀ f k, 0 ≤ opFrom s f k := by
    intro f
    induction f with
    | zero => intro k; exact Int.le_refl _
    | succ f ih =>
      intro k
      simp only [opFrom]
      split
      · omega
      · exact ih (k + 1)
  have h0 : 0 ≤ opI s := h 12 0
  by_cases hz : opI s = 0
  · rw [hz]; rfl
  · rw [decide_eq_true (by omega), show (opI s != 0) = true by rw [bne_iff_ne]; exact hz]
set_option maxRecDepth 100000 in
set_option maxHeartbeats 800000 in
theorem arithNames_4t (s : ByteArray) (op : Int) (w : World) (h0 : 0 ≤ op) (h1 : op ≤ 255) (hN : Names w) (h4 : (op == 4) = true) (hok : (opI s != 0) = true) :
    Calls Tryd.prog 3 #[.string s, .int .u8 op] w fun e w' => e = .returned (.bool true) ∧ Below w.heap.size w w' := by
  have HN := Lib.hid hN
  have H0 := Lib.hid h0
  have H1 := Lib.hid h1
  have HT := Lib.hid (show trapsB op = true by unfold trapsB; rw [h4]; rfl)
  have HO := Lib.hid hok
  have hpos : decide (0 < opI s) = true := by rw [opI_pos, hok]
  clear hN h0 h1 hok
  go_enter Tryd.func3, Tryd.ntmps3
  go_wp2_with fail
  refine (op4_any s _ HN.out).mono ?_
  rintro e w1 ⟨rfl, hb1⟩
  rw [HO.out]
  go_wp2_with fail
  refine (rop_any s _).mono ?_
  rintro e w2 ⟨rfl, hb2⟩
  have hB2 := bstep hb1 hb2
  clear hb1 hb2
  go_wp2_with fail
  refine (name4_any op H0.out H1.out _ (HN.out.below hB2)).mono ?_
  rintro e w3 ⟨rfl, rfl⟩
  go_wp2_with fail
  refine (rname4_any op H0.out H1.out _).mono ?_
  rintro e w4 ⟨rfl, hb4⟩
  have hB4 := bstep hB2 hb4
  clear hB2 hb4
  go_wp2_with fail
  refine (traps_any op _).mono ?_
  rintro e w5 ⟨rfl, rfl⟩
  rw [HT.out]
  go_wp2_with fail
  refine (awake_any _).mono ?_
  rintro e w99 ⟨rfl, hb99⟩
  go_wp2_with fail
  go_ret
  exact ⟨rfl, bstep hB4 hb99⟩
set_option maxRecDepth 100000 in
set_option maxHeartbeats 800000 in
theorem arithNames_4f (s : ByteArray) (op : Int) (w : World) (h0 : 0 ≤ op) (h1 : op ≤ 255) (hN : Names w) (h4 : (op == 4) = true) (hok : (opI s != 0) = false) :
    Calls Tryd.prog 3 #[.string s, .int .u8 op] w fun e w' => e = .returned (.bool true) ∧ Below w.heap.size w w' := by
  have HN := Lib.hid hN
  have H0 := Lib.hid h0
  have H1 := Lib.hid h1
  have HT := Lib.hid (show trapsB op = true by unfold trapsB; rw [h4]; rfl)
  have HO := Lib.hid hok
  have hpos : decide (0 < opI s) = false := by rw [opI_pos, hok]
  clear hN h0 h1 hok
  go_enter Tryd.func3, Tryd.ntmps3
  go_wp2_with fail
  refine (op4_any s _ HN.out).mono ?_
  rintro e w1 ⟨rfl, hb1⟩
  rw [HO.out]
  go_wp2_with fail
  refine (rop_any s _).mono ?_
  rintro e w2 ⟨rfl, hb2⟩
  have hB2 := bstep hb1 hb2
  clear hb1 hb2
  go_wp2_with fail
  refine (name4_any op H0.out H1.out _ (HN.out.below hB2)).mono ?_
  rintro e w3 ⟨rfl, rfl⟩
  go_wp2_with fail
  refine (rname4_any op H0.out H1.out _).mono ?_
  rintro e w4 ⟨rfl, hb4⟩
  have hB4 := bstep hB2 hb4
  clear hB2 hb4
  go_wp2_with fail
  refine (traps_any op _).mono ?_
  rintro e w5 ⟨rfl, rfl⟩
  rw [HT.out]
  go_wp2_with fail
  refine (awake_any _).mono ?_
  rintro e w99 ⟨rfl, hb99⟩
  go_wp2_with fail
  go_ret
  exact ⟨rfl, bstep hB4 hb99⟩
set_option maxRecDepth 100000 in
set_option maxHeartbeats 800000 in
theorem arithNames_5t (s : ByteArray) (op : Int) (w : World) (h0 : 0 ≤ op) (h1 : op ≤ 255) (hN : Names w) (h4 : (op == 4) = false) (h5 : (op == 5) = true) (hok : (opI s != 0) = true) :
    Calls Tryd.prog 3 #[.string s, .int .u8 op] w fun e w' => e = .returned (.bool true) ∧ Below w.heap.size w w' := by
  have HN := Lib.hid hN
  have H0 := Lib.hid h0
  have H1 := Lib.hid h1
  have HT := Lib.hid (show trapsB op = true by unfold trapsB; rw [h4, h5]; rfl)
  have HO := Lib.hid hok
  have hpos : decide (0 < opI s) = true := by rw [opI_pos, hok]
  clear hN h0 h1 hok
  go_enter Tryd.func3, Tryd.ntmps3
  go_wp2_with fail
  refine (op4_any s _ HN.out).mono ?_
  rintro e w1 ⟨rfl, hb1⟩
  rw [HO.out]
  go_wp2_with fail
  refine (rop_any s _).mono ?_
  rintro e w2 ⟨rfl, hb2⟩
  have hB2 := bstep hb1 hb2
  clear hb1 hb2
  go_wp2_with fail
  refine (name4_any op H0.out H1.out _ (HN.out.below hB2)).mono ?_
  rintro e w3 ⟨rfl, rfl⟩
  go_wp2_with fail
  refine (rname4_any op H0.out H1.out _).mono ?_
  rintro e w4 ⟨rfl, hb4⟩
  have hB4 := bstep hB2 hb4
  clear hB2 hb4
  go_wp2_with fail
  refine (traps_any op _).mono ?_
  rintro e w5 ⟨rfl, rfl⟩
  rw [HT.out]
  go_wp2_with fail
  refine (awake_any _).mono ?_
  rintro e w99 ⟨rfl, hb99⟩
  go_wp2_with fail
  go_ret
  exact ⟨rfl, bstep hB4 hb99⟩
set_option maxRecDepth 100000 in
set_option maxHeartbeats 800000 in
theorem arithNames_5f (s : ByteArray) (op : Int) (w : World) (h0 : 0 ≤ op) (h1 : op ≤ 255) (hN : Names w) (h4 : (op == 4) = false) (h5 : (op == 5) = true) (hok : (opI s != 0) = false) :
    Calls Tryd.prog 3 #[.string s, .int .u8 op] w fun e w' => e = .returned (.bool true) ∧ Below w.heap.size w w' := by
  have HN := Lib.hid hN
  have H0 := Lib.hid h0
  have H1 := Lib.hid h1
  have HT := Lib.hid (show trapsB op = true by unfold trapsB; rw [h4, h5]; rfl)
  have HO := Lib.hid hok
  have hpos : decide (0 < opI s) = false := by rw [opI_pos, hok]
  clear hN h0 h1 hok
  go_enter Tryd.func3, Tryd.ntmps3
  go_wp2_with fail
  refine (op4_any s _ HN.out).mono ?_
  rintro e w1 ⟨rfl, hb1⟩
  rw [HO.out]
  go_wp2_with fail
  refine (rop_any s _).mono ?_
  rintro e w2 ⟨rfl, hb2⟩
  have hB2 := bstep hb1 hb2
  clear hb1 hb2
  go_wp2_with fail
  refine (name4_any op H0.out H1.out _ (HN.out.below hB2)).mono ?_
  rintro e w3 ⟨rfl, rfl⟩
  go_wp2_with fail
  refine (rname4_any op H0.out H1.out _).mono ?_
  rintro e w4 ⟨rfl, hb4⟩
  have hB4 := bstep hB2 hb4
  clear hB2 hb4
  go_wp2_with fail
  refine (traps_any op _).mono ?_
  rintro e w5 ⟨rfl, rfl⟩
  rw [HT.out]
  go_wp2_with fail
  refine (awake_any _).mono ?_
  rintro e w99 ⟨rfl, hb99⟩
  go_wp2_with fail
  go_ret
  exact ⟨rfl, bstep hB4 hb99⟩
set_option maxRecDepth 100000 in
set_option maxHeartbeats 800000 in
theorem arithNames_0t (s : ByteArray) (op : Int) (w : World) (h0 : 0 ≤ op) (h1 : op ≤ 255) (hN : Names w) (h4 : (op == 4) = false) (h5 : (op == 5) = false) (hok : (opI s != 0) = true) :
    Calls Tryd.prog 3 #[.string s, .int .u8 op] w fun e w' => e = .returned (.bool true) ∧ Below w.heap.size w w' := by
  have HN := Lib.hid hN
  have H0 := Lib.hid h0
  have H1 := Lib.hid h1
  have HT := Lib.hid (show trapsB op = false by unfold trapsB; rw [h4, h5]; rfl)
  have HO := Lib.hid hok
  have hpos : decide (0 < opI s) = true := by rw [opI_pos, hok]
  clear hN h0 h1 hok
  go_enter Tryd.func3, Tryd.ntmps3
  go_wp2_with fail
  refine (op4_any s _ HN.out).mono ?_
  rintro e w1 ⟨rfl, hb1⟩
  rw [HO.out]
  go_wp2_with fail
  refine (rop_any s _).mono ?_
  rintro e w2 ⟨rfl, hb2⟩
  have hB2 := bstep hb1 hb2
  clear hb1 hb2
  go_wp2_with fail
  refine (name4_any op H0.out H1.out _ (HN.out.below hB2)).mono ?_
  rintro e w3 ⟨rfl, rfl⟩
  go_wp2_with fail
  refine (rname4_any op H0.out H1.out _).mono ?_
  rintro e w4 ⟨rfl, hb4⟩
  have hB4 := bstep hB2 hb4
  clear hB2 hb4
  go_wp2_with fail
  refine (traps_any op _).mono ?_
  rintro e w5 ⟨rfl, rfl⟩
  rw [HT.out]
  go_wp2_with fail
  refine (awake_any _).mono ?_
  rintro e w99 ⟨rfl, hb99⟩
  go_wp2_with fail
  go_ret
  exact ⟨rfl, bstep hB4 hb99⟩
set_option maxRecDepth 100000 in
set_option maxHeartbeats 800000 in
theorem arithNames_0f (s : ByteArray) (op : Int) (w : World) (h0 : 0 ≤ op) (h1 : op ≤ 255) (hN : Names w) (h4 : (op == 4) = false) (h5 : (op == 5) = false) (hok : (opI s != 0) = false) :
    Calls Tryd.prog 3 #[.string s, .int .u8 op] w fun e w' => e = .returned (.bool true) ∧ Below w.heap.size w w' := by
  have HN := Lib.hid hN
  have H0 := Lib.hid h0
  have H1 := Lib.hid h1
  have HT := Lib.hid (show trapsB op = false by unfold trapsB; rw [h4, h5]; rfl)
  have HO := Lib.hid hok
  have hpos : decide (0 < opI s) = false := by rw [opI_pos, hok]
  clear hN h0 h1 hok
  go_enter Tryd.func3, Tryd.ntmps3
  go_wp2_with fail
  refine (op4_any s _ HN.out).mono ?_
  rintro e w1 ⟨rfl, hb1⟩
  rw [HO.out]
  go_wp2_with fail
  refine (rop_any s _).mono ?_
  rintro e w2 ⟨rfl, hb2⟩
  have hB2 := bstep hb1 hb2
  clear hb1 hb2
  go_wp2_with fail
  refine (name4_any op H0.out H1.out _ (HN.out.below hB2)).mono ?_
  rintro e w3 ⟨rfl, rfl⟩
  go_wp2_with fail
  refine (rname4_any op H0.out H1.out _).mono ?_
  rintro e w4 ⟨rfl, hb4⟩
  have hB4 := bstep hB2 hb4
  clear hB2 hb4
  go_wp2_with fail
  refine (traps_any op _).mono ?_
  rintro e w5 ⟨rfl, rfl⟩
  rw [HT.out]
  go_wp2_with fail
  refine (awake_any _).mono ?_
  rintro e w99 ⟨rfl, hb99⟩
  go_wp2_with fail
  go_ret
  exact ⟨rfl, bstep hB4 hb99⟩
theorem arithNames_walk (s : ByteArray) (op : Int) (w : World) (h0 : 0 ≤ op) (h1 : op ≤ 255) (hN : Names w) :
    Calls Tryd.prog 3 #[.string s, .int .u8 op] w fun e w' => e = .returned (.bool true) ∧ Below w.heap.size w w' := by
  cases h4 : (op == 4)
  · cases h5 : (op == 5)
    · cases hok : (opI s != 0)
      · exact arithNames_0f s op w h0 h1 hN h4 h5 hok
      · exact arithNames_0t s op w h0 h1 hN h4 h5 hok
    · cases hok : (opI s != 0)
      · exact arithNames_5f s op w h0 h1 hN h4 h5 hok
      · exact arithNames_5t s op w h0 h1 hN h4 h5 hok
  · cases hok : (opI s != 0)
    · exact arithNames_4f s op w h0 h1 hN h4 hok
    · exact arithNames_4t s op w h0 h1 hN h4 hok
end Go.Proofs.YtgbbkgmimcomkabDoor
