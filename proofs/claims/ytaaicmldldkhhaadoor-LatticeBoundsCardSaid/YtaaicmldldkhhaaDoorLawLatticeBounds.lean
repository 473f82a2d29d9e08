import Derived.Test.YtaaicmldldkhhaaDoorLatT
import Derived.Deep.QuietTactic
import Derived.BigQuiet
import Derived.Deep.RegionHeld3
set_option linter.unusedSimpArgs false
set_option linter.unusedVariables false
/-! LatticeBounds: the walk -/
namespace Go.Proofs.YtaaicmldldkhhaaDoor
open Go.RowKit

/-- the argument's block: masks, and three levels -/
def X5 (g : Nat) (v : Value) (A B C : Int) (W : World) : Prop := g < W.heap.size ∧ W.cell? ⟨g, 0, none⟩ = some v ∧ W.cell? ⟨g, 1, none⟩ = some (.int .i64 A) ∧ W.cell? ⟨g, 2, none⟩ = some (.int .i64 B) ∧ W.cell? ⟨g, 3, none⟩ = some (.int .i64 C)
theorem X5.below {g : Nat} {v : Value} {A B C : Int} {W W' : World} (h : X5 g v A B C W) (hb : Below W.heap.size W W') : X5 g v A B C W' :=
  ⟨Nat.lt_of_lt_of_le h.1 hb.size, (hb.cell (p := ⟨g, 0, none⟩) h.1).trans h.2.1, (hb.cell (p := ⟨g, 1, none⟩) h.1).trans h.2.2.1, (hb.cell (p := ⟨g, 2, none⟩) h.1).trans h.2.2.2.1, (hb.cell (p := ⟨g, 3, none⟩) h.1).trans h.2.2.2.2⟩
theorem X5.new (w : World) (v : Value) (A B C : Int) (t : TypeId) : X5 w.heap.size v A B C (w.alloc (.cells #[v, .int .i64 A, .int .i64 B, .int .i64 C] t)) := by
  have e : (w.alloc (.cells #[v, .int .i64 A, .int .i64 B, .int .i64 C] t)).heap[w.heap.size]? = some (.cells #[v, .int .i64 A, .int .i64 B, .int .i64 C] t) := by show (w.heap.push _)[w.heap.size]? = _; simp
  refine ⟨by simp, ?_, ?_, ?_, ?_⟩ <;> (simp only [World.cell?, e]; rfl)

theorem keep5 {g : Nat} {v : Value} {A B C : Int} {w W W1 : World} (h1 : Below w.heap.size w W) (h2 : g < W.heap.size) (h3 : W.cell? ⟨g, 0, none⟩ = some v) (h4 : W.cell? ⟨g, 1, none⟩ = some (.int .i64 A)) (h5 : W.cell? ⟨g, 2, none⟩ = some (.int .i64 B)) (h6 : W.cell? ⟨g, 3, none⟩ = some (.int .i64 C)) (hb : Below W.heap.size W W1) :
    Below w.heap.size w W1 ∧ g < W1.heap.size ∧ W1.cell? ⟨g, 0, none⟩ = some v ∧ W1.cell? ⟨g, 1, none⟩ = some (.int .i64 A) ∧ W1.cell? ⟨g, 2, none⟩ = some (.int .i64 B) ∧ W1.cell? ⟨g, 3, none⟩ = some (.int .i64 C) :=
  let h := X5.below ⟨h2, h3, h4, h5, h6⟩ hb
  ⟨bstep h1 hb, h.1, h.2.1, h.2.2.1, h.2.2.2.1, h.2.2.2.2⟩
theorem keep5d {g : Nat} {v : Value} {A B C : Int} {w W W1 : World} (h1 : Below w.heap.size w W) (h2 : g < W.heap.size) (h3 : W.cell? ⟨g, 0, none⟩ = some v) (h4 : W.cell? ⟨g, 1, none⟩ = some (.int .i64 A)) (h5 : W.cell? ⟨g, 2, none⟩ = some (.int .i64 B)) (h6 : W.cell? ⟨g, 3, none⟩ = some (.int .i64 C)) (hb : Below W.drew.heap.size W.drew W1) :
    Below w.heap.size w W1 ∧ g < W1.heap.size ∧ W1.cell? ⟨g, 0, none⟩ = some v ∧ W1.cell? ⟨g, 1, none⟩ = some (.int .i64 A) ∧ W1.cell? ⟨g, 2, none⟩ = some (.int .i64 B) ∧ W1.cell? ⟨g, 3, none⟩ = some (.int .i64 C) :=
  keep5 (W := W.drew) (below_drewN h1 1) h2 h3 h4 h5 h6 hb
theorem keepd {g : Nat} {v : Value} {A B C : Int} {w W : World} (h1 : Below w.heap.size w W) (h2 : g < W.heap.size) (h3 : W.cell? ⟨g, 0, none⟩ = some v) (h4 : W.cell? ⟨g, 1, none⟩ = some (.int .i64 A)) (h5 : W.cell? ⟨g, 2, none⟩ = some (.int .i64 B)) (h6 : W.cell? ⟨g, 3, none⟩ = some (.int .i64 C)) :
    Below w.heap.size w W.drew ∧ g < W.drew.heap.size ∧ W.drew.cell? ⟨g, 0, none⟩ = some v ∧ W.drew.cell? ⟨g, 1, none⟩ = some (.int .i64 A) ∧ W.drew.cell? ⟨g, 2, none⟩ = some (.int .i64 B) ∧ W.drew.cell? ⟨g, 3, none⟩ = some (.int .i64 C) :=
  ⟨below_drewN h1 1, h2, h3, h4, h5, h6⟩


set_option maxRecDepth 100000 in
set_option maxHeartbeats 1600000 in
theorem bounds_no (hB : BuildC) (hH : HeightC) (hR : RightC) (v : Value) (xs : List Int) (A B C : Int) (w : World) (hTz : Tz w) (hv : Nums .u64 w.heap.size w v xs) (hw : Wide xs) (hl : xs.length ≤ big5)
    (hr : LL.rightB xs = false) :
    Calls Tryd.prog 9 #[.agg #[v, .int .i64 A, .int .i64 B, .int .i64 C]] w fun e w' => e = .returned (.bool true) ∧ Below w.heap.size w w' := by
  have HBd := Lib.hid hB
  have HHt := Lib.hid hH
  have HRt := Lib.hid hR
  have HV := Lib.hid hv
  have HW := Lib.hid hw
  have HL := Lib.hid hl
  have HR := Lib.hid hr
  obtain ⟨sa, cap, rfl⟩ := hv.form
  clear hB hH hR hv hw hl hr
  have HBB := Lib.hid (show Below w.heap.size w (w.alloc (.cells #[.slice sa xs.length cap, .int .i64 A, .int .i64 B, .int .i64 C] 42)) from (Below.refl _ _).alloc (Nat.le_refl _) _)
  have HX := Lib.hid (X5.new w (.slice sa xs.length cap) A B C 42)
  go_enter Tryd.func9, Tryd.ntmps9
  go_wp2_with (first
    | (go_at_call 16
       refine (HRt.out _ xs w.heap.size _ (HV.out.below HBB.out) HBB.out.size HW.out HL.out (by first | exact hTz | exact hTz.on (by assumption) | exact hTz.on HBB.out | exact hTz.alloc _ | exact (hTz.on (by assumption)).alloc _ | exact (hTz.on HBB.out).alloc _)).mono ?_
       rintro e w' ⟨rfl, hbn⟩
       have HX2 := Lib.hid (HX.out.below hbn)
       clear HX
       have HX := HX2
       clear HX2
       obtain ⟨xg, x0, x1, x2, x3⟩ := HX.out
       have HB2 := Lib.hid (bstep HBB.out hbn)
       clear HBB hbn xg
       have HBB := HB2
       clear HB2
       rw [HR.out])
    | (go_at_call 15
       refine (awake5_any HBd.out HHt.out _ (by first | exact hTz | exact hTz.on (by assumption) | exact hTz.on HBB.out | exact hTz.alloc _ | exact (hTz.on (by assumption)).alloc _ | exact (hTz.on HBB.out).alloc _)).mono ?_
       rintro e w' ⟨rfl, hbn⟩
       have HB2 := Lib.hid (bstep HBB.out hbn)
       clear HBB hbn
       have HBB := HB2
       clear HB2))
  go_ret
  exact ⟨rfl, HBB.out⟩

set_option maxRecDepth 100000 in
set_option maxHeartbeats 1600000 in
theorem bounds_out0 (hB : BuildC) (hH : HeightC) (hR : RightC) (v : Value) (xs : List Int) (A B C : Int) (w : World) (hTz : Tz w) (hv : Nums .u64 w.heap.size w v xs) (hw : Wide xs) (hl : xs.length ≤ big5)
    (hr : LL.rightB xs = true) (n0 : decide (A < 0) = true) :
    Calls Tryd.prog 9 #[.agg #[v, .int .i64 A, .int .i64 B, .int .i64 C]] w fun e w' => e = .returned (.bool true) ∧ Below w.heap.size w w' := by
  have HBd := Lib.hid hB
  have HHt := Lib.hid hH
  have HRt := Lib.hid hR
  have HV := Lib.hid hv
  have HW := Lib.hid hw
  have HL := Lib.hid hl
  have HR := Lib.hid hr
  obtain ⟨sa, cap, rfl⟩ := hv.form
  clear hB hH hR hv hw hl hr
  have HBB := Lib.hid (show Below w.heap.size w (w.alloc (.cells #[.slice sa xs.length cap, .int .i64 A, .int .i64 B, .int .i64 C] 42)) from (Below.refl _ _).alloc (Nat.le_refl _) _)
  have HX := Lib.hid (X5.new w (.slice sa xs.length cap) A B C 42)
  go_enter Tryd.func9, Tryd.ntmps9
  go_wp2_with (first
    | (go_at_call 16
       refine (HRt.out _ xs w.heap.size _ (HV.out.below HBB.out) HBB.out.size HW.out HL.out (by first | exact hTz | exact hTz.on (by assumption) | exact hTz.on HBB.out | exact hTz.alloc _ | exact (hTz.on (by assumption)).alloc _ | exact (hTz.on HBB.out).alloc _)).mono ?_
       rintro e w' ⟨rfl, hbn⟩
       have HX2 := Lib.hid (HX.out.below hbn)
       clear HX
       have HX := HX2
       clear HX2
       obtain ⟨xg, x0, x1, x2, x3⟩ := HX.out
       have HB2 := Lib.hid (bstep HBB.out hbn)
       clear HBB hbn xg
       have HBB := HB2
       clear HB2
       rw [HR.out])
    | (go_at_call 15
       refine (awake5_any HBd.out HHt.out _ (by first | exact hTz | exact hTz.on (by assumption) | exact hTz.on HBB.out | exact hTz.alloc _ | exact (hTz.on (by assumption)).alloc _ | exact (hTz.on HBB.out).alloc _)).mono ?_
       rintro e w' ⟨rfl, hbn⟩
       have HB2 := Lib.hid (bstep HBB.out hbn)
       clear HBB hbn
       have HBB := HB2
       clear HB2))
  go_ret
  exact ⟨rfl, HBB.out⟩

set_option maxRecDepth 100000 in
set_option maxHeartbeats 1600000 in
theorem bounds_out1 (hB : BuildC) (hH : HeightC) (hR : RightC) (v : Value) (xs : List Int) (A B C : Int) (w : World) (hTz : Tz w) (hv : Nums .u64 w.heap.size w v xs) (hw : Wide xs) (hl : xs.length ≤ big5)
    (hr : LL.rightB xs = true) (n0 : decide (A < 0) = false) (n1 : decide (B < 0) = true) :
    Calls Tryd.prog 9 #[.agg #[v, .int .i64 A, .int .i64 B, .int .i64 C]] w fun e w' => e = .returned (.bool true) ∧ Below w.heap.size w w' := by
  have HBd := Lib.hid hB
  have HHt := Lib.hid hH
  have HRt := Lib.hid hR
  have HV := Lib.hid hv
  have HW := Lib.hid hw
  have HL := Lib.hid hl
  have HR := Lib.hid hr
  obtain ⟨sa, cap, rfl⟩ := hv.form
  clear hB hH hR hv hw hl hr
  have HBB := Lib.hid (show Below w.heap.size w (w.alloc (.cells #[.slice sa xs.length cap, .int .i64 A, .int .i64 B, .int .i64 C] 42)) from (Below.refl _ _).alloc (Nat.le_refl _) _)
  have HX := Lib.hid (X5.new w (.slice sa xs.length cap) A B C 42)
  go_enter Tryd.func9, Tryd.ntmps9
  go_wp2_with (first
    | (go_at_call 16
       refine (HRt.out _ xs w.heap.size _ (HV.out.below HBB.out) HBB.out.size HW.out HL.out (by first | exact hTz | exact hTz.on (by assumption) | exact hTz.on HBB.out | exact hTz.alloc _ | exact (hTz.on (by assumption)).alloc _ | exact (hTz.on HBB.out).alloc _)).mono ?_
       rintro e w' ⟨rfl, hbn⟩
       have HX2 := Lib.hid (HX.out.below hbn)
       clear HX
       have HX := HX2
       clear HX2
       obtain ⟨xg, x0, x1, x2, x3⟩ := HX.out
       have HB2 := Lib.hid (bstep HBB.out hbn)
       clear HBB hbn xg
       have HBB := HB2
       clear HB2
       rw [HR.out])
    | (go_at_call 15
       refine (awake5_any HBd.out HHt.out _ (by first | exact hTz | exact hTz.on (by assumption) | exact hTz.on HBB.out | exact hTz.alloc _ | exact (hTz.on (by assumption)).alloc _ | exact (hTz.on HBB.out).alloc _)).mono ?_
       rintro e w' ⟨rfl, hbn⟩
       have HB2 := Lib.hid (bstep HBB.out hbn)
       clear HBB hbn
       have HBB := HB2
       clear HB2))
  go_ret
  exact ⟨rfl, HBB.out⟩

set_option maxRecDepth 100000 in
set_option maxHeartbeats 1600000 in
theorem bounds_out2 (hB : BuildC) (hH : HeightC) (hR : RightC) (v : Value) (xs : List Int) (A B C : Int) (w : World) (hTz : Tz w) (hv : Nums .u64 w.heap.size w v xs) (hw : Wide xs) (hl : xs.length ≤ big5)
    (hr : LL.rightB xs = true) (n0 : decide (A < 0) = false) (n1 : decide (B < 0) = false) (n2 : decide (C < 0) = true) :
    Calls Tryd.prog 9 #[.agg #[v, .int .i64 A, .int .i64 B, .int .i64 C]] w fun e w' => e = .returned (.bool true) ∧ Below w.heap.size w w' := by
  have HBd := Lib.hid hB
  have HHt := Lib.hid hH
  have HRt := Lib.hid hR
  have HV := Lib.hid hv
  have HW := Lib.hid hw
  have HL := Lib.hid hl
  have HR := Lib.hid hr
  obtain ⟨sa, cap, rfl⟩ := hv.form
  clear hB hH hR hv hw hl hr
  have HBB := Lib.hid (show Below w.heap.size w (w.alloc (.cells #[.slice sa xs.length cap, .int .i64 A, .int .i64 B, .int .i64 C] 42)) from (Below.refl _ _).alloc (Nat.le_refl _) _)
  have HX := Lib.hid (X5.new w (.slice sa xs.length cap) A B C 42)
  go_enter Tryd.func9, Tryd.ntmps9
  go_wp2_with (first
    | (go_at_call 16
       refine (HRt.out _ xs w.heap.size _ (HV.out.below HBB.out) HBB.out.size HW.out HL.out (by first | exact hTz | exact hTz.on (by assumption) | exact hTz.on HBB.out | exact hTz.alloc _ | exact (hTz.on (by assumption)).alloc _ | exact (hTz.on HBB.out).alloc _)).mono ?_
       rintro e w' ⟨rfl, hbn⟩
       have HX2 := Lib.hid (HX.out.below hbn)
       clear HX
       have HX := HX2
       clear HX2
       obtain ⟨xg, x0, x1, x2, x3⟩ := HX.out
       have HB2 := Lib.hid (bstep HBB.out hbn)
       clear HBB hbn xg
       have HBB := HB2
       clear HB2
       rw [HR.out])
    | (go_at_call 15
       refine (awake5_any HBd.out HHt.out _ (by first | exact hTz | exact hTz.on (by assumption) | exact hTz.on HBB.out | exact hTz.alloc _ | exact (hTz.on (by assumption)).alloc _ | exact (hTz.on HBB.out).alloc _)).mono ?_
       rintro e w' ⟨rfl, hbn⟩
       have HB2 := Lib.hid (bstep HBB.out hbn)
       clear HBB hbn
       have HBB := HB2
       clear HB2))
  go_ret
  exact ⟨rfl, HBB.out⟩

set_option maxRecDepth 100000 in
set_option maxHeartbeats 1600000 in
theorem bounds_out3 (hB : BuildC) (hH : HeightC) (hR : RightC) (v : Value) (xs : List Int) (A B C : Int) (w : World) (hTz : Tz w) (hv : Nums .u64 w.heap.size w v xs) (hw : Wide xs) (hl : xs.length ≤ big5)
    (hr : LL.rightB xs = true) (n0 : decide (A < 0) = false) (n1 : decide (B < 0) = false) (n2 : decide (C < 0) = false) (n3 : decide ((xs.length : Int) ≤ A) = true) :
    Calls Tryd.prog 9 #[.agg #[v, .int .i64 A, .int .i64 B, .int .i64 C]] w fun e w' => e = .returned (.bool true) ∧ Below w.heap.size w w' := by
  have HBd := Lib.hid hB
  have HHt := Lib.hid hH
  have HRt := Lib.hid hR
  have HV := Lib.hid hv
  have HW := Lib.hid hw
  have HL := Lib.hid hl
  have HR := Lib.hid hr
  obtain ⟨sa, cap, rfl⟩ := hv.form
  clear hB hH hR hv hw hl hr
  have HBB := Lib.hid (show Below w.heap.size w (w.alloc (.cells #[.slice sa xs.length cap, .int .i64 A, .int .i64 B, .int .i64 C] 42)) from (Below.refl _ _).alloc (Nat.le_refl _) _)
  have HX := Lib.hid (X5.new w (.slice sa xs.length cap) A B C 42)
  go_enter Tryd.func9, Tryd.ntmps9
  go_wp2_with (first
    | (go_at_call 16
       refine (HRt.out _ xs w.heap.size _ (HV.out.below HBB.out) HBB.out.size HW.out HL.out (by first | exact hTz | exact hTz.on (by assumption) | exact hTz.on HBB.out | exact hTz.alloc _ | exact (hTz.on (by assumption)).alloc _ | exact (hTz.on HBB.out).alloc _)).mono ?_
       rintro e w' ⟨rfl, hbn⟩
       have HX2 := Lib.hid (HX.out.below hbn)
       clear HX
       have HX := HX2
       clear HX2
       obtain ⟨xg, x0, x1, x2, x3⟩ := HX.out
       have HB2 := Lib.hid (bstep HBB.out hbn)
       clear HBB hbn xg
       have HBB := HB2
       clear HB2
       rw [HR.out])
    | (go_at_call 15
       refine (awake5_any HBd.out HHt.out _ (by first | exact hTz | exact hTz.on (by assumption) | exact hTz.on HBB.out | exact hTz.alloc _ | exact (hTz.on (by assumption)).alloc _ | exact (hTz.on HBB.out).alloc _)).mono ?_
       rintro e w' ⟨rfl, hbn⟩
       have HB2 := Lib.hid (bstep HBB.out hbn)
       clear HBB hbn
       have HBB := HB2
       clear HB2))
  go_ret
  exact ⟨rfl, HBB.out⟩

set_option maxRecDepth 100000 in
set_option maxHeartbeats 1600000 in
theorem bounds_out4 (hB : BuildC) (hH : HeightC) (hR : RightC) (v : Value) (xs : List Int) (A B C : Int) (w : World) (hTz : Tz w) (hv : Nums .u64 w.heap.size w v xs) (hw : Wide xs) (hl : xs.length ≤ big5)
    (hr : LL.rightB xs = true) (n0 : decide (A < 0) = false) (n1 : decide (B < 0) = false) (n2 : decide (C < 0) = false) (n3 : decide ((xs.length : Int) ≤ A) = false) (n4 : decide ((xs.length : Int) ≤ B) = true) :
    Calls Tryd.prog 9 #[.agg #[v, .int .i64 A, .int .i64 B, .int .i64 C]] w fun e w' => e = .returned (.bool true) ∧ Below w.heap.size w w' := by
  have HBd := Lib.hid hB
  have HHt := Lib.hid hH
  have HRt := Lib.hid hR
  have HV := Lib.hid hv
  have HW := Lib.hid hw
  have HL := Lib.hid hl
  have HR := Lib.hid hr
  obtain ⟨sa, cap, rfl⟩ := hv.form
  clear hB hH hR hv hw hl hr
  have HBB := Lib.hid (show Below w.heap.size w (w.alloc (.cells #[.slice sa xs.length cap, .int .i64 A, .int .i64 B, .int .i64 C] 42)) from (Below.refl _ _).alloc (Nat.le_refl _) _)
  have HX := Lib.hid (X5.new w (.slice sa xs.length cap) A B C 42)
  go_enter Tryd.func9, Tryd.ntmps9
  go_wp2_with (first
    | (go_at_call 16
       refine (HRt.out _ xs w.heap.size _ (HV.out.below HBB.out) HBB.out.size HW.out HL.out (by first | exact hTz | exact hTz.on (by assumption) | exact hTz.on HBB.out | exact hTz.alloc _ | exact (hTz.on (by assumption)).alloc _ | exact (hTz.on HBB.out).alloc _)).mono ?_
       rintro e w' ⟨rfl, hbn⟩
       have HX2 := Lib.hid (HX.out.below hbn)
       clear HX
       have HX := HX2
       clear HX2
       obtain ⟨xg, x0, x1, x2, x3⟩ := HX.out
       have HB2 := Lib.hid (bstep HBB.out hbn)
       clear HBB hbn xg
       have HBB := HB2
       clear HB2
       rw [HR.out])
    | (go_at_call 15
       refine (awake5_any HBd.out HHt.out _ (by first | exact hTz | exact hTz.on (by assumption) | exact hTz.on HBB.out | exact hTz.alloc _ | exact (hTz.on (by assumption)).alloc _ | exact (hTz.on HBB.out).alloc _)).mono ?_
       rintro e w' ⟨rfl, hbn⟩
       have HB2 := Lib.hid (bstep HBB.out hbn)
       clear HBB hbn
       have HBB := HB2
       clear HB2))
  go_ret
  exact ⟨rfl, HBB.out⟩

set_option maxRecDepth 100000 in
set_option maxHeartbeats 1600000 in
theorem bounds_out5 (hB : BuildC) (hH : HeightC) (hR : RightC) (v : Value) (xs : List Int) (A B C : Int) (w : World) (hTz : Tz w) (hv : Nums .u64 w.heap.size w v xs) (hw : Wide xs) (hl : xs.length ≤ big5)
    (hr : LL.rightB xs = true) (n0 : decide (A < 0) = false) (n1 : decide (B < 0) = false) (n2 : decide (C < 0) = false) (n3 : decide ((xs.length : Int) ≤ A) = false) (n4 : decide ((xs.length : Int) ≤ B) = false) (n5 : decide ((xs.length : Int) ≤ C) = true) :
    Calls Tryd.prog 9 #[.agg #[v, .int .i64 A, .int .i64 B, .int .i64 C]] w fun e w' => e = .returned (.bool true) ∧ Below w.heap.size w w' := by
  have HBd := Lib.hid hB
  have HHt := Lib.hid hH
  have HRt := Lib.hid hR
  have HV := Lib.hid hv
  have HW := Lib.hid hw
  have HL := Lib.hid hl
  have HR := Lib.hid hr
  obtain ⟨sa, cap, rfl⟩ := hv.form
  clear hB hH hR hv hw hl hr
  have HBB := Lib.hid (show Below w.heap.size w (w.alloc (.cells #[.slice sa xs.length cap, .int .i64 A, .int .i64 B, .int .i64 C] 42)) from (Below.refl _ _).alloc (Nat.le_refl _) _)
  have HX := Lib.hid (X5.new w (.slice sa xs.length cap) A B C 42)
  go_enter Tryd.func9, Tryd.ntmps9
  go_wp2_with (first
    | (go_at_call 16
       refine (HRt.out _ xs w.heap.size _ (HV.out.below HBB.out) HBB.out.size HW.out HL.out (by first | exact hTz | exact hTz.on (by assumption) | exact hTz.on HBB.out | exact hTz.alloc _ | exact (hTz.on (by assumption)).alloc _ | exact (hTz.on HBB.out).alloc _)).mono ?_
       rintro e w' ⟨rfl, hbn⟩
       have HX2 := Lib.hid (HX.out.below hbn)
       clear HX
       have HX := HX2
       clear HX2
       obtain ⟨xg, x0, x1, x2, x3⟩ := HX.out
       have HB2 := Lib.hid (bstep HBB.out hbn)
       clear HBB hbn xg
       have HBB := HB2
       clear HB2
       rw [HR.out])
    | (go_at_call 15
       refine (awake5_any HBd.out HHt.out _ (by first | exact hTz | exact hTz.on (by assumption) | exact hTz.on HBB.out | exact hTz.alloc _ | exact (hTz.on (by assumption)).alloc _ | exact (hTz.on HBB.out).alloc _)).mono ?_
       rintro e w' ⟨rfl, hbn⟩
       have HB2 := Lib.hid (bstep HBB.out hbn)
       clear HBB hbn
       have HBB := HB2
       clear HB2))
  go_ret
  exact ⟨rfl, HBB.out⟩

set_option maxRecDepth 100000 in
set_option maxHeartbeats 3200000 in
theorem bounds_in (hB : BuildC) (hH : HeightC) (hR : RightC) (hJ : JoinC) (hM : MeetC) (hQ : LeqC) (v : Value) (xs : List Int) (a b c : Nat) (w : World) (hTz : Tz w) (hv : Nums .u64 w.heap.size w v xs) (hw : Wide xs) (hl : xs.length ≤ big5)
    (hr : LL.rightB xs = true) (ha : a < xs.length) (hb : b < xs.length) (hc : c < xs.length) :
    Calls Tryd.prog 9 #[.agg #[v, .int .i64 a, .int .i64 b, .int .i64 c]] w fun e w' => e = .returned (.bool true) ∧ Below w.heap.size w w' := by
  have HBd := Lib.hid hB
  have HHt := Lib.hid hH
  have HRt := Lib.hid hR
  have HJn := Lib.hid hJ
  have HMt := Lib.hid hM
  have HLq := Lib.hid hQ
  have HV := Lib.hid hv
  have HW := Lib.hid hw
  have HL := Lib.hid hl
  have HR := Lib.hid hr
  have hjx := (LL.joinN_is hr ha hb).1.1
  have hmx := (LL.meetN_is hr ha hb).1.1
  have b1 := LL.join_bound hr hw ha hb hc
  have b2 := LL.meet_bound hr hw ha hb hc
  generalize hj : LL.joinN xs a b = j at hjx b1
  generalize hm : LL.meetN xs a b = m at hmx b2
  have F1 := Lib.hid hj
  have F2 := Lib.hid hm
  obtain ⟨la, hla⟩ : ∃ l : Bool, LL.ab xs a c = l := ⟨_, rfl⟩
  obtain ⟨lb, hlb⟩ : ∃ l : Bool, LL.ab xs b c = l := ⟨_, rfl⟩
  obtain ⟨ca, hca⟩ : ∃ l : Bool, LL.ab xs c a = l := ⟨_, rfl⟩
  obtain ⟨cb, hcb⟩ : ∃ l : Bool, LL.ab xs c b = l := ⟨_, rfl⟩
  obtain ⟨lj, hlj⟩ : ∃ l : Bool, LL.ab xs j c = l := ⟨_, rfl⟩
  obtain ⟨cm, hcm⟩ : ∃ l : Bool, LL.ab xs c m = l := ⟨_, rfl⟩
  rw [hla, hlb, hlj] at b1
  rw [hca, hcb, hcm] at b2
  have G1 := Lib.hid hlj
  have G2 := Lib.hid hcm
  have G3 := Lib.hid hla
  have G4 := Lib.hid hlb
  have G5 := Lib.hid hca
  have G6 := Lib.hid hcb
  have G7 := Lib.hid b1
  have G8 := Lib.hid b2
  obtain ⟨sa, cap, rfl⟩ := hv.form
  have na : decide ((a : Int) < 0) = false := decide_eq_false (by omega)
  have nb : decide ((b : Int) < 0) = false := decide_eq_false (by omega)
  have nc : decide ((c : Int) < 0) = false := decide_eq_false (by omega)
  have ga : decide ((xs.length : Int) ≤ (a : Int)) = false := decide_eq_false (by omega)
  have gb : decide ((xs.length : Int) ≤ (b : Int)) = false := decide_eq_false (by omega)
  have gc : decide ((xs.length : Int) ≤ (c : Int)) = false := decide_eq_false (by omega)
  have ga' : decide (xs.length ≤ a) = false := decide_eq_false (by omega)
  have gb' : decide (xs.length ≤ b) = false := decide_eq_false (by omega)
  have gc' : decide (xs.length ≤ c) = false := decide_eq_false (by omega)
  clear hB hH hR hJ hM hQ hv hw hl hr hj hm b1 b2 hla hlb hca hcb hlj hcm
  have HBB := Lib.hid (show Below w.heap.size w (w.alloc (.cells #[.slice sa xs.length cap, .int .i64 a, .int .i64 b, .int .i64 c] 42)) from (Below.refl _ _).alloc (Nat.le_refl _) _)
  have HX := Lib.hid (X5.new w (.slice sa xs.length cap) a b c 42)
  go_enter Tryd.func9, Tryd.ntmps9
  go_wp2_with (first
    | (go_at_call 16
       refine (HRt.out _ xs w.heap.size _ (HV.out.below HBB.out) HBB.out.size HW.out HL.out (by first | exact hTz | exact hTz.on (by assumption) | exact hTz.on HBB.out | exact hTz.alloc _ | exact (hTz.on (by assumption)).alloc _ | exact (hTz.on HBB.out).alloc _)).mono ?_
       rintro e w' ⟨rfl, hbn⟩
       have HX2 := Lib.hid (HX.out.below hbn)
       clear HX
       have HX := HX2
       clear HX2
       obtain ⟨xg, x0, x1, x2, x3⟩ := HX.out
       have HB2 := Lib.hid (bstep HBB.out hbn)
       clear HBB hbn xg
       have HBB := HB2
       clear HB2
       rw [HR.out]))
  obtain ⟨xg, y0, y1, y2, y3⟩ := HX.out
  have hBB := HBB.out
  clear HX HBB x0 x1 x2 x3
  go_region_held3 (fun W => Below w.heap.size w W ∧ w.heap.size < W.heap.size ∧ W.cell? ⟨w.heap.size, 0, none⟩ = some (.slice sa xs.length cap) ∧ W.cell? ⟨w.heap.size, 1, none⟩ = some (.int .i64 (a : Int)) ∧ W.cell? ⟨w.heap.size, 2, none⟩ = some (.int .i64 (b : Int)) ∧ W.cell? ⟨w.heap.size, 3, none⟩ = some (.int .i64 (c : Int)))
    (first | (try go_split_ands; first | (refine keep5 ?_ ?_ ?_ ?_ ?_ ?_ hbn <;> assumption) | (refine keep5d ?_ ?_ ?_ ?_ ?_ ?_ hbn <;> assumption) | (refine keepd ?_ ?_ ?_ ?_ ?_ ?_ <;> assumption)) | go_keep)
    (first
      | (go_at_call 18; try go_split_ands; refine (jn HJn HV HW HL HR (by first | assumption | exact below_drewN (by assumption) 1 | exact (And.left ‹Below w.heap.size w _ ∧ _›)) ha hb (hTz.on (by first | assumption | exact below_drewN (by assumption) 1 | exact (And.left ‹Below w.heap.size w _ ∧ _›)))).mono ?_; rintro e w' ⟨rfl, hbn⟩; rw [F1.out])
      | (go_at_call 19; try go_split_ands; refine (mn HMt HV HW HL HR (by first | assumption | exact below_drewN (by assumption) 1 | exact (And.left ‹Below w.heap.size w _ ∧ _›)) ha hb (hTz.on (by first | assumption | exact below_drewN (by assumption) 1 | exact (And.left ‹Below w.heap.size w _ ∧ _›)))).mono ?_; rintro e w' ⟨rfl, hbn⟩; rw [F2.out])
      | (go_at_call 32; refine (told_yes _ _).mono ?_; rintro e w' ⟨rfl, rfl⟩))
  rename_i hH0
  obtain ⟨hBB2, xg2, z0, z1, z2, z3⟩ := hH0
  clear hBB xg y0 y1 y2 y3
  have e1 := G7.out
  clear G7
  cases la
  all_goals (simp only [Bool.false_and, Bool.true_and] at e1; subst e1)
  all_goals go_wp2_with fail
  ·
    refine wp_region_held_drew (S := (fun W => Below w.heap.size w W ∧ w.heap.size < W.heap.size ∧ W.cell? ⟨w.heap.size, 0, none⟩ = some (.slice sa xs.length cap) ∧ W.cell? ⟨w.heap.size, 1, none⟩ = some (.int .i64 (a : Int)) ∧ W.cell? ⟨w.heap.size, 2, none⟩ = some (.int .i64 (b : Int)) ∧ W.cell? ⟨w.heap.size, 3, none⟩ = some (.int .i64 (c : Int)))) (by kernel_rfl) ?_ (fun hHeld => ?_)
    · exact keepd hBB2 xg2 z0 z1 z2 z3
    refine wpAnyH_take (i := 0) (v := .pointer (some ⟨w.heap.size, 0, none⟩)) rfl (by kernel_rfl) (by kernel_rfl) (by kernel_rfl) (fun _ _ _ h => h) (Or.inl ⟨by rfl, fun W hSW => ?_⟩) hHeld ?_
    · ((try dsimp only at hSW); go_split_ands; go_simp <;> with_reducible rfl)
    try simp only [List.getElem_toArray, List.getElem_cons_succ, List.getElem_cons_zero, Act.put, List.setIfInBounds_toArray, List.set_cons_zero, List.set_cons_succ]
    refine wpAnyH_take (i := 1) (v := .slice sa xs.length cap) rfl (by kernel_rfl) (by kernel_rfl) (by kernel_rfl) (fun _ _ _ h => h) (Or.inl ⟨by rfl, fun W hSW => ?_⟩) hHeld ?_
    · ((try dsimp only at hSW); go_split_ands; go_simp <;> with_reducible rfl)
    try simp only [List.getElem_toArray, List.getElem_cons_succ, List.getElem_cons_zero, Act.put, List.setIfInBounds_toArray, List.set_cons_zero, List.set_cons_succ]
    refine wpAnyH_take (i := 2) (v := .int .i64 (j : Int)) rfl (by kernel_rfl) (by kernel_rfl) (by kernel_rfl) (fun _ _ _ h => h) (Or.inl ⟨by rfl, fun W hSW => ?_⟩) hHeld ?_
    · ((try dsimp only at hSW); go_split_ands; go_simp <;> with_reducible rfl)
    try simp only [List.getElem_toArray, List.getElem_cons_succ, List.getElem_cons_zero, Act.put, List.setIfInBounds_toArray, List.set_cons_zero, List.set_cons_succ]
    refine wpAnyH_take (i := 3) (v := .pointer (some ⟨w.heap.size, 3, none⟩)) rfl (by kernel_rfl) (by kernel_rfl) (by kernel_rfl) (fun _ _ _ h => h) (Or.inl ⟨by rfl, fun W hSW => ?_⟩) hHeld ?_
    · ((try dsimp only at hSW); go_split_ands; go_simp <;> with_reducible rfl)
    try simp only [List.getElem_toArray, List.getElem_cons_succ, List.getElem_cons_zero, Act.put, List.setIfInBounds_toArray, List.set_cons_zero, List.set_cons_succ]
    refine wpAnyH_take (i := 4) (v := .int .i64 (c : Int)) rfl (by kernel_rfl) (by kernel_rfl) (by kernel_rfl) (fun _ _ _ h => h) (Or.inl ⟨by rfl, fun W hSW => ?_⟩) hHeld ?_
    · ((try dsimp only at hSW); go_split_ands; go_simp <;> with_reducible rfl)
    try simp only [List.getElem_toArray, List.getElem_cons_succ, List.getElem_cons_zero, Act.put, List.setIfInBounds_toArray, List.set_cons_zero, List.set_cons_succ]
    refine wpAnyH_take (i := 6) (v := .pointer (some ⟨w.heap.size, 0, none⟩)) rfl (by kernel_rfl) (by kernel_rfl) (by kernel_rfl) (fun _ _ _ h => h) (Or.inl ⟨by rfl, fun W hSW => ?_⟩) hHeld ?_
    · ((try dsimp only at hSW); go_split_ands; go_simp <;> with_reducible rfl)
    try simp only [List.getElem_toArray, List.getElem_cons_succ, List.getElem_cons_zero, Act.put, List.setIfInBounds_toArray, List.set_cons_zero, List.set_cons_succ]
    refine wpAnyH_take (i := 7) (v := .slice sa xs.length cap) rfl (by kernel_rfl) (by kernel_rfl) (by kernel_rfl) (fun _ _ _ h => h) (Or.inl ⟨by rfl, fun W hSW => ?_⟩) hHeld ?_
    · ((try dsimp only at hSW); go_split_ands; go_simp <;> with_reducible rfl)
    try simp only [List.getElem_toArray, List.getElem_cons_succ, List.getElem_cons_zero, Act.put, List.setIfInBounds_toArray, List.set_cons_zero, List.set_cons_succ]
    refine wpAnyH_take (i := 8) (v := .pointer (some ⟨w.heap.size, 1, none⟩)) rfl (by kernel_rfl) (by kernel_rfl) (by kernel_rfl) (fun _ _ _ h => h) (Or.inl ⟨by rfl, fun W hSW => ?_⟩) hHeld ?_
    · ((try dsimp only at hSW); go_split_ands; go_simp <;> with_reducible rfl)
    try simp only [List.getElem_toArray, List.getElem_cons_succ, List.getElem_cons_zero, Act.put, List.setIfInBounds_toArray, List.set_cons_zero, List.set_cons_succ]
    refine wpAnyH_take (i := 9) (v := .int .i64 (a : Int)) rfl (by kernel_rfl) (by kernel_rfl) (by kernel_rfl) (fun _ _ _ h => h) (Or.inl ⟨by rfl, fun W hSW => ?_⟩) hHeld ?_
    · ((try dsimp only at hSW); go_split_ands; go_simp <;> with_reducible rfl)
    try simp only [List.getElem_toArray, List.getElem_cons_succ, List.getElem_cons_zero, Act.put, List.setIfInBounds_toArray, List.set_cons_zero, List.set_cons_succ]
    refine wpAnyH_take (i := 10) (v := .pointer (some ⟨w.heap.size, 3, none⟩)) rfl (by kernel_rfl) (by kernel_rfl) (by kernel_rfl) (fun _ _ _ h => h) (Or.inl ⟨by rfl, fun W hSW => ?_⟩) hHeld ?_
    · ((try dsimp only at hSW); go_split_ands; go_simp <;> with_reducible rfl)
    try simp only [List.getElem_toArray, List.getElem_cons_succ, List.getElem_cons_zero, Act.put, List.setIfInBounds_toArray, List.set_cons_zero, List.set_cons_succ]
    refine wpAnyH_take (i := 11) (v := .int .i64 (c : Int)) rfl (by kernel_rfl) (by kernel_rfl) (by kernel_rfl) (fun _ _ _ h => h) (Or.inl ⟨by rfl, fun W hSW => ?_⟩) hHeld ?_
    · ((try dsimp only at hSW); go_split_ands; go_simp <;> with_reducible rfl)
    try simp only [List.getElem_toArray, List.getElem_cons_succ, List.getElem_cons_zero, Act.put, List.setIfInBounds_toArray, List.set_cons_zero, List.set_cons_succ]
    refine wpAnyH_ready (rs := [5]) (by kernel_rfl) (by simp) ?_
    refine AllReadyH.cons rfl (fun K hK => ?_) AllReadyH.nil
    try simp only [List.getElem_toArray, List.getElem_cons_succ, List.getElem_cons_zero]
    go_simp
    (go_at_call 20; try go_split_ands; refine (lq HLq HV HW HL HR (by first | assumption | exact below_drewN (by assumption) 1 | exact (And.left ‹Below w.heap.size w _ ∧ _›)) (by assumption) (by assumption) (hTz.on (by first | assumption | exact below_drewN (by assumption) 1 | exact (And.left ‹Below w.heap.size w _ ∧ _›)))).mono ?_; rintro e w' ⟨rfl, hbn⟩; first | rw [G1.out] | rw [G2.out] | rw [G3.out] | rw [G4.out] | rw [G5.out] | rw [G6.out])
    try go_wp2_with fail
    refine hK.out _ _ ?_ (fun hHeld => ?_)
    · ((try dsimp only); (first | (try go_split_ands; first | (refine keep5 ?_ ?_ ?_ ?_ ?_ ?_ hbn <;> assumption) | (refine keep5d ?_ ?_ ?_ ?_ ?_ ?_ hbn <;> assumption) | (refine keepd ?_ ?_ ?_ ?_ ?_ ?_ <;> assumption)) | go_keep))
    clear hK K
    try simp only [List.getElem_toArray, List.getElem_cons_succ, List.getElem_cons_zero, Act.put, List.setIfInBounds_toArray, List.set_cons_zero, List.set_cons_succ]
    refine wpAnyH_ready (rs := [12]) (by kernel_rfl) (by simp) ?_
    refine AllReadyH.cons rfl (fun K hK => ?_) AllReadyH.nil
    try simp only [List.getElem_toArray, List.getElem_cons_succ, List.getElem_cons_zero]
    go_simp
    (go_at_call 20; try go_split_ands; refine (lq HLq HV HW HL HR (by first | assumption | exact below_drewN (by assumption) 1 | exact (And.left ‹Below w.heap.size w _ ∧ _›)) (by assumption) (by assumption) (hTz.on (by first | assumption | exact below_drewN (by assumption) 1 | exact (And.left ‹Below w.heap.size w _ ∧ _›)))).mono ?_; rintro e w' ⟨rfl, hbn⟩; first | rw [G1.out] | rw [G2.out] | rw [G3.out] | rw [G4.out] | rw [G5.out] | rw [G6.out])
    try go_wp2_with fail
    refine hK.out _ _ ?_ (fun hHeld => ?_)
    · ((try dsimp only); (first | (try go_split_ands; first | (refine keep5 ?_ ?_ ?_ ?_ ?_ ?_ hbn <;> assumption) | (refine keep5d ?_ ?_ ?_ ?_ ?_ ?_ hbn <;> assumption) | (refine keepd ?_ ?_ ?_ ?_ ?_ ?_ <;> assumption)) | go_keep))
    clear hK K
    try simp only [List.getElem_toArray, List.getElem_cons_succ, List.getElem_cons_zero, Act.put, List.setIfInBounds_toArray, List.set_cons_zero, List.set_cons_succ]
    refine wpAnyH_take (i := 13) (v := .bool false) rfl (by kernel_rfl) (by kernel_rfl) (by kernel_rfl) (fun _ _ _ h => h) (Or.inl ⟨by rfl, fun W hSW => ?_⟩) hHeld ?_
    · ((try dsimp only at hSW); go_split_ands; go_simp <;> with_reducible rfl)
    try simp only [List.getElem_toArray, List.getElem_cons_succ, List.getElem_cons_zero, Act.put, List.setIfInBounds_toArray, List.set_cons_zero, List.set_cons_succ]
    refine wpAnyH_take (i := 14) (v := undef) rfl (by kernel_rfl) (by kernel_rfl) (by kernel_rfl) (fun _ _ _ h => h) (Or.inr ⟨by rfl, rfl⟩) hHeld ?_
    try simp only [List.getElem_toArray, List.getElem_cons_succ, List.getElem_cons_zero, Act.put, List.setIfInBounds_toArray, List.set_cons_zero, List.set_cons_succ]
    refine wpAnyH_take (i := 15) (v := undef) rfl (by kernel_rfl) (by kernel_rfl) (by kernel_rfl) (fun _ _ _ h => h) (Or.inr ⟨by rfl, rfl⟩) hHeld ?_
    try simp only [List.getElem_toArray, List.getElem_cons_succ, List.getElem_cons_zero, Act.put, List.setIfInBounds_toArray, List.set_cons_zero, List.set_cons_succ]
    refine wpAnyH_take (i := 16) (v := undef) rfl (by kernel_rfl) (by kernel_rfl) (by kernel_rfl) (fun _ _ _ h => h) (Or.inr ⟨by rfl, rfl⟩) hHeld ?_
    try simp only [List.getElem_toArray, List.getElem_cons_succ, List.getElem_cons_zero, Act.put, List.setIfInBounds_toArray, List.set_cons_zero, List.set_cons_succ]
    refine wpAnyH_take (i := 17) (v := undef) rfl (by kernel_rfl) (by kernel_rfl) (by kernel_rfl) (fun _ _ _ h => h) (Or.inr ⟨by rfl, rfl⟩) hHeld ?_
    try simp only [List.getElem_toArray, List.getElem_cons_succ, List.getElem_cons_zero, Act.put, List.setIfInBounds_toArray, List.set_cons_zero, List.set_cons_succ]
    refine wpAnyH_take (i := 18) (v := undef) rfl (by kernel_rfl) (by kernel_rfl) (by kernel_rfl) (fun _ _ _ h => h) (Or.inr ⟨by rfl, rfl⟩) hHeld ?_
    try simp only [List.getElem_toArray, List.getElem_cons_succ, List.getElem_cons_zero, Act.put, List.setIfInBounds_toArray, List.set_cons_zero, List.set_cons_succ]
    refine wpAnyH_take (i := 19) (v := undef) rfl (by kernel_rfl) (by kernel_rfl) (by kernel_rfl) (fun _ _ _ h => h) (Or.inr ⟨by rfl, rfl⟩) hHeld ?_
    try simp only [List.getElem_toArray, List.getElem_cons_succ, List.getElem_cons_zero, Act.put, List.setIfInBounds_toArray, List.set_cons_zero, List.set_cons_succ]
    refine wpAnyH_take (i := 20) (v := undef) rfl (by kernel_rfl) (by kernel_rfl) (by kernel_rfl) (fun _ _ _ h => h) (Or.inr ⟨by rfl, rfl⟩) hHeld ?_
    try simp only [List.getElem_toArray, List.getElem_cons_succ, List.getElem_cons_zero, Act.put, List.setIfInBounds_toArray, List.set_cons_zero, List.set_cons_succ]
    refine wpAnyH_take (i := 21) (v := .bool false) rfl (by kernel_rfl) (by kernel_rfl) (by kernel_rfl) (fun _ _ _ h => h) (Or.inl ⟨by rfl, fun W hSW => ?_⟩) hHeld ?_
    · ((try dsimp only at hSW); go_split_ands; go_simp <;> with_reducible rfl)
    try simp only [List.getElem_toArray, List.getElem_cons_succ, List.getElem_cons_zero, Act.put, List.setIfInBounds_toArray, List.set_cons_zero, List.set_cons_succ]
    refine wpAnyH_take (i := 22) (v := .bool false) rfl (by kernel_rfl) (by kernel_rfl) (by kernel_rfl) (fun _ _ _ h => h) (Or.inl ⟨by rfl, fun W hSW => ?_⟩) hHeld ?_
    · ((try dsimp only at hSW); go_split_ands; go_simp <;> with_reducible rfl)
    try simp only [List.getElem_toArray, List.getElem_cons_succ, List.getElem_cons_zero, Act.put, List.setIfInBounds_toArray, List.set_cons_zero, List.set_cons_succ]
    refine wpAnyH_done (by kernel_rfl) ?_ _
    obtain ⟨hBB3, xg3, u0, u1, u2, u3⟩ := hHeld
    clear hBB2 xg2 z0 z1 z2 z3
    go_wp2_with fail
    have e2 := G8.out
    clear G8
    cases ca
    all_goals (simp only [Bool.false_and, Bool.true_and] at e2; subst e2)
    ·
      refine wp_region_held_drew (S := (fun W => Below w.heap.size w W ∧ w.heap.size < W.heap.size ∧ W.cell? ⟨w.heap.size, 0, none⟩ = some (.slice sa xs.length cap) ∧ W.cell? ⟨w.heap.size, 1, none⟩ = some (.int .i64 (a : Int)) ∧ W.cell? ⟨w.heap.size, 2, none⟩ = some (.int .i64 (b : Int)) ∧ W.cell? ⟨w.heap.size, 3, none⟩ = some (.int .i64 (c : Int)))) (by kernel_rfl) ?_ (fun hHeld => ?_)
      · exact keepd hBB3 xg3 u0 u1 u2 u3
      refine wpAnyH_take (i := 0) (v := .pointer (some ⟨w.heap.size, 0, none⟩)) rfl (by kernel_rfl) (by kernel_rfl) (by kernel_rfl) (fun _ _ _ h => h) (Or.inl ⟨by rfl, fun W hSW => ?_⟩) hHeld ?_
      · ((try dsimp only at hSW); go_split_ands; go_simp <;> with_reducible rfl)
      try simp only [List.getElem_toArray, List.getElem_cons_succ, List.getElem_cons_zero, Act.put, List.setIfInBounds_toArray, List.set_cons_zero, List.set_cons_succ]
      refine wpAnyH_take (i := 1) (v := .slice sa xs.length cap) rfl (by kernel_rfl) (by kernel_rfl) (by kernel_rfl) (fun _ _ _ h => h) (Or.inl ⟨by rfl, fun W hSW => ?_⟩) hHeld ?_
      · ((try dsimp only at hSW); go_split_ands; go_simp <;> with_reducible rfl)
      try simp only [List.getElem_toArray, List.getElem_cons_succ, List.getElem_cons_zero, Act.put, List.setIfInBounds_toArray, List.set_cons_zero, List.set_cons_succ]
      refine wpAnyH_take (i := 2) (v := .pointer (some ⟨w.heap.size, 3, none⟩)) rfl (by kernel_rfl) (by kernel_rfl) (by kernel_rfl) (fun _ _ _ h => h) (Or.inl ⟨by rfl, fun W hSW => ?_⟩) hHeld ?_
      · ((try dsimp only at hSW); go_split_ands; go_simp <;> with_reducible rfl)
      try simp only [List.getElem_toArray, List.getElem_cons_succ, List.getElem_cons_zero, Act.put, List.setIfInBounds_toArray, List.set_cons_zero, List.set_cons_succ]
      refine wpAnyH_take (i := 3) (v := .int .i64 (c : Int)) rfl (by kernel_rfl) (by kernel_rfl) (by kernel_rfl) (fun _ _ _ h => h) (Or.inl ⟨by rfl, fun W hSW => ?_⟩) hHeld ?_
      · ((try dsimp only at hSW); go_split_ands; go_simp <;> with_reducible rfl)
      try simp only [List.getElem_toArray, List.getElem_cons_succ, List.getElem_cons_zero, Act.put, List.setIfInBounds_toArray, List.set_cons_zero, List.set_cons_succ]
      refine wpAnyH_take (i := 4) (v := .int .i64 (m : Int)) rfl (by kernel_rfl) (by kernel_rfl) (by kernel_rfl) (fun _ _ _ h => h) (Or.inl ⟨by rfl, fun W hSW => ?_⟩) hHeld ?_
      · ((try dsimp only at hSW); go_split_ands; go_simp <;> with_reducible rfl)
      try simp only [List.getElem_toArray, List.getElem_cons_succ, List.getElem_cons_zero, Act.put, List.setIfInBounds_toArray, List.set_cons_zero, List.set_cons_succ]
      refine wpAnyH_take (i := 6) (v := .pointer (some ⟨w.heap.size, 0, none⟩)) rfl (by kernel_rfl) (by kernel_rfl) (by kernel_rfl) (fun _ _ _ h => h) (Or.inl ⟨by rfl, fun W hSW => ?_⟩) hHeld ?_
      · ((try dsimp only at hSW); go_split_ands; go_simp <;> with_reducible rfl)
      try simp only [List.getElem_toArray, List.getElem_cons_succ, List.getElem_cons_zero, Act.put, List.setIfInBounds_toArray, List.set_cons_zero, List.set_cons_succ]
      refine wpAnyH_take (i := 7) (v := .slice sa xs.length cap) rfl (by kernel_rfl) (by kernel_rfl) (by kernel_rfl) (fun _ _ _ h => h) (Or.inl ⟨by rfl, fun W hSW => ?_⟩) hHeld ?_
      · ((try dsimp only at hSW); go_split_ands; go_simp <;> with_reducible rfl)
      try simp only [List.getElem_toArray, List.getElem_cons_succ, List.getElem_cons_zero, Act.put, List.setIfInBounds_toArray, List.set_cons_zero, List.set_cons_succ]
      refine wpAnyH_take (i := 8) (v := .pointer (some ⟨w.heap.size, 3, none⟩)) rfl (by kernel_rfl) (by kernel_rfl) (by kernel_rfl) (fun _ _ _ h => h) (Or.inl ⟨by rfl, fun W hSW => ?_⟩) hHeld ?_
      · ((try dsimp only at hSW); go_split_ands; go_simp <;> with_reducible rfl)
      try simp only [List.getElem_toArray, List.getElem_cons_succ, List.getElem_cons_zero, Act.put, List.setIfInBounds_toArray, List.set_cons_zero, List.set_cons_succ]
      refine wpAnyH_take (i := 9) (v := .int .i64 (c : Int)) rfl (by kernel_rfl) (by kernel_rfl) (by kernel_rfl) (fun _ _ _ h => h) (Or.inl ⟨by rfl, fun W hSW => ?_⟩) hHeld ?_
      · ((try dsimp only at hSW); go_split_ands; go_simp <;> with_reducible rfl)
      try simp only [List.getElem_toArray, List.getElem_cons_succ, List.getElem_cons_zero, Act.put, List.setIfInBounds_toArray, List.set_cons_zero, List.set_cons_succ]
      refine wpAnyH_take (i := 10) (v := .pointer (some ⟨w.heap.size, 1, none⟩)) rfl (by kernel_rfl) (by kernel_rfl) (by kernel_rfl) (fun _ _ _ h => h) (Or.inl ⟨by rfl, fun W hSW => ?_⟩) hHeld ?_
      · ((try dsimp only at hSW); go_split_ands; go_simp <;> with_reducible rfl)
      try simp only [List.getElem_toArray, List.getElem_cons_succ, List.getElem_cons_zero, Act.put, List.setIfInBounds_toArray, List.set_cons_zero, List.set_cons_succ]
      refine wpAnyH_take (i := 11) (v := .int .i64 (a : Int)) rfl (by kernel_rfl) (by kernel_rfl) (by kernel_rfl) (fun _ _ _ h => h) (Or.inl ⟨by rfl, fun W hSW => ?_⟩) hHeld ?_
      · ((try dsimp only at hSW); go_split_ands; go_simp <;> with_reducible rfl)
      try simp only [List.getElem_toArray, List.getElem_cons_succ, List.getElem_cons_zero, Act.put, List.setIfInBounds_toArray, List.set_cons_zero, List.set_cons_succ]
      refine wpAnyH_ready (rs := [5]) (by kernel_rfl) (by simp) ?_
      refine AllReadyH.cons rfl (fun K hK => ?_) AllReadyH.nil
      try simp only [List.getElem_toArray, List.getElem_cons_succ, List.getElem_cons_zero]
      go_simp
      (go_at_call 20; try go_split_ands; refine (lq HLq HV HW HL HR (by first | assumption | exact below_drewN (by assumption) 1 | exact (And.left ‹Below w.heap.size w _ ∧ _›)) (by assumption) (by assumption) (hTz.on (by first | assumption | exact below_drewN (by assumption) 1 | exact (And.left ‹Below w.heap.size w _ ∧ _›)))).mono ?_; rintro e w' ⟨rfl, hbn⟩; first | rw [G1.out] | rw [G2.out] | rw [G3.out] | rw [G4.out] | rw [G5.out] | rw [G6.out])
      try go_wp2_with fail
      refine hK.out _ _ ?_ (fun hHeld => ?_)
      · ((try dsimp only); (first | (try go_split_ands; first | (refine keep5 ?_ ?_ ?_ ?_ ?_ ?_ hbn <;> assumption) | (refine keep5d ?_ ?_ ?_ ?_ ?_ ?_ hbn <;> assumption) | (refine keepd ?_ ?_ ?_ ?_ ?_ ?_ <;> assumption)) | go_keep))
      clear hK K
      try simp only [List.getElem_toArray, List.getElem_cons_succ, List.getElem_cons_zero, Act.put, List.setIfInBounds_toArray, List.set_cons_zero, List.set_cons_succ]
      refine wpAnyH_ready (rs := [12]) (by kernel_rfl) (by simp) ?_
      refine AllReadyH.cons rfl (fun K hK => ?_) AllReadyH.nil
      try simp only [List.getElem_toArray, List.getElem_cons_succ, List.getElem_cons_zero]
      go_simp
      (go_at_call 20; try go_split_ands; refine (lq HLq HV HW HL HR (by first | assumption | exact below_drewN (by assumption) 1 | exact (And.left ‹Below w.heap.size w _ ∧ _›)) (by assumption) (by assumption) (hTz.on (by first | assumption | exact below_drewN (by assumption) 1 | exact (And.left ‹Below w.heap.size w _ ∧ _›)))).mono ?_; rintro e w' ⟨rfl, hbn⟩; first | rw [G1.out] | rw [G2.out] | rw [G3.out] | rw [G4.out] | rw [G5.out] | rw [G6.out])
      try go_wp2_with fail
      refine hK.out _ _ ?_ (fun hHeld => ?_)
      · ((try dsimp only); (first | (try go_split_ands; first | (refine keep5 ?_ ?_ ?_ ?_ ?_ ?_ hbn <;> assumption) | (refine keep5d ?_ ?_ ?_ ?_ ?_ ?_ hbn <;> assumption) | (refine keepd ?_ ?_ ?_ ?_ ?_ ?_ <;> assumption)) | go_keep))
      clear hK K
      try simp only [List.getElem_toArray, List.getElem_cons_succ, List.getElem_cons_zero, Act.put, List.setIfInBounds_toArray, List.set_cons_zero, List.set_cons_succ]
      refine wpAnyH_take (i := 13) (v := .bool false) rfl (by kernel_rfl) (by kernel_rfl) (by kernel_rfl) (fun _ _ _ h => h) (Or.inl ⟨by rfl, fun W hSW => ?_⟩) hHeld ?_
      · ((try dsimp only at hSW); go_split_ands; go_simp <;> with_reducible rfl)
      try simp only [List.getElem_toArray, List.getElem_cons_succ, List.getElem_cons_zero, Act.put, List.setIfInBounds_toArray, List.set_cons_zero, List.set_cons_succ]
      refine wpAnyH_take (i := 14) (v := undef) rfl (by kernel_rfl) (by kernel_rfl) (by kernel_rfl) (fun _ _ _ h => h) (Or.inr ⟨by rfl, rfl⟩) hHeld ?_
      try simp only [List.getElem_toArray, List.getElem_cons_succ, List.getElem_cons_zero, Act.put, List.setIfInBounds_toArray, List.set_cons_zero, List.set_cons_succ]
      refine wpAnyH_take (i := 15) (v := undef) rfl (by kernel_rfl) (by kernel_rfl) (by kernel_rfl) (fun _ _ _ h => h) (Or.inr ⟨by rfl, rfl⟩) hHeld ?_
      try simp only [List.getElem_toArray, List.getElem_cons_succ, List.getElem_cons_zero, Act.put, List.setIfInBounds_toArray, List.set_cons_zero, List.set_cons_succ]
      refine wpAnyH_take (i := 16) (v := undef) rfl (by kernel_rfl) (by kernel_rfl) (by kernel_rfl) (fun _ _ _ h => h) (Or.inr ⟨by rfl, rfl⟩) hHeld ?_
      try simp only [List.getElem_toArray, List.getElem_cons_succ, List.getElem_cons_zero, Act.put, List.setIfInBounds_toArray, List.set_cons_zero, List.set_cons_succ]
      refine wpAnyH_take (i := 17) (v := undef) rfl (by kernel_rfl) (by kernel_rfl) (by kernel_rfl) (fun _ _ _ h => h) (Or.inr ⟨by rfl, rfl⟩) hHeld ?_
      try simp only [List.getElem_toArray, List.getElem_cons_succ, List.getElem_cons_zero, Act.put, List.setIfInBounds_toArray, List.set_cons_zero, List.set_cons_succ]
      refine wpAnyH_take (i := 18) (v := undef) rfl (by kernel_rfl) (by kernel_rfl) (by kernel_rfl) (fun _ _ _ h => h) (Or.inr ⟨by rfl, rfl⟩) hHeld ?_
      try simp only [List.getElem_toArray, List.getElem_cons_succ, List.getElem_cons_zero, Act.put, List.setIfInBounds_toArray, List.set_cons_zero, List.set_cons_succ]
      refine wpAnyH_take (i := 19) (v := undef) rfl (by kernel_rfl) (by kernel_rfl) (by kernel_rfl) (fun _ _ _ h => h) (Or.inr ⟨by rfl, rfl⟩) hHeld ?_
      try simp only [List.getElem_toArray, List.getElem_cons_succ, List.getElem_cons_zero, Act.put, List.setIfInBounds_toArray, List.set_cons_zero, List.set_cons_succ]
      refine wpAnyH_take (i := 20) (v := undef) rfl (by kernel_rfl) (by kernel_rfl) (by kernel_rfl) (fun _ _ _ h => h) (Or.inr ⟨by rfl, rfl⟩) hHeld ?_
      try simp only [List.getElem_toArray, List.getElem_cons_succ, List.getElem_cons_zero, Act.put, List.setIfInBounds_toArray, List.set_cons_zero, List.set_cons_succ]
      refine wpAnyH_take (i := 21) (v := .bool false) rfl (by kernel_rfl) (by kernel_rfl) (by kernel_rfl) (fun _ _ _ h => h) (Or.inl ⟨by rfl, fun W hSW => ?_⟩) hHeld ?_
      · ((try dsimp only at hSW); go_split_ands; go_simp <;> with_reducible rfl)
      try simp only [List.getElem_toArray, List.getElem_cons_succ, List.getElem_cons_zero, Act.put, List.setIfInBounds_toArray, List.set_cons_zero, List.set_cons_succ]
      refine wpAnyH_take (i := 22) (v := .bool true) rfl (by kernel_rfl) (by kernel_rfl) (by kernel_rfl) (fun _ _ _ h => h) (Or.inl ⟨by rfl, fun W hSW => ?_⟩) hHeld ?_
      · ((try dsimp only at hSW); go_split_ands; go_simp <;> with_reducible rfl)
      try simp only [List.getElem_toArray, List.getElem_cons_succ, List.getElem_cons_zero, Act.put, List.setIfInBounds_toArray, List.set_cons_zero, List.set_cons_succ]
      refine wpAnyH_take (i := 23) (v := .bool true) rfl (by kernel_rfl) (by kernel_rfl) (by kernel_rfl) (fun _ _ _ h => h) (Or.inl ⟨by rfl, fun W hSW => ?_⟩) hHeld ?_
      · ((try dsimp only at hSW); go_split_ands; go_simp <;> with_reducible rfl)
      try simp only [List.getElem_toArray, List.getElem_cons_succ, List.getElem_cons_zero, Act.put, List.setIfInBounds_toArray, List.set_cons_zero, List.set_cons_succ]
      refine wpAnyH_ready (rs := [24]) (by kernel_rfl) (by simp) ?_
      refine AllReadyH.cons rfl (fun K hK => ?_) AllReadyH.nil
      try simp only [List.getElem_toArray, List.getElem_cons_succ, List.getElem_cons_zero]
      go_simp
      (go_at_call 15; try go_split_ands; refine (awake5_any HBd.out HHt.out _ (hTz.on (by first | assumption | exact below_drewN (by assumption) 1 | exact (And.left ‹Below w.heap.size w _ ∧ _›)))).mono ?_; rintro e w' ⟨rfl, hbn⟩)
      try go_wp2_with fail
      refine hK.out _ _ ?_ (fun hHeld => ?_)
      · ((try dsimp only); (first | (try go_split_ands; first | (refine keep5 ?_ ?_ ?_ ?_ ?_ ?_ hbn <;> assumption) | (refine keep5d ?_ ?_ ?_ ?_ ?_ ?_ hbn <;> assumption) | (refine keepd ?_ ?_ ?_ ?_ ?_ ?_ <;> assumption)) | go_keep))
      clear hK K
      try simp only [List.getElem_toArray, List.getElem_cons_succ, List.getElem_cons_zero, Act.put, List.setIfInBounds_toArray, List.set_cons_zero, List.set_cons_succ]
      refine wpAnyH_take (i := 25) (v := .bool true) rfl (by kernel_rfl) (by kernel_rfl) (by kernel_rfl) (fun _ _ _ h => h) (Or.inl ⟨by rfl, fun W hSW => ?_⟩) hHeld ?_
      · ((try dsimp only at hSW); go_split_ands; go_simp <;> with_reducible rfl)
      try simp only [List.getElem_toArray, List.getElem_cons_succ, List.getElem_cons_zero, Act.put, List.setIfInBounds_toArray, List.set_cons_zero, List.set_cons_succ]
      refine wpAnyH_take (i := 26) (v := .bool true) rfl (by kernel_rfl) (by kernel_rfl) (by kernel_rfl) (fun _ _ _ h => h) (Or.inl ⟨by rfl, fun W hSW => ?_⟩) hHeld ?_
      · ((try dsimp only at hSW); go_split_ands; go_simp <;> with_reducible rfl)
      try simp only [List.getElem_toArray, List.getElem_cons_succ, List.getElem_cons_zero, Act.put, List.setIfInBounds_toArray, List.set_cons_zero, List.set_cons_succ]
      refine wpAnyH_done (by kernel_rfl) ?_ _
      obtain ⟨hBB4, xg4, t0, t1, t2, t3⟩ := hHeld
      go_wp2_with fail
      go_ret
      exact ⟨rfl, hBB4⟩
    ·
      go_region_held3 (fun W => Below w.heap.size w W ∧ w.heap.size < W.heap.size ∧ W.cell? ⟨w.heap.size, 0, none⟩ = some (.slice sa xs.length cap) ∧ W.cell? ⟨w.heap.size, 1, none⟩ = some (.int .i64 (a : Int)) ∧ W.cell? ⟨w.heap.size, 2, none⟩ = some (.int .i64 (b : Int)) ∧ W.cell? ⟨w.heap.size, 3, none⟩ = some (.int .i64 (c : Int)))
        (first | (try go_split_ands; first | (refine keep5 ?_ ?_ ?_ ?_ ?_ ?_ hbn <;> assumption) | (refine keep5d ?_ ?_ ?_ ?_ ?_ ?_ hbn <;> assumption) | (refine keepd ?_ ?_ ?_ ?_ ?_ ?_ <;> assumption)) | go_keep)
        (first
          | (go_at_call 20; try go_split_ands; refine (lq HLq HV HW HL HR (by first | assumption | exact below_drewN (by assumption) 1 | exact (And.left ‹Below w.heap.size w _ ∧ _›)) (by assumption) (by assumption) (hTz.on (by first | assumption | exact below_drewN (by assumption) 1 | exact (And.left ‹Below w.heap.size w _ ∧ _›)))).mono ?_; rintro e w' ⟨rfl, hbn⟩; first | rw [G1.out] | rw [G2.out] | rw [G3.out] | rw [G4.out] | rw [G5.out] | rw [G6.out])
          | (go_at_call 15; try go_split_ands; refine (awake5_any HBd.out HHt.out _ (hTz.on (by first | assumption | exact below_drewN (by assumption) 1 | exact (And.left ‹Below w.heap.size w _ ∧ _›)))).mono ?_; rintro e w' ⟨rfl, hbn⟩))
      rename_i hH2
      obtain ⟨hBB4, xg4, t0, t1, t2, t3⟩ := hH2
      go_wp2_with fail
      go_ret
      exact ⟨rfl, hBB4⟩
  ·
    go_region_held3 (fun W => Below w.heap.size w W ∧ w.heap.size < W.heap.size ∧ W.cell? ⟨w.heap.size, 0, none⟩ = some (.slice sa xs.length cap) ∧ W.cell? ⟨w.heap.size, 1, none⟩ = some (.int .i64 (a : Int)) ∧ W.cell? ⟨w.heap.size, 2, none⟩ = some (.int .i64 (b : Int)) ∧ W.cell? ⟨w.heap.size, 3, none⟩ = some (.int .i64 (c : Int)))
      (first | (try go_split_ands; first | (refine keep5 ?_ ?_ ?_ ?_ ?_ ?_ hbn <;> assumption) | (refine keep5d ?_ ?_ ?_ ?_ ?_ ?_ hbn <;> assumption) | (refine keepd ?_ ?_ ?_ ?_ ?_ ?_ <;> assumption)) | go_keep)
      (first
        | (go_at_call 20; try go_split_ands; refine (lq HLq HV HW HL HR (by first | assumption | exact below_drewN (by assumption) 1 | exact (And.left ‹Below w.heap.size w _ ∧ _›)) (by assumption) (by assumption) (hTz.on (by first | assumption | exact below_drewN (by assumption) 1 | exact (And.left ‹Below w.heap.size w _ ∧ _›)))).mono ?_; rintro e w' ⟨rfl, hbn⟩; first | rw [G1.out] | rw [G2.out] | rw [G3.out] | rw [G4.out] | rw [G5.out] | rw [G6.out]))
    rename_i hH1
    obtain ⟨hBB3, xg3, u0, u1, u2, u3⟩ := hH1
    clear hBB2 xg2 z0 z1 z2 z3
    go_wp2_with fail
    have e2 := G8.out
    clear G8
    cases ca
    all_goals (simp only [Bool.false_and, Bool.true_and] at e2; subst e2)
    ·
      refine wp_region_held_drew (S := (fun W => Below w.heap.size w W ∧ w.heap.size < W.heap.size ∧ W.cell? ⟨w.heap.size, 0, none⟩ = some (.slice sa xs.length cap) ∧ W.cell? ⟨w.heap.size, 1, none⟩ = some (.int .i64 (a : Int)) ∧ W.cell? ⟨w.heap.size, 2, none⟩ = some (.int .i64 (b : Int)) ∧ W.cell? ⟨w.heap.size, 3, none⟩ = some (.int .i64 (c : Int)))) (by kernel_rfl) ?_ (fun hHeld => ?_)
      · exact keepd hBB3 xg3 u0 u1 u2 u3
      refine wpAnyH_take (i := 0) (v := .pointer (some ⟨w.heap.size, 0, none⟩)) rfl (by kernel_rfl) (by kernel_rfl) (by kernel_rfl) (fun _ _ _ h => h) (Or.inl ⟨by rfl, fun W hSW => ?_⟩) hHeld ?_
      · ((try dsimp only at hSW); go_split_ands; go_simp <;> with_reducible rfl)
      try simp only [List.getElem_toArray, List.getElem_cons_succ, List.getElem_cons_zero, Act.put, List.setIfInBounds_toArray, List.set_cons_zero, List.set_cons_succ]
      refine wpAnyH_take (i := 1) (v := .slice sa xs.length cap) rfl (by kernel_rfl) (by kernel_rfl) (by kernel_rfl) (fun _ _ _ h => h) (Or.inl ⟨by rfl, fun W hSW => ?_⟩) hHeld ?_
      · ((try dsimp only at hSW); go_split_ands; go_simp <;> with_reducible rfl)
      try simp only [List.getElem_toArray, List.getElem_cons_succ, List.getElem_cons_zero, Act.put, List.setIfInBounds_toArray, List.set_cons_zero, List.set_cons_succ]
      refine wpAnyH_take (i := 2) (v := .pointer (some ⟨w.heap.size, 3, none⟩)) rfl (by kernel_rfl) (by kernel_rfl) (by kernel_rfl) (fun _ _ _ h => h) (Or.inl ⟨by rfl, fun W hSW => ?_⟩) hHeld ?_
      · ((try dsimp only at hSW); go_split_ands; go_simp <;> with_reducible rfl)
      try simp only [List.getElem_toArray, List.getElem_cons_succ, List.getElem_cons_zero, Act.put, List.setIfInBounds_toArray, List.set_cons_zero, List.set_cons_succ]
      refine wpAnyH_take (i := 3) (v := .int .i64 (c : Int)) rfl (by kernel_rfl) (by kernel_rfl) (by kernel_rfl) (fun _ _ _ h => h) (Or.inl ⟨by rfl, fun W hSW => ?_⟩) hHeld ?_
      · ((try dsimp only at hSW); go_split_ands; go_simp <;> with_reducible rfl)
      try simp only [List.getElem_toArray, List.getElem_cons_succ, List.getElem_cons_zero, Act.put, List.setIfInBounds_toArray, List.set_cons_zero, List.set_cons_succ]
      refine wpAnyH_take (i := 4) (v := .int .i64 (m : Int)) rfl (by kernel_rfl) (by kernel_rfl) (by kernel_rfl) (fun _ _ _ h => h) (Or.inl ⟨by rfl, fun W hSW => ?_⟩) hHeld ?_
      · ((try dsimp only at hSW); go_split_ands; go_simp <;> with_reducible rfl)
      try simp only [List.getElem_toArray, List.getElem_cons_succ, List.getElem_cons_zero, Act.put, List.setIfInBounds_toArray, List.set_cons_zero, List.set_cons_succ]
      refine wpAnyH_take (i := 6) (v := .pointer (some ⟨w.heap.size, 0, none⟩)) rfl (by kernel_rfl) (by kernel_rfl) (by kernel_rfl) (fun _ _ _ h => h) (Or.inl ⟨by rfl, fun W hSW => ?_⟩) hHeld ?_
      · ((try dsimp only at hSW); go_split_ands; go_simp <;> with_reducible rfl)
      try simp only [List.getElem_toArray, List.getElem_cons_succ, List.getElem_cons_zero, Act.put, List.setIfInBounds_toArray, List.set_cons_zero, List.set_cons_succ]
      refine wpAnyH_take (i := 7) (v := .slice sa xs.length cap) rfl (by kernel_rfl) (by kernel_rfl) (by kernel_rfl) (fun _ _ _ h => h) (Or.inl ⟨by rfl, fun W hSW => ?_⟩) hHeld ?_
      · ((try dsimp only at hSW); go_split_ands; go_simp <;> with_reducible rfl)
      try simp only [List.getElem_toArray, List.getElem_cons_succ, List.getElem_cons_zero, Act.put, List.setIfInBounds_toArray, List.set_cons_zero, List.set_cons_succ]
      refine wpAnyH_take (i := 8) (v := .pointer (some ⟨w.heap.size, 3, none⟩)) rfl (by kernel_rfl) (by kernel_rfl) (by kernel_rfl) (fun _ _ _ h => h) (Or.inl ⟨by rfl, fun W hSW => ?_⟩) hHeld ?_
      · ((try dsimp only at hSW); go_split_ands; go_simp <;> with_reducible rfl)
      try simp only [List.getElem_toArray, List.getElem_cons_succ, List.getElem_cons_zero, Act.put, List.setIfInBounds_toArray, List.set_cons_zero, List.set_cons_succ]
      refine wpAnyH_take (i := 9) (v := .int .i64 (c : Int)) rfl (by kernel_rfl) (by kernel_rfl) (by kernel_rfl) (fun _ _ _ h => h) (Or.inl ⟨by rfl, fun W hSW => ?_⟩) hHeld ?_
      · ((try dsimp only at hSW); go_split_ands; go_simp <;> with_reducible rfl)
      try simp only [List.getElem_toArray, List.getElem_cons_succ, List.getElem_cons_zero, Act.put, List.setIfInBounds_toArray, List.set_cons_zero, List.set_cons_succ]
      refine wpAnyH_take (i := 10) (v := .pointer (some ⟨w.heap.size, 1, none⟩)) rfl (by kernel_rfl) (by kernel_rfl) (by kernel_rfl) (fun _ _ _ h => h) (Or.inl ⟨by rfl, fun W hSW => ?_⟩) hHeld ?_
      · ((try dsimp only at hSW); go_split_ands; go_simp <;> with_reducible rfl)
      try simp only [List.getElem_toArray, List.getElem_cons_succ, List.getElem_cons_zero, Act.put, List.setIfInBounds_toArray, List.set_cons_zero, List.set_cons_succ]
      refine wpAnyH_take (i := 11) (v := .int .i64 (a : Int)) rfl (by kernel_rfl) (by kernel_rfl) (by kernel_rfl) (fun _ _ _ h => h) (Or.inl ⟨by rfl, fun W hSW => ?_⟩) hHeld ?_
      · ((try dsimp only at hSW); go_split_ands; go_simp <;> with_reducible rfl)
      try simp only [List.getElem_toArray, List.getElem_cons_succ, List.getElem_cons_zero, Act.put, List.setIfInBounds_toArray, List.set_cons_zero, List.set_cons_succ]
      refine wpAnyH_ready (rs := [5]) (by kernel_rfl) (by simp) ?_
      refine AllReadyH.cons rfl (fun K hK => ?_) AllReadyH.nil
      try simp only [List.getElem_toArray, List.getElem_cons_succ, List.getElem_cons_zero]
      go_simp
      (go_at_call 20; try go_split_ands; refine (lq HLq HV HW HL HR (by first | assumption | exact below_drewN (by assumption) 1 | exact (And.left ‹Below w.heap.size w _ ∧ _›)) (by assumption) (by assumption) (hTz.on (by first | assumption | exact below_drewN (by assumption) 1 | exact (And.left ‹Below w.heap.size w _ ∧ _›)))).mono ?_; rintro e w' ⟨rfl, hbn⟩; first | rw [G1.out] | rw [G2.out] | rw [G3.out] | rw [G4.out] | rw [G5.out] | rw [G6.out])
      try go_wp2_with fail
      refine hK.out _ _ ?_ (fun hHeld => ?_)
      · ((try dsimp only); (first | (try go_split_ands; first | (refine keep5 ?_ ?_ ?_ ?_ ?_ ?_ hbn <;> assumption) | (refine keep5d ?_ ?_ ?_ ?_ ?_ ?_ hbn <;> assumption) | (refine keepd ?_ ?_ ?_ ?_ ?_ ?_ <;> assumption)) | go_keep))
      clear hK K
      try simp only [List.getElem_toArray, List.getElem_cons_succ, List.getElem_cons_zero, Act.put, List.setIfInBounds_toArray, List.set_cons_zero, List.set_cons_succ]
      refine wpAnyH_ready (rs := [12]) (by kernel_rfl) (by simp) ?_
      refine AllReadyH.cons rfl (fun K hK => ?_) AllReadyH.nil
      try simp only [List.getElem_toArray, List.getElem_cons_succ, List.getElem_cons_zero]
      go_simp
      (go_at_call 20; try go_split_ands; refine (lq HLq HV HW HL HR (by first | assumption | exact below_drewN (by assumption) 1 | exact (And.left ‹Below w.heap.size w _ ∧ _›)) (by assumption) (by assumption) (hTz.on (by first | assumption | exact below_drewN (by assumption) 1 | exact (And.left ‹Below w.heap.size w _ ∧ _›)))).mono ?_; rintro e w' ⟨rfl, hbn⟩; first | rw [G1.out] | rw [G2.out] | rw [G3.out] | rw [G4.out] | rw [G5.out] | rw [G6.out])
      try go_wp2_with fail
      refine hK.out _ _ ?_ (fun hHeld => ?_)
      · ((try dsimp only); (first | (try go_split_ands; first | (refine keep5 ?_ ?_ ?_ ?_ ?_ ?_ hbn <;> assumption) | (refine keep5d ?_ ?_ ?_ ?_ ?_ ?_ hbn <;> assumption) | (refine keepd ?_ ?_ ?_ ?_ ?_ ?_ <;> assumption)) | go_keep))
      clear hK K
      try simp only [List.getElem_toArray, List.getElem_cons_succ, List.getElem_cons_zero, Act.put, List.setIfInBounds_toArray, List.set_cons_zero, List.set_cons_succ]
      refine wpAnyH_take (i := 13) (v := .bool false) rfl (by kernel_rfl) (by kernel_rfl) (by kernel_rfl) (fun _ _ _ h => h) (Or.inl ⟨by rfl, fun W hSW => ?_⟩) hHeld ?_
      · ((try dsimp only at hSW); go_split_ands; go_simp <;> with_reducible rfl)
      try simp only [List.getElem_toArray, List.getElem_cons_succ, List.getElem_cons_zero, Act.put, List.setIfInBounds_toArray, List.set_cons_zero, List.set_cons_succ]
      refine wpAnyH_take (i := 14) (v := undef) rfl (by kernel_rfl) (by kernel_rfl) (by kernel_rfl) (fun _ _ _ h => h) (Or.inr ⟨by rfl, rfl⟩) hHeld ?_
      try simp only [List.getElem_toArray, List.getElem_cons_succ, List.getElem_cons_zero, Act.put, List.setIfInBounds_toArray, List.set_cons_zero, List.set_cons_succ]
      refine wpAnyH_take (i := 15) (v := undef) rfl (by kernel_rfl) (by kernel_rfl) (by kernel_rfl) (fun _ _ _ h => h) (Or.inr ⟨by rfl, rfl⟩) hHeld ?_
      try simp only [List.getElem_toArray, List.getElem_cons_succ, List.getElem_cons_zero, Act.put, List.setIfInBounds_toArray, List.set_cons_zero, List.set_cons_succ]
      refine wpAnyH_take (i := 16) (v := undef) rfl (by kernel_rfl) (by kernel_rfl) (by kernel_rfl) (fun _ _ _ h => h) (Or.inr ⟨by rfl, rfl⟩) hHeld ?_
      try simp only [List.getElem_toArray, List.getElem_cons_succ, List.getElem_cons_zero, Act.put, List.setIfInBounds_toArray, List.set_cons_zero, List.set_cons_succ]
      refine wpAnyH_take (i := 17) (v := undef) rfl (by kernel_rfl) (by kernel_rfl) (by kernel_rfl) (fun _ _ _ h => h) (Or.inr ⟨by rfl, rfl⟩) hHeld ?_
      try simp only [List.getElem_toArray, List.getElem_cons_succ, List.getElem_cons_zero, Act.put, List.setIfInBounds_toArray, List.set_cons_zero, List.set_cons_succ]
      refine wpAnyH_take (i := 18) (v := undef) rfl (by kernel_rfl) (by kernel_rfl) (by kernel_rfl) (fun _ _ _ h => h) (Or.inr ⟨by rfl, rfl⟩) hHeld ?_
      try simp only [List.getElem_toArray, List.getElem_cons_succ, List.getElem_cons_zero, Act.put, List.setIfInBounds_toArray, List.set_cons_zero, List.set_cons_succ]
      refine wpAnyH_take (i := 19) (v := undef) rfl (by kernel_rfl) (by kernel_rfl) (by kernel_rfl) (fun _ _ _ h => h) (Or.inr ⟨by rfl, rfl⟩) hHeld ?_
      try simp only [List.getElem_toArray, List.getElem_cons_succ, List.getElem_cons_zero, Act.put, List.setIfInBounds_toArray, List.set_cons_zero, List.set_cons_succ]
      refine wpAnyH_take (i := 20) (v := undef) rfl (by kernel_rfl) (by kernel_rfl) (by kernel_rfl) (fun _ _ _ h => h) (Or.inr ⟨by rfl, rfl⟩) hHeld ?_
      try simp only [List.getElem_toArray, List.getElem_cons_succ, List.getElem_cons_zero, Act.put, List.setIfInBounds_toArray, List.set_cons_zero, List.set_cons_succ]
      refine wpAnyH_take (i := 21) (v := .bool false) rfl (by kernel_rfl) (by kernel_rfl) (by kernel_rfl) (fun _ _ _ h => h) (Or.inl ⟨by rfl, fun W hSW => ?_⟩) hHeld ?_
      · ((try dsimp only at hSW); go_split_ands; go_simp <;> with_reducible rfl)
      try simp only [List.getElem_toArray, List.getElem_cons_succ, List.getElem_cons_zero, Act.put, List.setIfInBounds_toArray, List.set_cons_zero, List.set_cons_succ]
      refine wpAnyH_take (i := 22) (v := .bool true) rfl (by kernel_rfl) (by kernel_rfl) (by kernel_rfl) (fun _ _ _ h => h) (Or.inl ⟨by rfl, fun W hSW => ?_⟩) hHeld ?_
      · ((try dsimp only at hSW); go_split_ands; go_simp <;> with_reducible rfl)
      try simp only [List.getElem_toArray, List.getElem_cons_succ, List.getElem_cons_zero, Act.put, List.setIfInBounds_toArray, List.set_cons_zero, List.set_cons_succ]
      refine wpAnyH_take (i := 23) (v := .bool true) rfl (by kernel_rfl) (by kernel_rfl) (by kernel_rfl) (fun _ _ _ h => h) (Or.inl ⟨by rfl, fun W hSW => ?_⟩) hHeld ?_
      · ((try dsimp only at hSW); go_split_ands; go_simp <;> with_reducible rfl)
      try simp only [List.getElem_toArray, List.getElem_cons_succ, List.getElem_cons_zero, Act.put, List.setIfInBounds_toArray, List.set_cons_zero, List.set_cons_succ]
      refine wpAnyH_ready (rs := [24]) (by kernel_rfl) (by simp) ?_
      refine AllReadyH.cons rfl (fun K hK => ?_) AllReadyH.nil
      try simp only [List.getElem_toArray, List.getElem_cons_succ, List.getElem_cons_zero]
      go_simp
      (go_at_call 15; try go_split_ands; refine (awake5_any HBd.out HHt.out _ (hTz.on (by first | assumption | exact below_drewN (by assumption) 1 | exact (And.left ‹Below w.heap.size w _ ∧ _›)))).mono ?_; rintro e w' ⟨rfl, hbn⟩)
      try go_wp2_with fail
      refine hK.out _ _ ?_ (fun hHeld => ?_)
      · ((try dsimp only); (first | (try go_split_ands; first | (refine keep5 ?_ ?_ ?_ ?_ ?_ ?_ hbn <;> assumption) | (refine keep5d ?_ ?_ ?_ ?_ ?_ ?_ hbn <;> assumption) | (refine keepd ?_ ?_ ?_ ?_ ?_ ?_ <;> assumption)) | go_keep))
      clear hK K
      try simp only [List.getElem_toArray, List.getElem_cons_succ, List.getElem_cons_zero, Act.put, List.setIfInBounds_toArray, List.set_cons_zero, List.set_cons_succ]
      refine wpAnyH_take (i := 25) (v := .bool true) rfl (by kernel_rfl) (by kernel_rfl) (by kernel_rfl) (fun _ _ _ h => h) (Or.inl ⟨by rfl, fun W hSW => ?_⟩) hHeld ?_
      · ((try dsimp only at hSW); go_split_ands; go_simp <;> with_reducible rfl)
      try simp only [List.getElem_toArray, List.getElem_cons_succ, List.getElem_cons_zero, Act.put, List.setIfInBounds_toArray, List.set_cons_zero, List.set_cons_succ]
      refine wpAnyH_take (i := 26) (v := .bool true) rfl (by kernel_rfl) (by kernel_rfl) (by kernel_rfl) (fun _ _ _ h => h) (Or.inl ⟨by rfl, fun W hSW => ?_⟩) hHeld ?_
      · ((try dsimp only at hSW); go_split_ands; go_simp <;> with_reducible rfl)
      try simp only [List.getElem_toArray, List.getElem_cons_succ, List.getElem_cons_zero, Act.put, List.setIfInBounds_toArray, List.set_cons_zero, List.set_cons_succ]
      refine wpAnyH_done (by kernel_rfl) ?_ _
      obtain ⟨hBB4, xg4, t0, t1, t2, t3⟩ := hHeld
      go_wp2_with fail
      go_ret
      exact ⟨rfl, hBB4⟩
    ·
      go_region_held3 (fun W => Below w.heap.size w W ∧ w.heap.size < W.heap.size ∧ W.cell? ⟨w.heap.size, 0, none⟩ = some (.slice sa xs.length cap) ∧ W.cell? ⟨w.heap.size, 1, none⟩ = some (.int .i64 (a : Int)) ∧ W.cell? ⟨w.heap.size, 2, none⟩ = some (.int .i64 (b : Int)) ∧ W.cell? ⟨w.heap.size, 3, none⟩ = some (.int .i64 (c : Int)))
        (first | (try go_split_ands; first | (refine keep5 ?_ ?_ ?_ ?_ ?_ ?_ hbn <;> assumption) | (refine keep5d ?_ ?_ ?_ ?_ ?_ ?_ hbn <;> assumption) | (refine keepd ?_ ?_ ?_ ?_ ?_ ?_ <;> assumption)) | go_keep)
        (first
          | (go_at_call 20; try go_split_ands; refine (lq HLq HV HW HL HR (by first | assumption | exact below_drewN (by assumption) 1 | exact (And.left ‹Below w.heap.size w _ ∧ _›)) (by assumption) (by assumption) (hTz.on (by first | assumption | exact below_drewN (by assumption) 1 | exact (And.left ‹Below w.heap.size w _ ∧ _›)))).mono ?_; rintro e w' ⟨rfl, hbn⟩; first | rw [G1.out] | rw [G2.out] | rw [G3.out] | rw [G4.out] | rw [G5.out] | rw [G6.out])
          | (go_at_call 15; try go_split_ands; refine (awake5_any HBd.out HHt.out _ (hTz.on (by first | assumption | exact below_drewN (by assumption) 1 | exact (And.left ‹Below w.heap.size w _ ∧ _›)))).mono ?_; rintro e w' ⟨rfl, hbn⟩))
      rename_i hH2
      obtain ⟨hBB4, xg4, t0, t1, t2, t3⟩ := hH2
      go_wp2_with fail
      go_ret
      exact ⟨rfl, hBB4⟩

theorem latticeBounds_walk (hB : BuildC) (hH : HeightC) (hR : RightC) (hJ : JoinC) (hM : MeetC) (hQ : LeqC) (v : Value) (xs : List Int) (A B C : Int) (w : World) (hTz : Tz w) (hv : Nums .u64 w.heap.size w v xs) (hw : Wide xs) (hl : xs.length ≤ big5) :
    Calls Tryd.prog 9 #[.agg #[v, .int .i64 A, .int .i64 B, .int .i64 C]] w fun e w' => e = .returned (.bool true) ∧ Below w.heap.size w w' := by
  cases hr : LL.rightB xs
  · exact bounds_no hB hH hR v xs A B C w hTz hv hw hl hr
  cases n0 : decide (A < 0)
  · cases n1 : decide (B < 0)
    · cases n2 : decide (C < 0)
      · cases n3 : decide ((xs.length : Int) ≤ A)
        · cases n4 : decide ((xs.length : Int) ≤ B)
          · cases n5 : decide ((xs.length : Int) ≤ C)
            · rw [decide_eq_false_iff_not] at n0 n1 n2 n3 n4 n5
              obtain ⟨a, rfl⟩ : ∃ a : Nat, A = a := ⟨A.toNat, by omega⟩
              obtain ⟨b, rfl⟩ : ∃ b : Nat, B = b := ⟨B.toNat, by omega⟩
              obtain ⟨c, rfl⟩ : ∃ c : Nat, C = c := ⟨C.toNat, by omega⟩
              exact bounds_in hB hH hR hJ hM hQ v xs a b c w hTz hv hw hl hr (by omega) (by omega) (by omega)
            · exact bounds_out5 hB hH hR v xs A B C w hTz hv hw hl hr n0 n1 n2 n3 n4 n5
          · exact bounds_out4 hB hH hR v xs A B C w hTz hv hw hl hr n0 n1 n2 n3 n4
        · exact bounds_out3 hB hH hR v xs A B C w hTz hv hw hl hr n0 n1 n2 n3
      · exact bounds_out2 hB hH hR v xs A B C w hTz hv hw hl hr n0 n1 n2
    · exact bounds_out1 hB hH hR v xs A B C w hTz hv hw hl hr n0 n1
  · exact bounds_out0 hB hH hR v xs A B C w hTz hv hw hl hr n0
end Go.Proofs.YtaaicmldldkhhaaDoor

