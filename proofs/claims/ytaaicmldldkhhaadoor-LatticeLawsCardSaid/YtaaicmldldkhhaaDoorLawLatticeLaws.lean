import Derived.Test.YtaaicmldldkhhaaDoorLatT
import Derived.Deep.QuietTactic
import Derived.BigQuiet
set_option linter.unusedSimpArgs false
set_option linter.unusedVariables false
/-! LatticeLaws: the walk -/
namespace Go.Proofs.YtaaicmldldkhhaaDoor
open Go.RowKit

set_option maxRecDepth 100000 in
set_option maxHeartbeats 3200000 in
theorem laws_in (hB : BuildC) (hH : HeightC) (hR : RightC) (hJ : JoinC) (hM : MeetC) (hQ : LeqC) (v : Value) (xs : List Int) (a b c : Nat) (w : World) (hTz : Tz w) (hv : Nums .u64 w.heap.size w v xs) (hw : Wide xs) (hl : xs.length ≤ big5)
    (hr : LL.rightB xs = true) (ha : a < xs.length) (hb : b < xs.length) (hc : c < xs.length) :
    Calls Tryd.prog 8 #[.agg #[v, .int .i64 a, .int .i64 b, .int .i64 c]] w fun e w' => e = .returned (.bool true) ∧ Below w.heap.size w w' := by
  have HBd := Lib.hid hB
  have HHt := Lib.hid hH
  have HRt := Lib.hid hR
  have HJn := Lib.hid hJ
  have HMt := Lib.hid hM
  have HLq := Lib.hid hQ
  have HV := Lib.hid hv
  have HW := Lib.hid hw
  have HL := Lib.hid hl
  have HR := Lib.hid hr
  have hjx := (LL.joinN_is hr ha hb).1.1
  have hmx := (LL.meetN_is hr ha hb).1.1
  have hbcx := (LL.joinN_is hr hb hc).1.1
  have hmbx := (LL.meetN_is hr hb hc).1.1
  have E1 := Lib.hid (LL.join_comm hr hb ha)
  have E2 := Lib.hid (LL.meet_comm hr hb ha)
  have E3 := Lib.hid (LL.join_assoc hr hw ha hb hc)
  have E4 := Lib.hid (LL.meet_assoc hr hw ha hb hc)
  have E5 := Lib.hid (LL.meet_absorb hr ha hb)
  have E6 := Lib.hid (LL.join_absorb hr ha hb)
  have q1 := LL.join_leq hr ha hb
  have q2 := LL.meet_leq hr ha hb
  have L1 := Lib.hid (LL.joinN_is hr ha hb).1.2.1
  have L2 := Lib.hid (LL.meetN_is hr ha hb).1.2.2.1
  obtain ⟨l, hlq⟩ : ∃ l : Bool, LL.ab xs a b = l := ⟨_, rfl⟩
  have HLe := Lib.hid hlq
  rw [hlq] at q1 q2
  generalize hj : LL.joinN xs a b = j at hjx E1 E3 E5 q1 L1
  generalize hm : LL.meetN xs a b = m at hmx E2 E4 E6 q2 L2
  generalize hbc : LL.joinN xs b c = bc at hbcx E3
  generalize hmb : LL.meetN xs b c = mb at hmbx E4
  have F1 := Lib.hid hj
  have F2 := Lib.hid hm
  have F3 := Lib.hid hbc
  have F4 := Lib.hid hmb
  obtain ⟨jc, hjc⟩ : ∃ k, LL.joinN xs j c = k := ⟨_, rfl⟩
  obtain ⟨mc, hmc⟩ : ∃ k, LL.meetN xs m c = k := ⟨_, rfl⟩
  have F5 := Lib.hid hjc
  have F6 := Lib.hid hmc
  have E3' := Lib.hid (E3.out.symm.trans hjc)
  have E4' := Lib.hid (E4.out.symm.trans hmc)
  obtain ⟨sa, cap, rfl⟩ := hv.form
  have na : decide ((a : Int) < 0) = false := decide_eq_false (by omega)
  have nb : decide ((b : Int) < 0) = false := decide_eq_false (by omega)
  have nc : decide ((c : Int) < 0) = false := decide_eq_false (by omega)
  have ga : decide ((xs.length : Int) ≤ (a : Int)) = false := decide_eq_false (by omega)
  have gb : decide ((xs.length : Int) ≤ (b : Int)) = false := decide_eq_false (by omega)
  have gc : decide ((xs.length : Int) ≤ (c : Int)) = false := decide_eq_false (by omega)
  have ga' : decide (xs.length ≤ a) = false := decide_eq_false (by omega)
  have gb' : decide (xs.length ≤ b) = false := decide_eq_false (by omega)
  have gc' : decide (xs.length ≤ c) = false := decide_eq_false (by omega)
  clear hB hH hR hJ hM hQ hv hw hl hr hj hm hbc hmb hjc hmc hlq E3 E4
  go_enter Tryd.func8, Tryd.ntmps8
  go_wp2_with fail
  go_quiet (fail)
  have HBB := Lib.hid (show Below w.heap.size w ((w.alloc (.cells #[.slice sa xs.length cap, .int .i64 a, .int .i64 b, .int .i64 c] 42)).drewN nq) from below_drewN ((Below.refl _ _).alloc (Nat.le_refl _) _) nq)
  go_wp2_with (first
    | (go_at_call 16
       refine (HRt.out _ xs w.heap.size _ (HV.out.below HBB.out) HBB.out.size HW.out HL.out (by first | exact hTz | exact hTz.on (by assumption) | exact hTz.on HBB.out | exact hTz.alloc _ | exact (hTz.on (by assumption)).alloc _ | exact (hTz.on HBB.out).alloc _ | exact (hTz.alloc _).alloc _ | exact ((hTz.on (by assumption)).alloc _).alloc _)).mono ?_
       rintro e w' ⟨rfl, hbn⟩
       have HB2 := Lib.hid (bstep HBB.out hbn)
       clear HBB hbn
       have HBB := HB2
       clear HB2
       rw [HR.out])
    | (go_at_call 18
       refine (jn HJn HV HW HL HR HBB.out (by assumption) (by assumption) (by first | exact hTz | exact hTz.on (by assumption) | exact hTz.on HBB.out | exact hTz.alloc _ | exact (hTz.on (by assumption)).alloc _ | exact (hTz.on HBB.out).alloc _ | exact (hTz.alloc _).alloc _ | exact ((hTz.on (by assumption)).alloc _).alloc _)).mono ?_
       rintro e w' ⟨rfl, hbn⟩
       have HB2 := Lib.hid (bstep HBB.out hbn)
       clear HBB hbn
       have HBB := HB2
       clear HB2
       first | rw [F1.out] | rw [E1.out] | rw [F5.out] | rw [F3.out] | rw [E3'.out] | rw [E6.out])
    | (go_at_call 19
       refine (mn HMt HV HW HL HR HBB.out (by assumption) (by assumption) (by first | exact hTz | exact hTz.on (by assumption) | exact hTz.on HBB.out | exact hTz.alloc _ | exact (hTz.on (by assumption)).alloc _ | exact (hTz.on HBB.out).alloc _ | exact (hTz.alloc _).alloc _ | exact ((hTz.on (by assumption)).alloc _).alloc _)).mono ?_
       rintro e w' ⟨rfl, hbn⟩
       have HB2 := Lib.hid (bstep HBB.out hbn)
       clear HBB hbn
       have HBB := HB2
       clear HB2
       first | rw [F2.out] | rw [E2.out] | rw [F6.out] | rw [F4.out] | rw [E4'.out] | rw [E5.out])
    | (go_at_call 20
       refine (lq HLq HV HW HL HR HBB.out (by assumption) (by assumption) (by first | exact hTz | exact hTz.on (by assumption) | exact hTz.on HBB.out | exact hTz.alloc _ | exact (hTz.on (by assumption)).alloc _ | exact (hTz.on HBB.out).alloc _ | exact (hTz.alloc _).alloc _ | exact ((hTz.on (by assumption)).alloc _).alloc _)).mono ?_
       rintro e w' ⟨rfl, hbn⟩
       have HB2 := Lib.hid (bstep HBB.out hbn)
       clear HBB hbn
       have HBB := HB2
       clear HB2
       first | rw [HLe.out] | rw [L1.out] | rw [L2.out])
    | (go_at_call 32
       refine (told_yes _ _).mono ?_
       rintro e w' ⟨rfl, rfl⟩)
    | (go_at_call 15
       refine (awake5_any HBd.out HHt.out _ (by first | exact hTz | exact hTz.on (by assumption) | exact hTz.on HBB.out | exact hTz.alloc _ | exact (hTz.on (by assumption)).alloc _ | exact (hTz.on HBB.out).alloc _ | exact (hTz.alloc _).alloc _ | exact ((hTz.on (by assumption)).alloc _).alloc _)).mono ?_
       rintro e w' ⟨rfl, hbn⟩
       have HB2 := Lib.hid (bstep HBB.out hbn)
       clear HBB hbn
       have HBB := HB2
       clear HB2))
  go_ret
  exact ⟨rfl, HBB.out⟩

set_option maxRecDepth 100000 in
set_option maxHeartbeats 800000 in
theorem laws_no (hB : BuildC) (hH : HeightC) (hR : RightC) (v : Value) (xs : List Int) (A B C : Int) (w : World) (hTz : Tz w) (hv : Nums .u64 w.heap.size w v xs) (hw : Wide xs) (hl : xs.length ≤ big5)
    (hr : LL.rightB xs = false)  :
    Calls Tryd.prog 8 #[.agg #[v, .int .i64 A, .int .i64 B, .int .i64 C]] w fun e w' => e = .returned (.bool true) ∧ Below w.heap.size w w' := by
  have HBd := Lib.hid hB
  have HHt := Lib.hid hH
  have HRt := Lib.hid hR
  have HV := Lib.hid hv
  have HW := Lib.hid hw
  have HL := Lib.hid hl
  have HR := Lib.hid hr
  obtain ⟨sa, cap, rfl⟩ := hv.form
  clear hB hH hR hv hw hl hr
  go_enter Tryd.func8, Tryd.ntmps8
  go_wp2_with fail
  go_quiet (fail)
  have HBB := Lib.hid (show Below w.heap.size w ((w.alloc (.cells #[.slice sa xs.length cap, .int .i64 A, .int .i64 B, .int .i64 C] 42)).drewN nq) from below_drewN ((Below.refl _ _).alloc (Nat.le_refl _) _) nq)
  go_wp2_with (first
    | (go_at_call 16
       refine (HRt.out _ xs w.heap.size _ (HV.out.below HBB.out) HBB.out.size HW.out HL.out (by first | exact hTz | exact hTz.on (by assumption) | exact hTz.on HBB.out | exact hTz.alloc _ | exact (hTz.on (by assumption)).alloc _ | exact (hTz.on HBB.out).alloc _ | exact (hTz.alloc _).alloc _ | exact ((hTz.on (by assumption)).alloc _).alloc _)).mono ?_
       rintro e w' ⟨rfl, hbn⟩
       have HB2 := Lib.hid (bstep HBB.out hbn)
       clear HBB hbn
       have HBB := HB2
       clear HB2
       rw [HR.out])
    | (go_at_call 15
       refine (awake5_any HBd.out HHt.out _ (by first | exact hTz | exact hTz.on (by assumption) | exact hTz.on HBB.out | exact hTz.alloc _ | exact (hTz.on (by assumption)).alloc _ | exact (hTz.on HBB.out).alloc _ | exact (hTz.alloc _).alloc _ | exact ((hTz.on (by assumption)).alloc _).alloc _)).mono ?_
       rintro e w' ⟨rfl, hbn⟩
       have HB2 := Lib.hid (bstep HBB.out hbn)
       clear HBB hbn
       have HBB := HB2
       clear HB2))
  go_ret
  exact ⟨rfl, HBB.out⟩

set_option maxRecDepth 100000 in
set_option maxHeartbeats 800000 in
theorem laws_out0 (hB : BuildC) (hH : HeightC) (hR : RightC) (v : Value) (xs : List Int) (A B C : Int) (w : World) (hTz : Tz w) (hv : Nums .u64 w.heap.size w v xs) (hw : Wide xs) (hl : xs.length ≤ big5)
    (hr : LL.rightB xs = true) (n0 : decide (A < 0) = true) :
    Calls Tryd.prog 8 #[.agg #[v, .int .i64 A, .int .i64 B, .int .i64 C]] w fun e w' => e = .returned (.bool true) ∧ Below w.heap.size w w' := by
  have HBd := Lib.hid hB
  have HHt := Lib.hid hH
  have HRt := Lib.hid hR
  have HV := Lib.hid hv
  have HW := Lib.hid hw
  have HL := Lib.hid hl
  have HR := Lib.hid hr
  obtain ⟨sa, cap, rfl⟩ := hv.form
  clear hB hH hR hv hw hl hr
  go_enter Tryd.func8, Tryd.ntmps8
  go_wp2_with fail
  go_quiet (fail)
  have HBB := Lib.hid (show Below w.heap.size w ((w.alloc (.cells #[.slice sa xs.length cap, .int .i64 A, .int .i64 B, .int .i64 C] 42)).drewN nq) from below_drewN ((Below.refl _ _).alloc (Nat.le_refl _) _) nq)
  go_wp2_with (first
    | (go_at_call 16
       refine (HRt.out _ xs w.heap.size _ (HV.out.below HBB.out) HBB.out.size HW.out HL.out (by first | exact hTz | exact hTz.on (by assumption) | exact hTz.on HBB.out | exact hTz.alloc _ | exact (hTz.on (by assumption)).alloc _ | exact (hTz.on HBB.out).alloc _ | exact (hTz.alloc _).alloc _ | exact ((hTz.on (by assumption)).alloc _).alloc _)).mono ?_
       rintro e w' ⟨rfl, hbn⟩
       have HB2 := Lib.hid (bstep HBB.out hbn)
       clear HBB hbn
       have HBB := HB2
       clear HB2
       rw [HR.out])
    | (go_at_call 15
       refine (awake5_any HBd.out HHt.out _ (by first | exact hTz | exact hTz.on (by assumption) | exact hTz.on HBB.out | exact hTz.alloc _ | exact (hTz.on (by assumption)).alloc _ | exact (hTz.on HBB.out).alloc _ | exact (hTz.alloc _).alloc _ | exact ((hTz.on (by assumption)).alloc _).alloc _)).mono ?_
       rintro e w' ⟨rfl, hbn⟩
       have HB2 := Lib.hid (bstep HBB.out hbn)
       clear HBB hbn
       have HBB := HB2
       clear HB2))
  go_ret
  exact ⟨rfl, HBB.out⟩

set_option maxRecDepth 100000 in
set_option maxHeartbeats 800000 in
theorem laws_out1 (hB : BuildC) (hH : HeightC) (hR : RightC) (v : Value) (xs : List Int) (A B C : Int) (w : World) (hTz : Tz w) (hv : Nums .u64 w.heap.size w v xs) (hw : Wide xs) (hl : xs.length ≤ big5)
    (hr : LL.rightB xs = true) (n0 : decide (A < 0) = false) (n1 : decide (B < 0) = true) :
    Calls Tryd.prog 8 #[.agg #[v, .int .i64 A, .int .i64 B, .int .i64 C]] w fun e w' => e = .returned (.bool true) ∧ Below w.heap.size w w' := by
  have HBd := Lib.hid hB
  have HHt := Lib.hid hH
  have HRt := Lib.hid hR
  have HV := Lib.hid hv
  have HW := Lib.hid hw
  have HL := Lib.hid hl
  have HR := Lib.hid hr
  obtain ⟨sa, cap, rfl⟩ := hv.form
  clear hB hH hR hv hw hl hr
  go_enter Tryd.func8, Tryd.ntmps8
  go_wp2_with fail
  go_quiet (fail)
  have HBB := Lib.hid (show Below w.heap.size w ((w.alloc (.cells #[.slice sa xs.length cap, .int .i64 A, .int .i64 B, .int .i64 C] 42)).drewN nq) from below_drewN ((Below.refl _ _).alloc (Nat.le_refl _) _) nq)
  go_wp2_with (first
    | (go_at_call 16
       refine (HRt.out _ xs w.heap.size _ (HV.out.below HBB.out) HBB.out.size HW.out HL.out (by first | exact hTz | exact hTz.on (by assumption) | exact hTz.on HBB.out | exact hTz.alloc _ | exact (hTz.on (by assumption)).alloc _ | exact (hTz.on HBB.out).alloc _ | exact (hTz.alloc _).alloc _ | exact ((hTz.on (by assumption)).alloc _).alloc _)).mono ?_
       rintro e w' ⟨rfl, hbn⟩
       have HB2 := Lib.hid (bstep HBB.out hbn)
       clear HBB hbn
       have HBB := HB2
       clear HB2
       rw [HR.out])
    | (go_at_call 15
       refine (awake5_any HBd.out HHt.out _ (by first | exact hTz | exact hTz.on (by assumption) | exact hTz.on HBB.out | exact hTz.alloc _ | exact (hTz.on (by assumption)).alloc _ | exact (hTz.on HBB.out).alloc _ | exact (hTz.alloc _).alloc _ | exact ((hTz.on (by assumption)).alloc _).alloc _)).mono ?_
       rintro e w' ⟨rfl, hbn⟩
       have HB2 := Lib.hid (bstep HBB.out hbn)
       clear HBB hbn
       have HBB := HB2
       clear HB2))
  go_ret
  exact ⟨rfl, HBB.out⟩

set_option maxRecDepth 100000 in
set_option maxHeartbeats 800000 in
theorem laws_out2 (hB : BuildC) (hH : HeightC) (hR : RightC) (v : Value) (xs : List Int) (A B C : Int) (w : World) (hTz : Tz w) (hv : Nums .u64 w.heap.size w v xs) (hw : Wide xs) (hl : xs.length ≤ big5)
    (hr : LL.rightB xs = true) (n0 : decide (A < 0) = false) (n1 : decide (B < 0) = false) (n2 : decide (C < 0) = true) :
    Calls Tryd.prog 8 #[.agg #[v, .int .i64 A, .int .i64 B, .int .i64 C]] w fun e w' => e = .returned (.bool true) ∧ Below w.heap.size w w' := by
  have HBd := Lib.hid hB
  have HHt := Lib.hid hH
  have HRt := Lib.hid hR
  have HV := Lib.hid hv
  have HW := Lib.hid hw
  have HL := Lib.hid hl
  have HR := Lib.hid hr
  obtain ⟨sa, cap, rfl⟩ := hv.form
  clear hB hH hR hv hw hl hr
  go_enter Tryd.func8, Tryd.ntmps8
  go_wp2_with fail
  go_quiet (fail)
  have HBB := Lib.hid (show Below w.heap.size w ((w.alloc (.cells #[.slice sa xs.length cap, .int .i64 A, .int .i64 B, .int .i64 C] 42)).drewN nq) from below_drewN ((Below.refl _ _).alloc (Nat.le_refl _) _) nq)
  go_wp2_with (first
    | (go_at_call 16
       refine (HRt.out _ xs w.heap.size _ (HV.out.below HBB.out) HBB.out.size HW.out HL.out (by first | exact hTz | exact hTz.on (by assumption) | exact hTz.on HBB.out | exact hTz.alloc _ | exact (hTz.on (by assumption)).alloc _ | exact (hTz.on HBB.out).alloc _ | exact (hTz.alloc _).alloc _ | exact ((hTz.on (by assumption)).alloc _).alloc _)).mono ?_
       rintro e w' ⟨rfl, hbn⟩
       have HB2 := Lib.hid (bstep HBB.out hbn)
       clear HBB hbn
       have HBB := HB2
       clear HB2
       rw [HR.out])
    | (go_at_call 15
       refine (awake5_any HBd.out HHt.out _ (by first | exact hTz | exact hTz.on (by assumption) | exact hTz.on HBB.out | exact hTz.alloc _ | exact (hTz.on (by assumption)).alloc _ | exact (hTz.on HBB.out).alloc _ | exact (hTz.alloc _).alloc _ | exact ((hTz.on (by assumption)).alloc _).alloc _)).mono ?_
       rintro e w' ⟨rfl, hbn⟩
       have HB2 := Lib.hid (bstep HBB.out hbn)
       clear HBB hbn
       have HBB := HB2
       clear HB2))
  go_ret
  exact ⟨rfl, HBB.out⟩

set_option maxRecDepth 100000 in
set_option maxHeartbeats 800000 in
theorem laws_out3 (hB : BuildC) (hH : HeightC) (hR : RightC) (v : Value) (xs : List Int) (A B C : Int) (w : World) (hTz : Tz w) (hv : Nums .u64 w.heap.size w v xs) (hw : Wide xs) (hl : xs.length ≤ big5)
    (hr : LL.rightB xs = true) (n0 : decide (A < 0) = false) (n1 : decide (B < 0) = false) (n2 : decide (C < 0) = false) (n3 : decide ((xs.length : Int) ≤ A) = true) :
    Calls Tryd.prog 8 #[.agg #[v, .int .i64 A, .int .i64 B, .int .i64 C]] w fun e w' => e = .returned (.bool true) ∧ Below w.heap.size w w' := by
  have HBd := Lib.hid hB
  have HHt := Lib.hid hH
  have HRt := Lib.hid hR
  have HV := Lib.hid hv
  have HW := Lib.hid hw
  have HL := Lib.hid hl
  have HR := Lib.hid hr
  obtain ⟨sa, cap, rfl⟩ := hv.form
  clear hB hH hR hv hw hl hr
  go_enter Tryd.func8, Tryd.ntmps8
  go_wp2_with fail
  go_quiet (fail)
  have HBB := Lib.hid (show Below w.heap.size w ((w.alloc (.cells #[.slice sa xs.length cap, .int .i64 A, .int .i64 B, .int .i64 C] 42)).drewN nq) from below_drewN ((Below.refl _ _).alloc (Nat.le_refl _) _) nq)
  go_wp2_with (first
    | (go_at_call 16
       refine (HRt.out _ xs w.heap.size _ (HV.out.below HBB.out) HBB.out.size HW.out HL.out (by first | exact hTz | exact hTz.on (by assumption) | exact hTz.on HBB.out | exact hTz.alloc _ | exact (hTz.on (by assumption)).alloc _ | exact (hTz.on HBB.out).alloc _ | exact (hTz.alloc _).alloc _ | exact ((hTz.on (by assumption)).alloc _).alloc _)).mono ?_
       rintro e w' ⟨rfl, hbn⟩
       have HB2 := Lib.hid (bstep HBB.out hbn)
       clear HBB hbn
       have HBB := HB2
       clear HB2
       rw [HR.out])
    | (go_at_call 15
       refine (awake5_any HBd.out HHt.out _ (by first | exact hTz | exact hTz.on (by assumption) | exact hTz.on HBB.out | exact hTz.alloc _ | exact (hTz.on (by assumption)).alloc _ | exact (hTz.on HBB.out).alloc _ | exact (hTz.alloc _).alloc _ | exact ((hTz.on (by assumption)).alloc _).alloc _)).mono ?_
       rintro e w' ⟨rfl, hbn⟩
       have HB2 := Lib.hid (bstep HBB.out hbn)
       clear HBB hbn
       have HBB := HB2
       clear HB2))
  go_ret
  exact ⟨rfl, HBB.out⟩

set_option maxRecDepth 100000 in
set_option maxHeartbeats 800000 in
theorem laws_out4 (hB : BuildC) (hH : HeightC) (hR : RightC) (v : Value) (xs : List Int) (A B C : Int) (w : World) (hTz : Tz w) (hv : Nums .u64 w.heap.size w v xs) (hw : Wide xs) (hl : xs.length ≤ big5)
    (hr : LL.rightB xs = true) (n0 : decide (A < 0) = false) (n1 : decide (B < 0) = false) (n2 : decide (C < 0) = false) (n3 : decide ((xs.length : Int) ≤ A) = false) (n4 : decide ((xs.length : Int) ≤ B) = true) :
    Calls Tryd.prog 8 #[.agg #[v, .int .i64 A, .int .i64 B, .int .i64 C]] w fun e w' => e = .returned (.bool true) ∧ Below w.heap.size w w' := by
  have HBd := Lib.hid hB
  have HHt := Lib.hid hH
  have HRt := Lib.hid hR
  have HV := Lib.hid hv
  have HW := Lib.hid hw
  have HL := Lib.hid hl
  have HR := Lib.hid hr
  obtain ⟨sa, cap, rfl⟩ := hv.form
  clear hB hH hR hv hw hl hr
  go_enter Tryd.func8, Tryd.ntmps8
  go_wp2_with fail
  go_quiet (fail)
  have HBB := Lib.hid (show Below w.heap.size w ((w.alloc (.cells #[.slice sa xs.length cap, .int .i64 A, .int .i64 B, .int .i64 C] 42)).drewN nq) from below_drewN ((Below.refl _ _).alloc (Nat.le_refl _) _) nq)
  go_wp2_with (first
    | (go_at_call 16
       refine (HRt.out _ xs w.heap.size _ (HV.out.below HBB.out) HBB.out.size HW.out HL.out (by first | exact hTz | exact hTz.on (by assumption) | exact hTz.on HBB.out | exact hTz.alloc _ | exact (hTz.on (by assumption)).alloc _ | exact (hTz.on HBB.out).alloc _ | exact (hTz.alloc _).alloc _ | exact ((hTz.on (by assumption)).alloc _).alloc _)).mono ?_
       rintro e w' ⟨rfl, hbn⟩
       have HB2 := Lib.hid (bstep HBB.out hbn)
       clear HBB hbn
       have HBB := HB2
       clear HB2
       rw [HR.out])
    | (go_at_call 15
       refine (awake5_any HBd.out HHt.out _ (by first | exact hTz | exact hTz.on (by assumption) | exact hTz.on HBB.out | exact hTz.alloc _ | exact (hTz.on (by assumption)).alloc _ | exact (hTz.on HBB.out).alloc _ | exact (hTz.alloc _).alloc _ | exact ((hTz.on (by assumption)).alloc _).alloc _)).mono ?_
       rintro e w' ⟨rfl, hbn⟩
       have HB2 := Lib.hid (bstep HBB.out hbn)
       clear HBB hbn
       have HBB := HB2
       clear HB2))
  go_ret
  exact ⟨rfl, HBB.out⟩

set_option maxRecDepth 100000 in
set_option maxHeartbeats 800000 in
theorem laws_out5 (hB : BuildC) (hH : HeightC) (hR : RightC) (v : Value) (xs : List Int) (A B C : Int) (w : World) (hTz : Tz w) (hv : Nums .u64 w.heap.size w v xs) (hw : Wide xs) (hl : xs.length ≤ big5)
    (hr : LL.rightB xs = true) (n0 : decide (A < 0) = false) (n1 : decide (B < 0) = false) (n2 : decide (C < 0) = false) (n3 : decide ((xs.length : Int) ≤ A) = false) (n4 : decide ((xs.length : Int) ≤ B) = false) (n5 : decide ((xs.length : Int) ≤ C) = true) :
    Calls Tryd.prog 8 #[.agg #[v, .int .i64 A, .int .i64 B, .int .i64 C]] w fun e w' => e = .returned (.bool true) ∧ Below w.heap.size w w' := by
  have HBd := Lib.hid hB
  have HHt := Lib.hid hH
  have HRt := Lib.hid hR
  have HV := Lib.hid hv
  have HW := Lib.hid hw
  have HL := Lib.hid hl
  have HR := Lib.hid hr
  obtain ⟨sa, cap, rfl⟩ := hv.form
  clear hB hH hR hv hw hl hr
  go_enter Tryd.func8, Tryd.ntmps8
  go_wp2_with fail
  go_quiet (fail)
  have HBB := Lib.hid (show Below w.heap.size w ((w.alloc (.cells #[.slice sa xs.length cap, .int .i64 A, .int .i64 B, .int .i64 C] 42)).drewN nq) from below_drewN ((Below.refl _ _).alloc (Nat.le_refl _) _) nq)
  go_wp2_with (first
    | (go_at_call 16
       refine (HRt.out _ xs w.heap.size _ (HV.out.below HBB.out) HBB.out.size HW.out HL.out (by first | exact hTz | exact hTz.on (by assumption) | exact hTz.on HBB.out | exact hTz.alloc _ | exact (hTz.on (by assumption)).alloc _ | exact (hTz.on HBB.out).alloc _ | exact (hTz.alloc _).alloc _ | exact ((hTz.on (by assumption)).alloc _).alloc _)).mono ?_
       rintro e w' ⟨rfl, hbn⟩
       have HB2 := Lib.hid (bstep HBB.out hbn)
       clear HBB hbn
       have HBB := HB2
       clear HB2
       rw [HR.out])
    | (go_at_call 15
       refine (awake5_any HBd.out HHt.out _ (by first | exact hTz | exact hTz.on (by assumption) | exact hTz.on HBB.out | exact hTz.alloc _ | exact (hTz.on (by assumption)).alloc _ | exact (hTz.on HBB.out).alloc _ | exact (hTz.alloc _).alloc _ | exact ((hTz.on (by assumption)).alloc _).alloc _)).mono ?_
       rintro e w' ⟨rfl, hbn⟩
       have HB2 := Lib.hid (bstep HBB.out hbn)
       clear HBB hbn
       have HBB := HB2
       clear HB2))
  go_ret
  exact ⟨rfl, HBB.out⟩

theorem latticeLaws_walk (hB : BuildC) (hH : HeightC) (hR : RightC) (hJ : JoinC) (hM : MeetC) (hQ : LeqC) (v : Value) (xs : List Int) (A B C : Int) (w : World) (hTz : Tz w) (hv : Nums .u64 w.heap.size w v xs) (hw : Wide xs) (hl : xs.length ≤ big5) :
    Calls Tryd.prog 8 #[.agg #[v, .int .i64 A, .int .i64 B, .int .i64 C]] w fun e w' => e = .returned (.bool true) ∧ Below w.heap.size w w' := by
  cases hr : LL.rightB xs
  · exact laws_no hB hH hR v xs A B C w hTz hv hw hl hr
  cases n0 : decide (A < 0)
  · cases n1 : decide (B < 0)
    · cases n2 : decide (C < 0)
      · cases n3 : decide ((xs.length : Int) ≤ A)
        · cases n4 : decide ((xs.length : Int) ≤ B)
          · cases n5 : decide ((xs.length : Int) ≤ C)
            · rw [decide_eq_false_iff_not] at n0 n1 n2 n3 n4 n5
              obtain ⟨a, rfl⟩ : ∃ a : Nat, A = a := ⟨A.toNat, by omega⟩
              obtain ⟨b, rfl⟩ : ∃ b : Nat, B = b := ⟨B.toNat, by omega⟩
              obtain ⟨c, rfl⟩ : ∃ c : Nat, C = c := ⟨C.toNat, by omega⟩
              exact laws_in hB hH hR hJ hM hQ v xs a b c w hTz hv hw hl hr (by omega) (by omega) (by omega)
            · exact laws_out5 hB hH hR v xs A B C w hTz hv hw hl hr n0 n1 n2 n3 n4 n5
          · exact laws_out4 hB hH hR v xs A B C w hTz hv hw hl hr n0 n1 n2 n3 n4
        · exact laws_out3 hB hH hR v xs A B C w hTz hv hw hl hr n0 n1 n2 n3
      · exact laws_out2 hB hH hR v xs A B C w hTz hv hw hl hr n0 n1 n2
    · exact laws_out1 hB hH hR v xs A B C w hTz hv hw hl hr n0 n1
  · exact laws_out0 hB hH hR v xs A B C w hTz hv hw hl hr n0
end Go.Proofs.YtaaicmldldkhhaaDoor
