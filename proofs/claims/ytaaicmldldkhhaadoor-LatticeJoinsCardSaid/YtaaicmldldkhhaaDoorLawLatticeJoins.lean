import Derived.Test.YtaaicmldldkhhaaDoorLatT
import Derived.Test.YtaaicmldldkhhaaDoorLawLatticeRights
set_option linter.unusedSimpArgs false
set_option linter.unusedVariables false
/-! LatticeJoins: the walk -/
namespace Go.Proofs.YtaaicmldldkhhaaDoor
open Go.RowKit
theorem inB_no {xs : List Int} {A B : Int} (h : A < 0 ∨ B < 0 ∨ (xs.length : Int) ≤ A ∨ (xs.length : Int) ≤ B ∨ LL.rightB xs = false) : inB xs A B = false := by
  cases e : inB xs A B
  · rfl
  · exfalso
    unfold inB at e
    simp only [Bool.and_eq_true, decide_eq_true_eq] at e
    obtain ⟨⟨h1, h2⟩, ⟨h3, h4⟩, h5⟩ := e
    rcases h with h | h | h | h | h
    · omega
    · omega
    · omega
    · omega
    · rw [h5] at h; cases h

set_option maxRecDepth 100000 in
set_option maxHeartbeats 1600000 in
theorem joins_0 (hB : BuildC) (hH : HeightC) (hJ : JoinC) (hM : MeetC) (hQ : LeqC) (x : Addr) (len cap : Nat) (zs : List Int) (A B : Int) (w : World) (hTz : Tz w) (hr0 : IsRow .u64 w (some x) len cap zs) (hlen : len ≤ big5) (hA : (Lit.int .i64 A).wf = true) (hBw : (Lit.int .i64 B).wf = true)
    (n0 : decide (A < 0) = true) :
    Calls Tryd.prog 5 #[.slice (some x) len cap, .int .i64 A, .int .i64 B] w fun e w' => e = .returned (.bool true) ∧ Below w.heap.size w w' := by
  have HBd := Lib.hid hB
  have HHt := Lib.hid hH
  have HJn := Lib.hid hJ
  have HMt := Lib.hid hM
  have HLq := Lib.hid hQ
  have HI := Lib.hid (nums_of_isRow hr0)
  have HWd := Lib.hid (wide_take (isRow_u64 hr0) len)
  have HLn := Lib.hid hlen
  have HA := Lib.hid hA
  have HBw := Lib.hid hBw
  obtain ⟨i0, hi, hz0, hz1, hz2⟩ := info_parts Tryd.infoU64
  rcases hr0 with ⟨hh, _⟩ | ⟨y, hy, hl, hm, hz, hcell, hwz⟩
  · cases hh
  obtain rfl : x = y := Option.some.inj hy
  have HC := Lib.hid hcell
  have HZ := Lib.hid hz
  have HLC := Lib.hid hl
  have hll := Lib.hid (show ((zs.take len).map (Value.int .u64)).length = len * 1 by rw [List.length_map, List.length_take]; omega)
  have hlen2 : len ≤ 17592186044416 := hlen
  have hlz : (zs.take len).length = len := by rw [List.length_take]; omega
  have HLz := Lib.hid hlz
  have HIn := Lib.hid (show inB (zs.take len) A B = false from inB_no (.inl (of_decide_eq_true n0)))
  clear hB hH hJ hM hQ hcell hwz hz hlz hA hBw hlen hy
  have HBB := Lib.hid (Below.refl w.heap.size w)
  go_enter Tryd.func5, Tryd.ntmps5
  go_wp2_with (first
    | (at_builtin
       refine wpList_append_own _ rfl _ _ 23 rfl w.heap.size 45 i0 (.int .u64 0) 1 8 Tryd.underlying23 hi hz0 hz1 hz2 rfl (by decide) _ _ _ rfl (World.ownsRow_lit (base := w.heap.size) (e := 45) (size := 1) _ #[] 0 HBB.out.size (by unfold maxLen; omega) rfl) x len cap ((zs.take len).map (Value.int .u64)) rfl hll.out (news5 HLC.out HZ.out HC.out (HBB.out.alloc HBB.out.size _)) (nums_oneCell .u64 (zs.take len)) (by unfold maxLen; omega) (by omega) (by have := HBB.out.size; first | (simp; done) | (simp; omega)) ?_
       intro v' w1 hown' hgrow _
       have HN := Lib.hid (show Nums .u64 w1.heap.size w1 v' (zs.take len) from nums_of_row (base := w.heap.size) (e := 45) (by rw [HLz.out]; simpa using hown'))
       have HB2 := Lib.hid ((HBB.out.alloc HBB.out.size (.cells #[] 45)).grown hgrow (by have := HBB.out.size; first | (simp; done) | (simp; omega)) (fun j hj => ((World.ownsRow_lit (base := w.heap.size) (e := 45) (size := 1) _ #[] 0 HBB.out.size (by unfold maxLen; omega) rfl).lt j hj).1))
       clear HBB hown' hgrow
       have HBB := HB2
       clear HB2)
    | (go_at_call 18
       refine (HJn.out _ (zs.take len) _ A B _ HN.out (Nat.le_refl _) HWd.out (by rw [HLz.out]; exact HLn.out) HA.out HBw.out (by first | exact hTz | exact hTz.on (by assumption) | exact hTz.on HBB.out | exact hTz.alloc _ | exact (hTz.on (by assumption)).alloc _ | exact (hTz.on HBB.out).alloc _ | exact (hTz.alloc _).alloc _ | exact ((hTz.on (by assumption)).alloc _).alloc _)).mono ?_
       rintro e w' ⟨rfl, hbn⟩
       rw [HIn.out, if_neg Bool.false_ne_true]
       have HB2 := Lib.hid (bstep HBB.out hbn)
       clear HBB hbn
       have HBB := HB2
       clear HB2)
    | (go_at_call 19
       refine (HMt.out _ (zs.take len) _ A B _ HN.out (Nat.le_refl _) HWd.out (by rw [HLz.out]; exact HLn.out) HA.out HBw.out (by first | exact hTz | exact hTz.on (by assumption) | exact hTz.on HBB.out | exact hTz.alloc _ | exact (hTz.on (by assumption)).alloc _ | exact (hTz.on HBB.out).alloc _ | exact (hTz.alloc _).alloc _ | exact ((hTz.on (by assumption)).alloc _).alloc _)).mono ?_
       rintro e w' ⟨rfl, hbn⟩
       rw [HIn.out, if_neg Bool.false_ne_true]
       have HB2 := Lib.hid (bstep HBB.out hbn)
       clear HBB hbn
       have HBB := HB2
       clear HB2)
    | (go_at_call 20
       refine (HLq.out _ (zs.take len) _ A B _ HN.out (Nat.le_refl _) HWd.out (by rw [HLz.out]; exact HLn.out) HA.out HBw.out (by first | exact hTz | exact hTz.on (by assumption) | exact hTz.on HBB.out | exact hTz.alloc _ | exact (hTz.on (by assumption)).alloc _ | exact (hTz.on HBB.out).alloc _ | exact (hTz.alloc _).alloc _ | exact ((hTz.on (by assumption)).alloc _).alloc _)).mono ?_
       rintro e w' ⟨rfl, hbn⟩
       rw [HIn.out, Bool.false_and]
       have HB2 := Lib.hid (bstep HBB.out hbn)
       clear HBB hbn
       have HBB := HB2
       clear HB2)
    | (go_at_call 17
       refine (rright_any _ (zs.take len) w.heap.size _ (HI.out.below HBB.out) HWd.out (by have h1 := HLz.out; omega)).mono ?_
       rintro e w' ⟨rfl, d, rfl⟩
       rw [HRt.out]
       have HB2 := Lib.hid (below_drewN HBB.out d)
       clear HBB
       have HBB := HB2
       clear HB2)
    | (go_at_call 21
       refine (rjoin_any _ (zs.take len) w.heap.size _ (HI.out.below HBB.out) HWd.out (by have h1 := HLz.out; omega) _ _ HHa.out HHb.out).mono ?_
       rintro e w' ⟨rfl, rfl⟩)
    | (go_at_call 22
       refine (rmeet_any _ (zs.take len) w.heap.size _ (HI.out.below HBB.out) HWd.out (by have h1 := HLz.out; omega) _ _ HHa.out HHb.out).mono ?_
       rintro e w' ⟨rfl, rfl⟩)
    | (go_at_call 23
       refine (abv_any (Lib.hid (HI.out.below HBB.out)) HWd _ _ HHa.out).mono ?_
       rintro e w' ⟨rfl, rfl⟩)
    | (go_at_call 15
       refine (awake5_any HBd.out HHt.out _ (by first | exact hTz | exact hTz.on (by assumption) | exact hTz.on HBB.out | exact hTz.alloc _ | exact (hTz.on (by assumption)).alloc _ | exact (hTz.on HBB.out).alloc _ | exact (hTz.alloc _).alloc _ | exact ((hTz.on (by assumption)).alloc _).alloc _)).mono ?_
       rintro e w' ⟨rfl, hbn⟩
       have HB2 := Lib.hid (bstep HBB.out hbn)
       clear HBB hbn
       have HBB := HB2
       clear HB2))
  go_ret
  exact ⟨rfl, HBB.out⟩

set_option maxRecDepth 100000 in
set_option maxHeartbeats 1600000 in
theorem joins_1 (hB : BuildC) (hH : HeightC) (hJ : JoinC) (hM : MeetC) (hQ : LeqC) (x : Addr) (len cap : Nat) (zs : List Int) (A B : Int) (w : World) (hTz : Tz w) (hr0 : IsRow .u64 w (some x) len cap zs) (hlen : len ≤ big5) (hA : (Lit.int .i64 A).wf = true) (hBw : (Lit.int .i64 B).wf = true)
    (n0 : decide (A < 0) = false) (n1 : decide (B < 0) = true) :
    Calls Tryd.prog 5 #[.slice (some x) len cap, .int .i64 A, .int .i64 B] w fun e w' => e = .returned (.bool true) ∧ Below w.heap.size w w' := by
  have HBd := Lib.hid hB
  have HHt := Lib.hid hH
  have HJn := Lib.hid hJ
  have HMt := Lib.hid hM
  have HLq := Lib.hid hQ
  have HI := Lib.hid (nums_of_isRow hr0)
  have HWd := Lib.hid (wide_take (isRow_u64 hr0) len)
  have HLn := Lib.hid hlen
  have HA := Lib.hid hA
  have HBw := Lib.hid hBw
  obtain ⟨i0, hi, hz0, hz1, hz2⟩ := info_parts Tryd.infoU64
  rcases hr0 with ⟨hh, _⟩ | ⟨y, hy, hl, hm, hz, hcell, hwz⟩
  · cases hh
  obtain rfl : x = y := Option.some.inj hy
  have HC := Lib.hid hcell
  have HZ := Lib.hid hz
  have HLC := Lib.hid hl
  have hll := Lib.hid (show ((zs.take len).map (Value.int .u64)).length = len * 1 by rw [List.length_map, List.length_take]; omega)
  have hlen2 : len ≤ 17592186044416 := hlen
  have hlz : (zs.take len).length = len := by rw [List.length_take]; omega
  have HLz := Lib.hid hlz
  have HIn := Lib.hid (show inB (zs.take len) A B = false from inB_no (.inr (.inl (of_decide_eq_true n1))))
  clear hB hH hJ hM hQ hcell hwz hz hlz hA hBw hlen hy
  have HBB := Lib.hid (Below.refl w.heap.size w)
  go_enter Tryd.func5, Tryd.ntmps5
  go_wp2_with (first
    | (at_builtin
       refine wpList_append_own _ rfl _ _ 23 rfl w.heap.size 45 i0 (.int .u64 0) 1 8 Tryd.underlying23 hi hz0 hz1 hz2 rfl (by decide) _ _ _ rfl (World.ownsRow_lit (base := w.heap.size) (e := 45) (size := 1) _ #[] 0 HBB.out.size (by unfold maxLen; omega) rfl) x len cap ((zs.take len).map (Value.int .u64)) rfl hll.out (news5 HLC.out HZ.out HC.out (HBB.out.alloc HBB.out.size _)) (nums_oneCell .u64 (zs.take len)) (by unfold maxLen; omega) (by omega) (by have := HBB.out.size; first | (simp; done) | (simp; omega)) ?_
       intro v' w1 hown' hgrow _
       have HN := Lib.hid (show Nums .u64 w1.heap.size w1 v' (zs.take len) from nums_of_row (base := w.heap.size) (e := 45) (by rw [HLz.out]; simpa using hown'))
       have HB2 := Lib.hid ((HBB.out.alloc HBB.out.size (.cells #[] 45)).grown hgrow (by have := HBB.out.size; first | (simp; done) | (simp; omega)) (fun j hj => ((World.ownsRow_lit (base := w.heap.size) (e := 45) (size := 1) _ #[] 0 HBB.out.size (by unfold maxLen; omega) rfl).lt j hj).1))
       clear HBB hown' hgrow
       have HBB := HB2
       clear HB2)
    | (go_at_call 18
       refine (HJn.out _ (zs.take len) _ A B _ HN.out (Nat.le_refl _) HWd.out (by rw [HLz.out]; exact HLn.out) HA.out HBw.out (by first | exact hTz | exact hTz.on (by assumption) | exact hTz.on HBB.out | exact hTz.alloc _ | exact (hTz.on (by assumption)).alloc _ | exact (hTz.on HBB.out).alloc _ | exact (hTz.alloc _).alloc _ | exact ((hTz.on (by assumption)).alloc _).alloc _)).mono ?_
       rintro e w' ⟨rfl, hbn⟩
       rw [HIn.out, if_neg Bool.false_ne_true]
       have HB2 := Lib.hid (bstep HBB.out hbn)
       clear HBB hbn
       have HBB := HB2
       clear HB2)
    | (go_at_call 19
       refine (HMt.out _ (zs.take len) _ A B _ HN.out (Nat.le_refl _) HWd.out (by rw [HLz.out]; exact HLn.out) HA.out HBw.out (by first | exact hTz | exact hTz.on (by assumption) | exact hTz.on HBB.out | exact hTz.alloc _ | exact (hTz.on (by assumption)).alloc _ | exact (hTz.on HBB.out).alloc _ | exact (hTz.alloc _).alloc _ | exact ((hTz.on (by assumption)).alloc _).alloc _)).mono ?_
       rintro e w' ⟨rfl, hbn⟩
       rw [HIn.out, if_neg Bool.false_ne_true]
       have HB2 := Lib.hid (bstep HBB.out hbn)
       clear HBB hbn
       have HBB := HB2
       clear HB2)
    | (go_at_call 20
       refine (HLq.out _ (zs.take len) _ A B _ HN.out (Nat.le_refl _) HWd.out (by rw [HLz.out]; exact HLn.out) HA.out HBw.out (by first | exact hTz | exact hTz.on (by assumption) | exact hTz.on HBB.out | exact hTz.alloc _ | exact (hTz.on (by assumption)).alloc _ | exact (hTz.on HBB.out).alloc _ | exact (hTz.alloc _).alloc _ | exact ((hTz.on (by assumption)).alloc _).alloc _)).mono ?_
       rintro e w' ⟨rfl, hbn⟩
       rw [HIn.out, Bool.false_and]
       have HB2 := Lib.hid (bstep HBB.out hbn)
       clear HBB hbn
       have HBB := HB2
       clear HB2)
    | (go_at_call 17
       refine (rright_any _ (zs.take len) w.heap.size _ (HI.out.below HBB.out) HWd.out (by have h1 := HLz.out; omega)).mono ?_
       rintro e w' ⟨rfl, d, rfl⟩
       rw [HRt.out]
       have HB2 := Lib.hid (below_drewN HBB.out d)
       clear HBB
       have HBB := HB2
       clear HB2)
    | (go_at_call 21
       refine (rjoin_any _ (zs.take len) w.heap.size _ (HI.out.below HBB.out) HWd.out (by have h1 := HLz.out; omega) _ _ HHa.out HHb.out).mono ?_
       rintro e w' ⟨rfl, rfl⟩)
    | (go_at_call 22
       refine (rmeet_any _ (zs.take len) w.heap.size _ (HI.out.below HBB.out) HWd.out (by have h1 := HLz.out; omega) _ _ HHa.out HHb.out).mono ?_
       rintro e w' ⟨rfl, rfl⟩)
    | (go_at_call 23
       refine (abv_any (Lib.hid (HI.out.below HBB.out)) HWd _ _ HHa.out).mono ?_
       rintro e w' ⟨rfl, rfl⟩)
    | (go_at_call 15
       refine (awake5_any HBd.out HHt.out _ (by first | exact hTz | exact hTz.on (by assumption) | exact hTz.on HBB.out | exact hTz.alloc _ | exact (hTz.on (by assumption)).alloc _ | exact (hTz.on HBB.out).alloc _ | exact (hTz.alloc _).alloc _ | exact ((hTz.on (by assumption)).alloc _).alloc _)).mono ?_
       rintro e w' ⟨rfl, hbn⟩
       have HB2 := Lib.hid (bstep HBB.out hbn)
       clear HBB hbn
       have HBB := HB2
       clear HB2))
  go_ret
  exact ⟨rfl, HBB.out⟩

set_option maxRecDepth 100000 in
set_option maxHeartbeats 1600000 in
theorem joins_2 (hB : BuildC) (hH : HeightC) (hJ : JoinC) (hM : MeetC) (hQ : LeqC) (x : Addr) (len cap : Nat) (zs : List Int) (A B : Int) (w : World) (hTz : Tz w) (hr0 : IsRow .u64 w (some x) len cap zs) (hlen : len ≤ big5) (hA : (Lit.int .i64 A).wf = true) (hBw : (Lit.int .i64 B).wf = true)
    (n0 : decide (A < 0) = false) (n1 : decide (B < 0) = false) (n2 : decide ((len : Int) ≤ A) = true) :
    Calls Tryd.prog 5 #[.slice (some x) len cap, .int .i64 A, .int .i64 B] w fun e w' => e = .returned (.bool true) ∧ Below w.heap.size w w' := by
  have HBd := Lib.hid hB
  have HHt := Lib.hid hH
  have HJn := Lib.hid hJ
  have HMt := Lib.hid hM
  have HLq := Lib.hid hQ
  have HI := Lib.hid (nums_of_isRow hr0)
  have HWd := Lib.hid (wide_take (isRow_u64 hr0) len)
  have HLn := Lib.hid hlen
  have HA := Lib.hid hA
  have HBw := Lib.hid hBw
  obtain ⟨i0, hi, hz0, hz1, hz2⟩ := info_parts Tryd.infoU64
  rcases hr0 with ⟨hh, _⟩ | ⟨y, hy, hl, hm, hz, hcell, hwz⟩
  · cases hh
  obtain rfl : x = y := Option.some.inj hy
  have HC := Lib.hid hcell
  have HZ := Lib.hid hz
  have HLC := Lib.hid hl
  have hll := Lib.hid (show ((zs.take len).map (Value.int .u64)).length = len * 1 by rw [List.length_map, List.length_take]; omega)
  have hlen2 : len ≤ 17592186044416 := hlen
  have hlz : (zs.take len).length = len := by rw [List.length_take]; omega
  have HLz := Lib.hid hlz
  have HIn := Lib.hid (show inB (zs.take len) A B = false from inB_no (.inr (.inr (.inl (by rw [hlz]; exact of_decide_eq_true n2)))))
  clear hB hH hJ hM hQ hcell hwz hz hlz hA hBw hlen hy
  have HBB := Lib.hid (Below.refl w.heap.size w)
  go_enter Tryd.func5, Tryd.ntmps5
  go_wp2_with (first
    | (at_builtin
       refine wpList_append_own _ rfl _ _ 23 rfl w.heap.size 45 i0 (.int .u64 0) 1 8 Tryd.underlying23 hi hz0 hz1 hz2 rfl (by decide) _ _ _ rfl (World.ownsRow_lit (base := w.heap.size) (e := 45) (size := 1) _ #[] 0 HBB.out.size (by unfold maxLen; omega) rfl) x len cap ((zs.take len).map (Value.int .u64)) rfl hll.out (news5 HLC.out HZ.out HC.out (HBB.out.alloc HBB.out.size _)) (nums_oneCell .u64 (zs.take len)) (by unfold maxLen; omega) (by omega) (by have := HBB.out.size; first | (simp; done) | (simp; omega)) ?_
       intro v' w1 hown' hgrow _
       have HN := Lib.hid (show Nums .u64 w1.heap.size w1 v' (zs.take len) from nums_of_row (base := w.heap.size) (e := 45) (by rw [HLz.out]; simpa using hown'))
       have HB2 := Lib.hid ((HBB.out.alloc HBB.out.size (.cells #[] 45)).grown hgrow (by have := HBB.out.size; first | (simp; done) | (simp; omega)) (fun j hj => ((World.ownsRow_lit (base := w.heap.size) (e := 45) (size := 1) _ #[] 0 HBB.out.size (by unfold maxLen; omega) rfl).lt j hj).1))
       clear HBB hown' hgrow
       have HBB := HB2
       clear HB2)
    | (go_at_call 18
       refine (HJn.out _ (zs.take len) _ A B _ HN.out (Nat.le_refl _) HWd.out (by rw [HLz.out]; exact HLn.out) HA.out HBw.out (by first | exact hTz | exact hTz.on (by assumption) | exact hTz.on HBB.out | exact hTz.alloc _ | exact (hTz.on (by assumption)).alloc _ | exact (hTz.on HBB.out).alloc _ | exact (hTz.alloc _).alloc _ | exact ((hTz.on (by assumption)).alloc _).alloc _)).mono ?_
       rintro e w' ⟨rfl, hbn⟩
       rw [HIn.out, if_neg Bool.false_ne_true]
       have HB2 := Lib.hid (bstep HBB.out hbn)
       clear HBB hbn
       have HBB := HB2
       clear HB2)
    | (go_at_call 19
       refine (HMt.out _ (zs.take len) _ A B _ HN.out (Nat.le_refl _) HWd.out (by rw [HLz.out]; exact HLn.out) HA.out HBw.out (by first | exact hTz | exact hTz.on (by assumption) | exact hTz.on HBB.out | exact hTz.alloc _ | exact (hTz.on (by assumption)).alloc _ | exact (hTz.on HBB.out).alloc _ | exact (hTz.alloc _).alloc _ | exact ((hTz.on (by assumption)).alloc _).alloc _)).mono ?_
       rintro e w' ⟨rfl, hbn⟩
       rw [HIn.out, if_neg Bool.false_ne_true]
       have HB2 := Lib.hid (bstep HBB.out hbn)
       clear HBB hbn
       have HBB := HB2
       clear HB2)
    | (go_at_call 20
       refine (HLq.out _ (zs.take len) _ A B _ HN.out (Nat.le_refl _) HWd.out (by rw [HLz.out]; exact HLn.out) HA.out HBw.out (by first | exact hTz | exact hTz.on (by assumption) | exact hTz.on HBB.out | exact hTz.alloc _ | exact (hTz.on (by assumption)).alloc _ | exact (hTz.on HBB.out).alloc _ | exact (hTz.alloc _).alloc _ | exact ((hTz.on (by assumption)).alloc _).alloc _)).mono ?_
       rintro e w' ⟨rfl, hbn⟩
       rw [HIn.out, Bool.false_and]
       have HB2 := Lib.hid (bstep HBB.out hbn)
       clear HBB hbn
       have HBB := HB2
       clear HB2)
    | (go_at_call 17
       refine (rright_any _ (zs.take len) w.heap.size _ (HI.out.below HBB.out) HWd.out (by have h1 := HLz.out; omega)).mono ?_
       rintro e w' ⟨rfl, d, rfl⟩
       rw [HRt.out]
       have HB2 := Lib.hid (below_drewN HBB.out d)
       clear HBB
       have HBB := HB2
       clear HB2)
    | (go_at_call 21
       refine (rjoin_any _ (zs.take len) w.heap.size _ (HI.out.below HBB.out) HWd.out (by have h1 := HLz.out; omega) _ _ HHa.out HHb.out).mono ?_
       rintro e w' ⟨rfl, rfl⟩)
    | (go_at_call 22
       refine (rmeet_any _ (zs.take len) w.heap.size _ (HI.out.below HBB.out) HWd.out (by have h1 := HLz.out; omega) _ _ HHa.out HHb.out).mono ?_
       rintro e w' ⟨rfl, rfl⟩)
    | (go_at_call 23
       refine (abv_any (Lib.hid (HI.out.below HBB.out)) HWd _ _ HHa.out).mono ?_
       rintro e w' ⟨rfl, rfl⟩)
    | (go_at_call 15
       refine (awake5_any HBd.out HHt.out _ (by first | exact hTz | exact hTz.on (by assumption) | exact hTz.on HBB.out | exact hTz.alloc _ | exact (hTz.on (by assumption)).alloc _ | exact (hTz.on HBB.out).alloc _ | exact (hTz.alloc _).alloc _ | exact ((hTz.on (by assumption)).alloc _).alloc _)).mono ?_
       rintro e w' ⟨rfl, hbn⟩
       have HB2 := Lib.hid (bstep HBB.out hbn)
       clear HBB hbn
       have HBB := HB2
       clear HB2))
  go_ret
  exact ⟨rfl, HBB.out⟩

set_option maxRecDepth 100000 in
set_option maxHeartbeats 1600000 in
theorem joins_3 (hB : BuildC) (hH : HeightC) (hJ : JoinC) (hM : MeetC) (hQ : LeqC) (x : Addr) (len cap : Nat) (zs : List Int) (A B : Int) (w : World) (hTz : Tz w) (hr0 : IsRow .u64 w (some x) len cap zs) (hlen : len ≤ big5) (hA : (Lit.int .i64 A).wf = true) (hBw : (Lit.int .i64 B).wf = true)
    (n0 : decide (A < 0) = false) (n1 : decide (B < 0) = false) (n2 : decide ((len : Int) ≤ A) = false) (n3 : decide ((len : Int) ≤ B) = true) :
    Calls Tryd.prog 5 #[.slice (some x) len cap, .int .i64 A, .int .i64 B] w fun e w' => e = .returned (.bool true) ∧ Below w.heap.size w w' := by
  have HBd := Lib.hid hB
  have HHt := Lib.hid hH
  have HJn := Lib.hid hJ
  have HMt := Lib.hid hM
  have HLq := Lib.hid hQ
  have HI := Lib.hid (nums_of_isRow hr0)
  have HWd := Lib.hid (wide_take (isRow_u64 hr0) len)
  have HLn := Lib.hid hlen
  have HA := Lib.hid hA
  have HBw := Lib.hid hBw
  obtain ⟨i0, hi, hz0, hz1, hz2⟩ := info_parts Tryd.infoU64
  rcases hr0 with ⟨hh, _⟩ | ⟨y, hy, hl, hm, hz, hcell, hwz⟩
  · cases hh
  obtain rfl : x = y := Option.some.inj hy
  have HC := Lib.hid hcell
  have HZ := Lib.hid hz
  have HLC := Lib.hid hl
  have hll := Lib.hid (show ((zs.take len).map (Value.int .u64)).length = len * 1 by rw [List.length_map, List.length_take]; omega)
  have hlen2 : len ≤ 17592186044416 := hlen
  have hlz : (zs.take len).length = len := by rw [List.length_take]; omega
  have HLz := Lib.hid hlz
  have HIn := Lib.hid (show inB (zs.take len) A B = false from inB_no (.inr (.inr (.inr (.inl (by rw [hlz]; exact of_decide_eq_true n3))))))
  clear hB hH hJ hM hQ hcell hwz hz hlz hA hBw hlen hy
  have HBB := Lib.hid (Below.refl w.heap.size w)
  go_enter Tryd.func5, Tryd.ntmps5
  go_wp2_with (first
    | (at_builtin
       refine wpList_append_own _ rfl _ _ 23 rfl w.heap.size 45 i0 (.int .u64 0) 1 8 Tryd.underlying23 hi hz0 hz1 hz2 rfl (by decide) _ _ _ rfl (World.ownsRow_lit (base := w.heap.size) (e := 45) (size := 1) _ #[] 0 HBB.out.size (by unfold maxLen; omega) rfl) x len cap ((zs.take len).map (Value.int .u64)) rfl hll.out (news5 HLC.out HZ.out HC.out (HBB.out.alloc HBB.out.size _)) (nums_oneCell .u64 (zs.take len)) (by unfold maxLen; omega) (by omega) (by have := HBB.out.size; first | (simp; done) | (simp; omega)) ?_
       intro v' w1 hown' hgrow _
       have HN := Lib.hid (show Nums .u64 w1.heap.size w1 v' (zs.take len) from nums_of_row (base := w.heap.size) (e := 45) (by rw [HLz.out]; simpa using hown'))
       have HB2 := Lib.hid ((HBB.out.alloc HBB.out.size (.cells #[] 45)).grown hgrow (by have := HBB.out.size; first | (simp; done) | (simp; omega)) (fun j hj => ((World.ownsRow_lit (base := w.heap.size) (e := 45) (size := 1) _ #[] 0 HBB.out.size (by unfold maxLen; omega) rfl).lt j hj).1))
       clear HBB hown' hgrow
       have HBB := HB2
       clear HB2)
    | (go_at_call 18
       refine (HJn.out _ (zs.take len) _ A B _ HN.out (Nat.le_refl _) HWd.out (by rw [HLz.out]; exact HLn.out) HA.out HBw.out (by first | exact hTz | exact hTz.on (by assumption) | exact hTz.on HBB.out | exact hTz.alloc _ | exact (hTz.on (by assumption)).alloc _ | exact (hTz.on HBB.out).alloc _ | exact (hTz.alloc _).alloc _ | exact ((hTz.on (by assumption)).alloc _).alloc _)).mono ?_
       rintro e w' ⟨rfl, hbn⟩
       rw [HIn.out, if_neg Bool.false_ne_true]
       have HB2 := Lib.hid (bstep HBB.out hbn)
       clear HBB hbn
       have HBB := HB2
       clear HB2)
    | (go_at_call 19
       refine (HMt.out _ (zs.take len) _ A B _ HN.out (Nat.le_refl _) HWd.out (by rw [HLz.out]; exact HLn.out) HA.out HBw.out (by first | exact hTz | exact hTz.on (by assumption) | exact hTz.on HBB.out | exact hTz.alloc _ | exact (hTz.on (by assumption)).alloc _ | exact (hTz.on HBB.out).alloc _ | exact (hTz.alloc _).alloc _ | exact ((hTz.on (by assumption)).alloc _).alloc _)).mono ?_
       rintro e w' ⟨rfl, hbn⟩
       rw [HIn.out, if_neg Bool.false_ne_true]
       have HB2 := Lib.hid (bstep HBB.out hbn)
       clear HBB hbn
       have HBB := HB2
       clear HB2)
    | (go_at_call 20
       refine (HLq.out _ (zs.take len) _ A B _ HN.out (Nat.le_refl _) HWd.out (by rw [HLz.out]; exact HLn.out) HA.out HBw.out (by first | exact hTz | exact hTz.on (by assumption) | exact hTz.on HBB.out | exact hTz.alloc _ | exact (hTz.on (by assumption)).alloc _ | exact (hTz.on HBB.out).alloc _ | exact (hTz.alloc _).alloc _ | exact ((hTz.on (by assumption)).alloc _).alloc _)).mono ?_
       rintro e w' ⟨rfl, hbn⟩
       rw [HIn.out, Bool.false_and]
       have HB2 := Lib.hid (bstep HBB.out hbn)
       clear HBB hbn
       have HBB := HB2
       clear HB2)
    | (go_at_call 17
       refine (rright_any _ (zs.take len) w.heap.size _ (HI.out.below HBB.out) HWd.out (by have h1 := HLz.out; omega)).mono ?_
       rintro e w' ⟨rfl, d, rfl⟩
       rw [HRt.out]
       have HB2 := Lib.hid (below_drewN HBB.out d)
       clear HBB
       have HBB := HB2
       clear HB2)
    | (go_at_call 21
       refine (rjoin_any _ (zs.take len) w.heap.size _ (HI.out.below HBB.out) HWd.out (by have h1 := HLz.out; omega) _ _ HHa.out HHb.out).mono ?_
       rintro e w' ⟨rfl, rfl⟩)
    | (go_at_call 22
       refine (rmeet_any _ (zs.take len) w.heap.size _ (HI.out.below HBB.out) HWd.out (by have h1 := HLz.out; omega) _ _ HHa.out HHb.out).mono ?_
       rintro e w' ⟨rfl, rfl⟩)
    | (go_at_call 23
       refine (abv_any (Lib.hid (HI.out.below HBB.out)) HWd _ _ HHa.out).mono ?_
       rintro e w' ⟨rfl, rfl⟩)
    | (go_at_call 15
       refine (awake5_any HBd.out HHt.out _ (by first | exact hTz | exact hTz.on (by assumption) | exact hTz.on HBB.out | exact hTz.alloc _ | exact (hTz.on (by assumption)).alloc _ | exact (hTz.on HBB.out).alloc _ | exact (hTz.alloc _).alloc _ | exact ((hTz.on (by assumption)).alloc _).alloc _)).mono ?_
       rintro e w' ⟨rfl, hbn⟩
       have HB2 := Lib.hid (bstep HBB.out hbn)
       clear HBB hbn
       have HBB := HB2
       clear HB2))
  go_ret
  exact ⟨rfl, HBB.out⟩

set_option maxRecDepth 100000 in
set_option maxHeartbeats 1600000 in
theorem joins_4 (hB : BuildC) (hH : HeightC) (hJ : JoinC) (hM : MeetC) (hQ : LeqC) (x : Addr) (len cap : Nat) (zs : List Int) (A B : Int) (w : World) (hTz : Tz w) (hr0 : IsRow .u64 w (some x) len cap zs) (hlen : len ≤ big5) (hA : (Lit.int .i64 A).wf = true) (hBw : (Lit.int .i64 B).wf = true)
    (n0 : decide (A < 0) = false) (n1 : decide (B < 0) = false) (n2 : decide ((len : Int) ≤ A) = false) (n3 : decide ((len : Int) ≤ B) = false) (hr : LL.rightB (zs.take len) = false) :
    Calls Tryd.prog 5 #[.slice (some x) len cap, .int .i64 A, .int .i64 B] w fun e w' => e = .returned (.bool true) ∧ Below w.heap.size w w' := by
  have HBd := Lib.hid hB
  have HHt := Lib.hid hH
  have HJn := Lib.hid hJ
  have HMt := Lib.hid hM
  have HLq := Lib.hid hQ
  have HI := Lib.hid (nums_of_isRow hr0)
  have HWd := Lib.hid (wide_take (isRow_u64 hr0) len)
  have HLn := Lib.hid hlen
  have HA := Lib.hid hA
  have HBw := Lib.hid hBw
  obtain ⟨i0, hi, hz0, hz1, hz2⟩ := info_parts Tryd.infoU64
  rcases hr0 with ⟨hh, _⟩ | ⟨y, hy, hl, hm, hz, hcell, hwz⟩
  · cases hh
  obtain rfl : x = y := Option.some.inj hy
  have HC := Lib.hid hcell
  have HZ := Lib.hid hz
  have HLC := Lib.hid hl
  have hll := Lib.hid (show ((zs.take len).map (Value.int .u64)).length = len * 1 by rw [List.length_map, List.length_take]; omega)
  have hlen2 : len ≤ 17592186044416 := hlen
  have hlz : (zs.take len).length = len := by rw [List.length_take]; omega
  have HLz := Lib.hid hlz
  have HIn := Lib.hid (show inB (zs.take len) A B = false from inB_no (.inr (.inr (.inr (.inr (hr))))))
  have HRt := Lib.hid hr
  clear hr
  clear hB hH hJ hM hQ hcell hwz hz hlz hA hBw hlen hy
  have HBB := Lib.hid (Below.refl w.heap.size w)
  go_enter Tryd.func5, Tryd.ntmps5
  go_wp2_with (first
    | (at_builtin
       refine wpList_append_own _ rfl _ _ 23 rfl w.heap.size 45 i0 (.int .u64 0) 1 8 Tryd.underlying23 hi hz0 hz1 hz2 rfl (by decide) _ _ _ rfl (World.ownsRow_lit (base := w.heap.size) (e := 45) (size := 1) _ #[] 0 HBB.out.size (by unfold maxLen; omega) rfl) x len cap ((zs.take len).map (Value.int .u64)) rfl hll.out (news5 HLC.out HZ.out HC.out (HBB.out.alloc HBB.out.size _)) (nums_oneCell .u64 (zs.take len)) (by unfold maxLen; omega) (by omega) (by have := HBB.out.size; first | (simp; done) | (simp; omega)) ?_
       intro v' w1 hown' hgrow _
       have HN := Lib.hid (show Nums .u64 w1.heap.size w1 v' (zs.take len) from nums_of_row (base := w.heap.size) (e := 45) (by rw [HLz.out]; simpa using hown'))
       have HB2 := Lib.hid ((HBB.out.alloc HBB.out.size (.cells #[] 45)).grown hgrow (by have := HBB.out.size; first | (simp; done) | (simp; omega)) (fun j hj => ((World.ownsRow_lit (base := w.heap.size) (e := 45) (size := 1) _ #[] 0 HBB.out.size (by unfold maxLen; omega) rfl).lt j hj).1))
       clear HBB hown' hgrow
       have HBB := HB2
       clear HB2)
    | (go_at_call 18
       refine (HJn.out _ (zs.take len) _ A B _ HN.out (Nat.le_refl _) HWd.out (by rw [HLz.out]; exact HLn.out) HA.out HBw.out (by first | exact hTz | exact hTz.on (by assumption) | exact hTz.on HBB.out | exact hTz.alloc _ | exact (hTz.on (by assumption)).alloc _ | exact (hTz.on HBB.out).alloc _ | exact (hTz.alloc _).alloc _ | exact ((hTz.on (by assumption)).alloc _).alloc _)).mono ?_
       rintro e w' ⟨rfl, hbn⟩
       rw [HIn.out, if_neg Bool.false_ne_true]
       have HB2 := Lib.hid (bstep HBB.out hbn)
       clear HBB hbn
       have HBB := HB2
       clear HB2)
    | (go_at_call 19
       refine (HMt.out _ (zs.take len) _ A B _ HN.out (Nat.le_refl _) HWd.out (by rw [HLz.out]; exact HLn.out) HA.out HBw.out (by first | exact hTz | exact hTz.on (by assumption) | exact hTz.on HBB.out | exact hTz.alloc _ | exact (hTz.on (by assumption)).alloc _ | exact (hTz.on HBB.out).alloc _ | exact (hTz.alloc _).alloc _ | exact ((hTz.on (by assumption)).alloc _).alloc _)).mono ?_
       rintro e w' ⟨rfl, hbn⟩
       rw [HIn.out, if_neg Bool.false_ne_true]
       have HB2 := Lib.hid (bstep HBB.out hbn)
       clear HBB hbn
       have HBB := HB2
       clear HB2)
    | (go_at_call 20
       refine (HLq.out _ (zs.take len) _ A B _ HN.out (Nat.le_refl _) HWd.out (by rw [HLz.out]; exact HLn.out) HA.out HBw.out (by first | exact hTz | exact hTz.on (by assumption) | exact hTz.on HBB.out | exact hTz.alloc _ | exact (hTz.on (by assumption)).alloc _ | exact (hTz.on HBB.out).alloc _ | exact (hTz.alloc _).alloc _ | exact ((hTz.on (by assumption)).alloc _).alloc _)).mono ?_
       rintro e w' ⟨rfl, hbn⟩
       rw [HIn.out, Bool.false_and]
       have HB2 := Lib.hid (bstep HBB.out hbn)
       clear HBB hbn
       have HBB := HB2
       clear HB2)
    | (go_at_call 17
       refine (rright_any _ (zs.take len) w.heap.size _ (HI.out.below HBB.out) HWd.out (by have h1 := HLz.out; omega)).mono ?_
       rintro e w' ⟨rfl, d, rfl⟩
       rw [HRt.out]
       have HB2 := Lib.hid (below_drewN HBB.out d)
       clear HBB
       have HBB := HB2
       clear HB2)
    | (go_at_call 21
       refine (rjoin_any _ (zs.take len) w.heap.size _ (HI.out.below HBB.out) HWd.out (by have h1 := HLz.out; omega) _ _ HHa.out HHb.out).mono ?_
       rintro e w' ⟨rfl, rfl⟩)
    | (go_at_call 22
       refine (rmeet_any _ (zs.take len) w.heap.size _ (HI.out.below HBB.out) HWd.out (by have h1 := HLz.out; omega) _ _ HHa.out HHb.out).mono ?_
       rintro e w' ⟨rfl, rfl⟩)
    | (go_at_call 23
       refine (abv_any (Lib.hid (HI.out.below HBB.out)) HWd _ _ HHa.out).mono ?_
       rintro e w' ⟨rfl, rfl⟩)
    | (go_at_call 15
       refine (awake5_any HBd.out HHt.out _ (by first | exact hTz | exact hTz.on (by assumption) | exact hTz.on HBB.out | exact hTz.alloc _ | exact (hTz.on (by assumption)).alloc _ | exact (hTz.on HBB.out).alloc _ | exact (hTz.alloc _).alloc _ | exact ((hTz.on (by assumption)).alloc _).alloc _)).mono ?_
       rintro e w' ⟨rfl, hbn⟩
       have HB2 := Lib.hid (bstep HBB.out hbn)
       clear HBB hbn
       have HBB := HB2
       clear HB2))
  go_ret
  exact ⟨rfl, HBB.out⟩

set_option maxRecDepth 100000 in
set_option maxHeartbeats 1600000 in
theorem joins_5 (hB : BuildC) (hH : HeightC) (hJ : JoinC) (hM : MeetC) (hQ : LeqC) (x : Addr) (len cap : Nat) (zs : List Int) (A B : Int) (w : World) (hTz : Tz w) (hr0 : IsRow .u64 w (some x) len cap zs) (hlen : len ≤ big5) (hA : (Lit.int .i64 A).wf = true) (hBw : (Lit.int .i64 B).wf = true)
    (n0 : decide (A < 0) = false) (n1 : decide (B < 0) = false) (n2 : decide ((len : Int) ≤ A) = false) (n3 : decide ((len : Int) ≤ B) = false) (hr : LL.rightB (zs.take len) = true) :
    Calls Tryd.prog 5 #[.slice (some x) len cap, .int .i64 A, .int .i64 B] w fun e w' => e = .returned (.bool true) ∧ Below w.heap.size w w' := by
  have HBd := Lib.hid hB
  have HHt := Lib.hid hH
  have HJn := Lib.hid hJ
  have HMt := Lib.hid hM
  have HLq := Lib.hid hQ
  have HI := Lib.hid (nums_of_isRow hr0)
  have HWd := Lib.hid (wide_take (isRow_u64 hr0) len)
  have HLn := Lib.hid hlen
  have HA := Lib.hid hA
  have HBw := Lib.hid hBw
  obtain ⟨i0, hi, hz0, hz1, hz2⟩ := info_parts Tryd.infoU64
  rcases hr0 with ⟨hh, _⟩ | ⟨y, hy, hl, hm, hz, hcell, hwz⟩
  · cases hh
  obtain rfl : x = y := Option.some.inj hy
  have HC := Lib.hid hcell
  have HZ := Lib.hid hz
  have HLC := Lib.hid hl
  have hll := Lib.hid (show ((zs.take len).map (Value.int .u64)).length = len * 1 by rw [List.length_map, List.length_take]; omega)
  have hlen2 : len ≤ 17592186044416 := hlen
  have hlz : (zs.take len).length = len := by rw [List.length_take]; omega
  have HLz := Lib.hid hlz
  rw [decide_eq_false_iff_not] at n0 n1 n2 n3
  obtain ⟨a, rfl⟩ : ∃ a : Nat, A = a := ⟨A.toNat, by omega⟩
  obtain ⟨b, rfl⟩ : ∃ b : Nat, B = b := ⟨B.toNat, by omega⟩
  have n0 : decide ((a : Int) < 0) = false := decide_eq_false n0
  have n1 : decide ((b : Int) < 0) = false := decide_eq_false n1
  have n2' : decide (len ≤ a) = false := decide_eq_false (by omega)
  have n3' : decide (len ≤ b) = false := decide_eq_false (by omega)
  have ha : a < (zs.take len).length := by omega
  have hb : b < (zs.take len).length := by omega
  have n2 : decide ((len : Int) ≤ (a : Int)) = false := decide_eq_false n2
  have n3 : decide ((len : Int) ≤ (b : Int)) = false := decide_eq_false n3
  have HHa := Lib.hid ha
  have HHb := Lib.hid hb
  have HIn := Lib.hid (inB_yes hr ha hb)
  have HRt := Lib.hid hr
  clear hr ha hb
  clear hB hH hJ hM hQ hcell hwz hz hlz hA hBw hlen hy
  have HBB := Lib.hid (Below.refl w.heap.size w)
  go_enter Tryd.func5, Tryd.ntmps5
  go_wp2_with (first
    | (at_builtin
       refine wpList_append_own _ rfl _ _ 23 rfl w.heap.size 45 i0 (.int .u64 0) 1 8 Tryd.underlying23 hi hz0 hz1 hz2 rfl (by decide) _ _ _ rfl (World.ownsRow_lit (base := w.heap.size) (e := 45) (size := 1) _ #[] 0 HBB.out.size (by unfold maxLen; omega) rfl) x len cap ((zs.take len).map (Value.int .u64)) rfl hll.out (news5 HLC.out HZ.out HC.out (HBB.out.alloc HBB.out.size _)) (nums_oneCell .u64 (zs.take len)) (by unfold maxLen; omega) (by omega) (by have := HBB.out.size; first | (simp; done) | (simp; omega)) ?_
       intro v' w1 hown' hgrow _
       have HN := Lib.hid (show Nums .u64 w1.heap.size w1 v' (zs.take len) from nums_of_row (base := w.heap.size) (e := 45) (by rw [HLz.out]; simpa using hown'))
       have HB2 := Lib.hid ((HBB.out.alloc HBB.out.size (.cells #[] 45)).grown hgrow (by have := HBB.out.size; first | (simp; done) | (simp; omega)) (fun j hj => ((World.ownsRow_lit (base := w.heap.size) (e := 45) (size := 1) _ #[] 0 HBB.out.size (by unfold maxLen; omega) rfl).lt j hj).1))
       clear HBB hown' hgrow
       have HBB := HB2
       clear HB2)
    | (go_at_call 18
       refine (HJn.out _ (zs.take len) _ a b _ HN.out (Nat.le_refl _) HWd.out (by rw [HLz.out]; exact HLn.out) HA.out HBw.out (by first | exact hTz | exact hTz.on (by assumption) | exact hTz.on HBB.out | exact hTz.alloc _ | exact (hTz.on (by assumption)).alloc _ | exact (hTz.on HBB.out).alloc _ | exact (hTz.alloc _).alloc _ | exact ((hTz.on (by assumption)).alloc _).alloc _)).mono ?_
       rintro e w' ⟨rfl, hbn⟩
       rw [HIn.out, if_pos rfl, Int.toNat_natCast, Int.toNat_natCast]
       have HB2 := Lib.hid (bstep HBB.out hbn)
       clear HBB hbn
       have HBB := HB2
       clear HB2)
    | (go_at_call 19
       refine (HMt.out _ (zs.take len) _ a b _ HN.out (Nat.le_refl _) HWd.out (by rw [HLz.out]; exact HLn.out) HA.out HBw.out (by first | exact hTz | exact hTz.on (by assumption) | exact hTz.on HBB.out | exact hTz.alloc _ | exact (hTz.on (by assumption)).alloc _ | exact (hTz.on HBB.out).alloc _ | exact (hTz.alloc _).alloc _ | exact ((hTz.on (by assumption)).alloc _).alloc _)).mono ?_
       rintro e w' ⟨rfl, hbn⟩
       rw [HIn.out, if_pos rfl, Int.toNat_natCast, Int.toNat_natCast]
       have HB2 := Lib.hid (bstep HBB.out hbn)
       clear HBB hbn
       have HBB := HB2
       clear HB2)
    | (go_at_call 20
       refine (HLq.out _ (zs.take len) _ a b _ HN.out (Nat.le_refl _) HWd.out (by rw [HLz.out]; exact HLn.out) HA.out HBw.out (by first | exact hTz | exact hTz.on (by assumption) | exact hTz.on HBB.out | exact hTz.alloc _ | exact (hTz.on (by assumption)).alloc _ | exact (hTz.on HBB.out).alloc _ | exact (hTz.alloc _).alloc _ | exact ((hTz.on (by assumption)).alloc _).alloc _)).mono ?_
       rintro e w' ⟨rfl, hbn⟩
       rw [HIn.out, Bool.true_and, Int.toNat_natCast, Int.toNat_natCast]
       have HB2 := Lib.hid (bstep HBB.out hbn)
       clear HBB hbn
       have HBB := HB2
       clear HB2)
    | (go_at_call 17
       refine (rright_any _ (zs.take len) w.heap.size _ (HI.out.below HBB.out) HWd.out (by have h1 := HLz.out; omega)).mono ?_
       rintro e w' ⟨rfl, d, rfl⟩
       rw [HRt.out]
       have HB2 := Lib.hid (below_drewN HBB.out d)
       clear HBB
       have HBB := HB2
       clear HB2)
    | (go_at_call 21
       refine (rjoin_any _ (zs.take len) w.heap.size _ (HI.out.below HBB.out) HWd.out (by have h1 := HLz.out; omega) _ _ HHa.out HHb.out).mono ?_
       rintro e w' ⟨rfl, rfl⟩)
    | (go_at_call 22
       refine (rmeet_any _ (zs.take len) w.heap.size _ (HI.out.below HBB.out) HWd.out (by have h1 := HLz.out; omega) _ _ HHa.out HHb.out).mono ?_
       rintro e w' ⟨rfl, rfl⟩)
    | (go_at_call 23
       refine (abv_any (Lib.hid (HI.out.below HBB.out)) HWd _ _ HHa.out).mono ?_
       rintro e w' ⟨rfl, rfl⟩)
    | (go_at_call 15
       refine (awake5_any HBd.out HHt.out _ (by first | exact hTz | exact hTz.on (by assumption) | exact hTz.on HBB.out | exact hTz.alloc _ | exact (hTz.on (by assumption)).alloc _ | exact (hTz.on HBB.out).alloc _ | exact (hTz.alloc _).alloc _ | exact ((hTz.on (by assumption)).alloc _).alloc _)).mono ?_
       rintro e w' ⟨rfl, hbn⟩
       have HB2 := Lib.hid (bstep HBB.out hbn)
       clear HBB hbn
       have HBB := HB2
       clear HB2))
  go_ret
  exact ⟨rfl, HBB.out⟩

set_option maxRecDepth 100000 in
set_option maxHeartbeats 1600000 in
theorem joins_nil0 (hB : BuildC) (hH : HeightC) (hJ : JoinC) (hM : MeetC) (hQ : LeqC) (A B : Int) (w : World) (hTz : Tz w) (hA : (Lit.int .i64 A).wf = true) (hBw : (Lit.int .i64 B).wf = true) (n0 : decide (A < 0) = true) :
    Calls Tryd.prog 5 #[.slice none 0 0, .int .i64 A, .int .i64 B] w fun e w' => e = .returned (.bool true) ∧ Below w.heap.size w w' := by
  have HBd := Lib.hid hB
  have HHt := Lib.hid hH
  have HJn := Lib.hid hJ
  have HMt := Lib.hid hM
  have HLq := Lib.hid hQ
  have HA := Lib.hid hA
  have HBw := Lib.hid hBw
  have HIn := Lib.hid (show inB [] A B = false from inB_no (.inl (of_decide_eq_true n0)))
  have HWd := Lib.hid (show Wide [] from fun x hx => by simp at hx)
  clear hB hH hJ hM hQ hA hBw
  have HBB := Lib.hid (Below.refl w.heap.size w)
  go_enter Tryd.func5, Tryd.ntmps5
  go_wp2_with (first
    | (go_at_call 18
       refine (HJn.out _ [] 0 A B _ (nums_empty 0 _ _ _) (Nat.zero_le _) HWd.out (Nat.zero_le _) HA.out HBw.out (by first | exact hTz | exact hTz.on (by assumption) | exact hTz.on HBB.out | exact hTz.alloc _ | exact (hTz.on (by assumption)).alloc _ | exact (hTz.on HBB.out).alloc _ | exact (hTz.alloc _).alloc _ | exact ((hTz.on (by assumption)).alloc _).alloc _)).mono ?_
       rintro e w' ⟨rfl, hbn⟩
       rw [HIn.out, if_neg Bool.false_ne_true]
       have HB2 := Lib.hid ((HBB.out.alloc HBB.out.size (.cells #[] 45)).trans (hbn.mono (by have := HBB.out.size; first | (simp; done) | (simp; omega))))
       clear HBB hbn
       have HBB := HB2
       clear HB2)
    | (go_at_call 19
       refine (HMt.out _ [] 0 A B _ (nums_empty 0 _ _ _) (Nat.zero_le _) HWd.out (Nat.zero_le _) HA.out HBw.out (by first | exact hTz | exact hTz.on (by assumption) | exact hTz.on HBB.out | exact hTz.alloc _ | exact (hTz.on (by assumption)).alloc _ | exact (hTz.on HBB.out).alloc _ | exact (hTz.alloc _).alloc _ | exact ((hTz.on (by assumption)).alloc _).alloc _)).mono ?_
       rintro e w' ⟨rfl, hbn⟩
       rw [HIn.out, if_neg Bool.false_ne_true]
       have HB2 := Lib.hid ((HBB.out.alloc HBB.out.size (.cells #[] 45)).trans (hbn.mono (by have := HBB.out.size; first | (simp; done) | (simp; omega))))
       clear HBB hbn
       have HBB := HB2
       clear HB2)
    | (go_at_call 20
       refine (HLq.out _ [] 0 A B _ (nums_empty 0 _ _ _) (Nat.zero_le _) HWd.out (Nat.zero_le _) HA.out HBw.out (by first | exact hTz | exact hTz.on (by assumption) | exact hTz.on HBB.out | exact hTz.alloc _ | exact (hTz.on (by assumption)).alloc _ | exact (hTz.on HBB.out).alloc _ | exact (hTz.alloc _).alloc _ | exact ((hTz.on (by assumption)).alloc _).alloc _)).mono ?_
       rintro e w' ⟨rfl, hbn⟩
       rw [HIn.out, Bool.false_and]
       have HB2 := Lib.hid ((HBB.out.alloc HBB.out.size (.cells #[] 45)).trans (hbn.mono (by have := HBB.out.size; first | (simp; done) | (simp; omega))))
       clear HBB hbn
       have HBB := HB2
       clear HB2)
    | (go_at_call 15
       refine (awake5_any HBd.out HHt.out _ (by first | exact hTz | exact hTz.on (by assumption) | exact hTz.on HBB.out | exact hTz.alloc _ | exact (hTz.on (by assumption)).alloc _ | exact (hTz.on HBB.out).alloc _ | exact (hTz.alloc _).alloc _ | exact ((hTz.on (by assumption)).alloc _).alloc _)).mono ?_
       rintro e w' ⟨rfl, hbn⟩
       have HB2 := Lib.hid (bstep HBB.out hbn)
       clear HBB hbn
       have HBB := HB2
       clear HB2))
  go_ret
  exact ⟨rfl, HBB.out⟩

set_option maxRecDepth 100000 in
set_option maxHeartbeats 1600000 in
theorem joins_nil1 (hB : BuildC) (hH : HeightC) (hJ : JoinC) (hM : MeetC) (hQ : LeqC) (A B : Int) (w : World) (hTz : Tz w) (hA : (Lit.int .i64 A).wf = true) (hBw : (Lit.int .i64 B).wf = true) (n0 : decide (A < 0) = false) (n1 : decide (B < 0) = true) :
    Calls Tryd.prog 5 #[.slice none 0 0, .int .i64 A, .int .i64 B] w fun e w' => e = .returned (.bool true) ∧ Below w.heap.size w w' := by
  have HBd := Lib.hid hB
  have HHt := Lib.hid hH
  have HJn := Lib.hid hJ
  have HMt := Lib.hid hM
  have HLq := Lib.hid hQ
  have HA := Lib.hid hA
  have HBw := Lib.hid hBw
  have HIn := Lib.hid (show inB [] A B = false from inB_no (.inr (.inl (of_decide_eq_true n1))))
  have HWd := Lib.hid (show Wide [] from fun x hx => by simp at hx)
  clear hB hH hJ hM hQ hA hBw
  have HBB := Lib.hid (Below.refl w.heap.size w)
  go_enter Tryd.func5, Tryd.ntmps5
  go_wp2_with (first
    | (go_at_call 18
       refine (HJn.out _ [] 0 A B _ (nums_empty 0 _ _ _) (Nat.zero_le _) HWd.out (Nat.zero_le _) HA.out HBw.out (by first | exact hTz | exact hTz.on (by assumption) | exact hTz.on HBB.out | exact hTz.alloc _ | exact (hTz.on (by assumption)).alloc _ | exact (hTz.on HBB.out).alloc _ | exact (hTz.alloc _).alloc _ | exact ((hTz.on (by assumption)).alloc _).alloc _)).mono ?_
       rintro e w' ⟨rfl, hbn⟩
       rw [HIn.out, if_neg Bool.false_ne_true]
       have HB2 := Lib.hid ((HBB.out.alloc HBB.out.size (.cells #[] 45)).trans (hbn.mono (by have := HBB.out.size; first | (simp; done) | (simp; omega))))
       clear HBB hbn
       have HBB := HB2
       clear HB2)
    | (go_at_call 19
       refine (HMt.out _ [] 0 A B _ (nums_empty 0 _ _ _) (Nat.zero_le _) HWd.out (Nat.zero_le _) HA.out HBw.out (by first | exact hTz | exact hTz.on (by assumption) | exact hTz.on HBB.out | exact hTz.alloc _ | exact (hTz.on (by assumption)).alloc _ | exact (hTz.on HBB.out).alloc _ | exact (hTz.alloc _).alloc _ | exact ((hTz.on (by assumption)).alloc _).alloc _)).mono ?_
       rintro e w' ⟨rfl, hbn⟩
       rw [HIn.out, if_neg Bool.false_ne_true]
       have HB2 := Lib.hid ((HBB.out.alloc HBB.out.size (.cells #[] 45)).trans (hbn.mono (by have := HBB.out.size; first | (simp; done) | (simp; omega))))
       clear HBB hbn
       have HBB := HB2
       clear HB2)
    | (go_at_call 20
       refine (HLq.out _ [] 0 A B _ (nums_empty 0 _ _ _) (Nat.zero_le _) HWd.out (Nat.zero_le _) HA.out HBw.out (by first | exact hTz | exact hTz.on (by assumption) | exact hTz.on HBB.out | exact hTz.alloc _ | exact (hTz.on (by assumption)).alloc _ | exact (hTz.on HBB.out).alloc _ | exact (hTz.alloc _).alloc _ | exact ((hTz.on (by assumption)).alloc _).alloc _)).mono ?_
       rintro e w' ⟨rfl, hbn⟩
       rw [HIn.out, Bool.false_and]
       have HB2 := Lib.hid ((HBB.out.alloc HBB.out.size (.cells #[] 45)).trans (hbn.mono (by have := HBB.out.size; first | (simp; done) | (simp; omega))))
       clear HBB hbn
       have HBB := HB2
       clear HB2)
    | (go_at_call 15
       refine (awake5_any HBd.out HHt.out _ (by first | exact hTz | exact hTz.on (by assumption) | exact hTz.on HBB.out | exact hTz.alloc _ | exact (hTz.on (by assumption)).alloc _ | exact (hTz.on HBB.out).alloc _ | exact (hTz.alloc _).alloc _ | exact ((hTz.on (by assumption)).alloc _).alloc _)).mono ?_
       rintro e w' ⟨rfl, hbn⟩
       have HB2 := Lib.hid (bstep HBB.out hbn)
       clear HBB hbn
       have HBB := HB2
       clear HB2))
  go_ret
  exact ⟨rfl, HBB.out⟩

set_option maxRecDepth 100000 in
set_option maxHeartbeats 1600000 in
theorem joins_nil2 (hB : BuildC) (hH : HeightC) (hJ : JoinC) (hM : MeetC) (hQ : LeqC) (A B : Int) (w : World) (hTz : Tz w) (hA : (Lit.int .i64 A).wf = true) (hBw : (Lit.int .i64 B).wf = true) (n0 : decide (A < 0) = false) (n1 : decide (B < 0) = false) (n2 : decide ((0 : Int) ≤ A) = true) :
    Calls Tryd.prog 5 #[.slice none 0 0, .int .i64 A, .int .i64 B] w fun e w' => e = .returned (.bool true) ∧ Below w.heap.size w w' := by
  have HBd := Lib.hid hB
  have HHt := Lib.hid hH
  have HJn := Lib.hid hJ
  have HMt := Lib.hid hM
  have HLq := Lib.hid hQ
  have HA := Lib.hid hA
  have HBw := Lib.hid hBw
  have HIn := Lib.hid (show inB [] A B = false from inB_no (.inr (.inr (.inl (of_decide_eq_true n2)))))
  have HWd := Lib.hid (show Wide [] from fun x hx => by simp at hx)
  clear hB hH hJ hM hQ hA hBw
  have HBB := Lib.hid (Below.refl w.heap.size w)
  go_enter Tryd.func5, Tryd.ntmps5
  go_wp2_with (first
    | (go_at_call 18
       refine (HJn.out _ [] 0 A B _ (nums_empty 0 _ _ _) (Nat.zero_le _) HWd.out (Nat.zero_le _) HA.out HBw.out (by first | exact hTz | exact hTz.on (by assumption) | exact hTz.on HBB.out | exact hTz.alloc _ | exact (hTz.on (by assumption)).alloc _ | exact (hTz.on HBB.out).alloc _ | exact (hTz.alloc _).alloc _ | exact ((hTz.on (by assumption)).alloc _).alloc _)).mono ?_
       rintro e w' ⟨rfl, hbn⟩
       rw [HIn.out, if_neg Bool.false_ne_true]
       have HB2 := Lib.hid ((HBB.out.alloc HBB.out.size (.cells #[] 45)).trans (hbn.mono (by have := HBB.out.size; first | (simp; done) | (simp; omega))))
       clear HBB hbn
       have HBB := HB2
       clear HB2)
    | (go_at_call 19
       refine (HMt.out _ [] 0 A B _ (nums_empty 0 _ _ _) (Nat.zero_le _) HWd.out (Nat.zero_le _) HA.out HBw.out (by first | exact hTz | exact hTz.on (by assumption) | exact hTz.on HBB.out | exact hTz.alloc _ | exact (hTz.on (by assumption)).alloc _ | exact (hTz.on HBB.out).alloc _ | exact (hTz.alloc _).alloc _ | exact ((hTz.on (by assumption)).alloc _).alloc _)).mono ?_
       rintro e w' ⟨rfl, hbn⟩
       rw [HIn.out, if_neg Bool.false_ne_true]
       have HB2 := Lib.hid ((HBB.out.alloc HBB.out.size (.cells #[] 45)).trans (hbn.mono (by have := HBB.out.size; first | (simp; done) | (simp; omega))))
       clear HBB hbn
       have HBB := HB2
       clear HB2)
    | (go_at_call 20
       refine (HLq.out _ [] 0 A B _ (nums_empty 0 _ _ _) (Nat.zero_le _) HWd.out (Nat.zero_le _) HA.out HBw.out (by first | exact hTz | exact hTz.on (by assumption) | exact hTz.on HBB.out | exact hTz.alloc _ | exact (hTz.on (by assumption)).alloc _ | exact (hTz.on HBB.out).alloc _ | exact (hTz.alloc _).alloc _ | exact ((hTz.on (by assumption)).alloc _).alloc _)).mono ?_
       rintro e w' ⟨rfl, hbn⟩
       rw [HIn.out, Bool.false_and]
       have HB2 := Lib.hid ((HBB.out.alloc HBB.out.size (.cells #[] 45)).trans (hbn.mono (by have := HBB.out.size; first | (simp; done) | (simp; omega))))
       clear HBB hbn
       have HBB := HB2
       clear HB2)
    | (go_at_call 15
       refine (awake5_any HBd.out HHt.out _ (by first | exact hTz | exact hTz.on (by assumption) | exact hTz.on HBB.out | exact hTz.alloc _ | exact (hTz.on (by assumption)).alloc _ | exact (hTz.on HBB.out).alloc _ | exact (hTz.alloc _).alloc _ | exact ((hTz.on (by assumption)).alloc _).alloc _)).mono ?_
       rintro e w' ⟨rfl, hbn⟩
       have HB2 := Lib.hid (bstep HBB.out hbn)
       clear HBB hbn
       have HBB := HB2
       clear HB2))
  go_ret
  exact ⟨rfl, HBB.out⟩

theorem latticeJoins_walk (hB : BuildC) (hH : HeightC) (hJ : JoinC) (hM : MeetC) (hQ : LeqC) (x : Option Addr) (len cap : Nat) (zs : List Int) (A B : Int) (w : World) (hTz : Tz w) (hr0 : IsRow .u64 w x len cap zs) (hlen : len ≤ big5) (hA : (Lit.int .i64 A).wf = true) (hBw : (Lit.int .i64 B).wf = true) :
    Calls Tryd.prog 5 #[.slice x len cap, .int .i64 A, .int .i64 B] w fun e w' => e = .returned (.bool true) ∧ Below w.heap.size w w' := by
  cases x with
  | none =>
    rcases hr0 with ⟨_, rfl, rfl, rfl⟩ | ⟨y, hy, _⟩
    · cases n0 : decide (A < 0)
      · cases n1 : decide (B < 0)
        · exact joins_nil2 hB hH hJ hM hQ A B w hTz hA hBw n0 n1 (decide_eq_true (by rw [decide_eq_false_iff_not] at n0; omega))
        · exact joins_nil1 hB hH hJ hM hQ A B w hTz hA hBw n0 n1
      · exact joins_nil0 hB hH hJ hM hQ A B w hTz hA hBw n0
    · cases hy
  | some x =>
    cases n0 : decide (A < 0)
    · cases n1 : decide (B < 0)
      · cases n2 : decide ((len : Int) ≤ A)
        · cases n3 : decide ((len : Int) ≤ B)
          · cases hr : LL.rightB (zs.take len)
            · exact joins_4 hB hH hJ hM hQ x len cap zs A B w hTz hr0 hlen hA hBw n0 n1 n2 n3 hr
            · exact joins_5 hB hH hJ hM hQ x len cap zs A B w hTz hr0 hlen hA hBw n0 n1 n2 n3 hr
          · exact joins_3 hB hH hJ hM hQ x len cap zs A B w hTz hr0 hlen hA hBw n0 n1 n2 n3
        · exact joins_2 hB hH hJ hM hQ x len cap zs A B w hTz hr0 hlen hA hBw n0 n1 n2
      · exact joins_1 hB hH hJ hM hQ x len cap zs A B w hTz hr0 hlen hA hBw n0 n1
    · exact joins_0 hB hH hJ hM hQ x len cap zs A B w hTz hr0 hlen hA hBw n0
end Go.Proofs.YtaaicmldldkhhaaDoor
