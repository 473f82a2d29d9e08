import Derived.Test.YtaaicmldldkhhaaDoorLatT
import Derived.Test.YtaaicmldldkhhaaDoorLawLatticeRights
set_option linter.unusedSimpArgs false
set_option linter.unusedVariables false
/-! LatticeEnds: the walk -/
namespace Go.Proofs.YtaaicmldldkhhaaDoor
open Go.RowKit
set_option maxRecDepth 100000 in
set_option maxHeartbeats 1600000 in
theorem ends_no (hB : BuildC) (hH : HeightC) (hBo : BottomC) (hTo : TopC) (x : Addr) (len cap : Nat) (zs : List Int) (w : World) (hTz : Tz w) (hr0 : IsRow .u64 w (some x) len cap zs) (hlen : len ≤ big5) (hr : LL.rightB (zs.take len) = false) :
    Calls Tryd.prog 6 #[.slice (some x) len cap] w fun e w' => e = .returned (.bool true) ∧ Below w.heap.size w w' := by
  have HBd := Lib.hid hB
  have HHt := Lib.hid hH
  have HBo := Lib.hid hBo
  have HTo := Lib.hid hTo
  have HI := Lib.hid (nums_of_isRow hr0)
  have HWd := Lib.hid (wide_take (isRow_u64 hr0) len)
  have HLn := Lib.hid hlen
  have HRt := Lib.hid hr
  obtain ⟨i0, hi, hz0, hz1, hz2⟩ := info_parts Tryd.infoU64
  rcases hr0 with ⟨hh, _⟩ | ⟨y, hy, hl, hm, hz, hcell, hwz⟩
  · cases hh
  obtain rfl : x = y := Option.some.inj hy
  have HC := Lib.hid hcell
  have HZ := Lib.hid hz
  have HLC := Lib.hid hl
  have hll := Lib.hid (show ((zs.take len).map (Value.int .u64)).length = len * 1 by rw [List.length_map, List.length_take]; omega)
  have hlen2 : len ≤ 17592186044416 := hlen
  have hlz : (zs.take len).length = len := by rw [List.length_take]; omega
  have HLz := Lib.hid hlz
  clear hB hH hBo hTo hcell hwz hz hlz hlen hy hr
  have HBB := Lib.hid (Below.refl w.heap.size w)
  go_enter Tryd.func6, Tryd.ntmps6
  go_wp2_with (first
    | (at_builtin
       refine wpList_append_own _ rfl _ _ 23 rfl w.heap.size 45 i0 (.int .u64 0) 1 8 Tryd.underlying23 hi hz0 hz1 hz2 rfl (by decide) _ _ _ rfl (World.ownsRow_lit (base := w.heap.size) (e := 45) (size := 1) _ #[] 0 HBB.out.size (by unfold maxLen; omega) rfl) x len cap ((zs.take len).map (Value.int .u64)) rfl hll.out (news5 HLC.out HZ.out HC.out (HBB.out.alloc HBB.out.size _)) (nums_oneCell .u64 (zs.take len)) (by unfold maxLen; omega) (by omega) (by have := HBB.out.size; first | (simp; done) | (simp; omega)) ?_
       intro v' w1 hown' hgrow _
       have HN := Lib.hid (show Nums .u64 w1.heap.size w1 v' (zs.take len) from nums_of_row (base := w.heap.size) (e := 45) (by rw [HLz.out]; simpa using hown'))
       have HB2 := Lib.hid ((HBB.out.alloc HBB.out.size (.cells #[] 45)).grown hgrow (by have := HBB.out.size; first | (simp; done) | (simp; omega)) (fun j hj => ((World.ownsRow_lit (base := w.heap.size) (e := 45) (size := 1) _ #[] 0 HBB.out.size (by unfold maxLen; omega) rfl).lt j hj).1))
       clear HBB hown' hgrow
       have HBB := HB2
       clear HB2)
    | (go_at_call 24
       refine (HBo.out _ (zs.take len) _ _ HN.out (Nat.le_refl _) HWd.out (by rw [HLz.out]; exact HLn.out) (by first | exact hTz | exact hTz.on (by assumption) | exact hTz.on HBB.out | exact hTz.alloc _ | exact (hTz.on (by assumption)).alloc _ | exact (hTz.on HBB.out).alloc _ | exact (hTz.alloc _).alloc _ | exact ((hTz.on (by assumption)).alloc _).alloc _)).mono ?_
       rintro e w' ⟨rfl, hbn⟩
       rw [HRt.out, if_neg Bool.false_ne_true]
       have HB2 := Lib.hid (bstep HBB.out hbn)
       clear HBB hbn
       have HBB := HB2
       clear HB2)
    | (go_at_call 25
       refine (HTo.out _ (zs.take len) _ _ HN.out (Nat.le_refl _) HWd.out (by rw [HLz.out]; exact HLn.out) (by first | exact hTz | exact hTz.on (by assumption) | exact hTz.on HBB.out | exact hTz.alloc _ | exact (hTz.on (by assumption)).alloc _ | exact (hTz.on HBB.out).alloc _ | exact (hTz.alloc _).alloc _ | exact ((hTz.on (by assumption)).alloc _).alloc _)).mono ?_
       rintro e w' ⟨rfl, hbn⟩
       rw [HRt.out, if_neg Bool.false_ne_true]
       have HB2 := Lib.hid (bstep HBB.out hbn)
       clear HBB hbn
       have HBB := HB2
       clear HB2)
    | (go_at_call 26
       refine (HHt.out _ (zs.take len) _ _ HN.out (Nat.le_refl _) HWd.out (by rw [HLz.out]; exact HLn.out) (by first | exact hTz | exact hTz.on (by assumption) | exact hTz.on HBB.out | exact hTz.alloc _ | exact (hTz.on (by assumption)).alloc _ | exact (hTz.on HBB.out).alloc _ | exact (hTz.alloc _).alloc _ | exact ((hTz.on (by assumption)).alloc _).alloc _)).mono ?_
       rintro e w' ⟨rfl, hbn⟩
       rw [HRt.out, if_neg Bool.false_ne_true]
       have HB2 := Lib.hid (bstep HBB.out hbn)
       clear HBB hbn
       have HBB := HB2
       clear HB2)
    | (go_at_call 17
       refine (rright_any _ (zs.take len) w.heap.size _ (HI.out.below HBB.out) HWd.out (by have h1 := HLz.out; omega)).mono ?_
       rintro e w' ⟨rfl, d, rfl⟩
       rw [HRt.out]
       have HB2 := Lib.hid (below_drewN HBB.out d)
       clear HBB
       have HBB := HB2
       clear HB2)
    | (go_at_call 15
       refine (awake5_any HBd.out HHt.out _ (by first | exact hTz | exact hTz.on (by assumption) | exact hTz.on HBB.out | exact hTz.alloc _ | exact (hTz.on (by assumption)).alloc _ | exact (hTz.on HBB.out).alloc _ | exact (hTz.alloc _).alloc _ | exact ((hTz.on (by assumption)).alloc _).alloc _)).mono ?_
       rintro e w' ⟨rfl, hbn⟩
       have HB2 := Lib.hid (bstep HBB.out hbn)
       clear HBB hbn
       have HBB := HB2
       clear HB2))
  go_ret
  exact ⟨rfl, HBB.out⟩

set_option maxRecDepth 100000 in
set_option maxHeartbeats 1600000 in
theorem ends_yes (hB : BuildC) (hH : HeightC) (hBo : BottomC) (hTo : TopC) (x : Addr) (len cap : Nat) (zs : List Int) (w : World) (hTz : Tz w) (hr0 : IsRow .u64 w (some x) len cap zs) (hlen : len ≤ big5) (hr : LL.rightB (zs.take len) = true) :
    Calls Tryd.prog 6 #[.slice (some x) len cap] w fun e w' => e = .returned (.bool true) ∧ Below w.heap.size w w' := by
  have HBd := Lib.hid hB
  have HHt := Lib.hid hH
  have HBo := Lib.hid hBo
  have HTo := Lib.hid hTo
  have HI := Lib.hid (nums_of_isRow hr0)
  have HWd := Lib.hid (wide_take (isRow_u64 hr0) len)
  have HLn := Lib.hid hlen
  have HRt := Lib.hid hr
  obtain ⟨i0, hi, hz0, hz1, hz2⟩ := info_parts Tryd.infoU64
  rcases hr0 with ⟨hh, _⟩ | ⟨y, hy, hl, hm, hz, hcell, hwz⟩
  · cases hh
  obtain rfl : x = y := Option.some.inj hy
  have HC := Lib.hid hcell
  have HZ := Lib.hid hz
  have HLC := Lib.hid hl
  have hll := Lib.hid (show ((zs.take len).map (Value.int .u64)).length = len * 1 by rw [List.length_map, List.length_take]; omega)
  have hlen2 : len ≤ 17592186044416 := hlen
  have hlz : (zs.take len).length = len := by rw [List.length_take]; omega
  have HLz := Lib.hid hlz
  clear hB hH hBo hTo hcell hwz hz hlz hlen hy hr
  have HBB := Lib.hid (Below.refl w.heap.size w)
  go_enter Tryd.func6, Tryd.ntmps6
  go_wp2_with (first
    | (at_builtin
       refine wpList_append_own _ rfl _ _ 23 rfl w.heap.size 45 i0 (.int .u64 0) 1 8 Tryd.underlying23 hi hz0 hz1 hz2 rfl (by decide) _ _ _ rfl (World.ownsRow_lit (base := w.heap.size) (e := 45) (size := 1) _ #[] 0 HBB.out.size (by unfold maxLen; omega) rfl) x len cap ((zs.take len).map (Value.int .u64)) rfl hll.out (news5 HLC.out HZ.out HC.out (HBB.out.alloc HBB.out.size _)) (nums_oneCell .u64 (zs.take len)) (by unfold maxLen; omega) (by omega) (by have := HBB.out.size; first | (simp; done) | (simp; omega)) ?_
       intro v' w1 hown' hgrow _
       have HN := Lib.hid (show Nums .u64 w1.heap.size w1 v' (zs.take len) from nums_of_row (base := w.heap.size) (e := 45) (by rw [HLz.out]; simpa using hown'))
       have HB2 := Lib.hid ((HBB.out.alloc HBB.out.size (.cells #[] 45)).grown hgrow (by have := HBB.out.size; first | (simp; done) | (simp; omega)) (fun j hj => ((World.ownsRow_lit (base := w.heap.size) (e := 45) (size := 1) _ #[] 0 HBB.out.size (by unfold maxLen; omega) rfl).lt j hj).1))
       clear HBB hown' hgrow
       have HBB := HB2
       clear HB2)
    | (go_at_call 24
       refine (HBo.out _ (zs.take len) _ _ HN.out (Nat.le_refl _) HWd.out (by rw [HLz.out]; exact HLn.out) (by first | exact hTz | exact hTz.on (by assumption) | exact hTz.on HBB.out | exact hTz.alloc _ | exact (hTz.on (by assumption)).alloc _ | exact (hTz.on HBB.out).alloc _ | exact (hTz.alloc _).alloc _ | exact ((hTz.on (by assumption)).alloc _).alloc _)).mono ?_
       rintro e w' ⟨rfl, hbn⟩
       rw [HRt.out, if_pos rfl]
       have HB2 := Lib.hid (bstep HBB.out hbn)
       clear HBB hbn
       have HBB := HB2
       clear HB2)
    | (go_at_call 25
       refine (HTo.out _ (zs.take len) _ _ HN.out (Nat.le_refl _) HWd.out (by rw [HLz.out]; exact HLn.out) (by first | exact hTz | exact hTz.on (by assumption) | exact hTz.on HBB.out | exact hTz.alloc _ | exact (hTz.on (by assumption)).alloc _ | exact (hTz.on HBB.out).alloc _ | exact (hTz.alloc _).alloc _ | exact ((hTz.on (by assumption)).alloc _).alloc _)).mono ?_
       rintro e w' ⟨rfl, hbn⟩
       rw [HRt.out, if_pos rfl]
       have HB2 := Lib.hid (bstep HBB.out hbn)
       clear HBB hbn
       have HBB := HB2
       clear HB2)
    | (go_at_call 26
       refine (HHt.out _ (zs.take len) _ _ HN.out (Nat.le_refl _) HWd.out (by rw [HLz.out]; exact HLn.out) (by first | exact hTz | exact hTz.on (by assumption) | exact hTz.on HBB.out | exact hTz.alloc _ | exact (hTz.on (by assumption)).alloc _ | exact (hTz.on HBB.out).alloc _ | exact (hTz.alloc _).alloc _ | exact ((hTz.on (by assumption)).alloc _).alloc _)).mono ?_
       rintro e w' ⟨rfl, hbn⟩
       rw [HRt.out, if_pos rfl]
       have HB2 := Lib.hid (bstep HBB.out hbn)
       clear HBB hbn
       have HBB := HB2
       clear HB2)
    | (go_at_call 17
       refine (rright_any _ (zs.take len) w.heap.size _ (HI.out.below HBB.out) HWd.out (by have h1 := HLz.out; omega)).mono ?_
       rintro e w' ⟨rfl, d, rfl⟩
       rw [HRt.out]
       have HB2 := Lib.hid (below_drewN HBB.out d)
       clear HBB
       have HBB := HB2
       clear HB2)
    | (go_at_call 27
       refine (rend_any _ (zs.take len) w.heap.size _ (HI.out.below HBB.out) HWd.out (by have h1 := HLz.out; omega)).mono ?_
       rintro e w' ⟨rfl, rfl⟩)
    | (go_at_call 28
       refine (rfar_any _ (zs.take len) w.heap.size _ (HI.out.below HBB.out) HWd.out (by have h1 := HLz.out; omega)).mono ?_
       rintro e w' ⟨rfl, rfl⟩)
    | (go_at_call 29
       refine (rheight_any _ (zs.take len) w.heap.size _ (HI.out.below HBB.out) HBB.out.size HWd.out (LL.right_ord HRt.out)).mono ?_
       rintro e w' ⟨rfl, hbn⟩
       have HB2 := Lib.hid (bstep HBB.out hbn)
       clear HBB hbn
       have HBB := HB2
       clear HB2)
    | (go_at_call 15
       refine (awake5_any HBd.out HHt.out _ (by first | exact hTz | exact hTz.on (by assumption) | exact hTz.on HBB.out | exact hTz.alloc _ | exact (hTz.on (by assumption)).alloc _ | exact (hTz.on HBB.out).alloc _ | exact (hTz.alloc _).alloc _ | exact ((hTz.on (by assumption)).alloc _).alloc _)).mono ?_
       rintro e w' ⟨rfl, hbn⟩
       have HB2 := Lib.hid (bstep HBB.out hbn)
       clear HBB hbn
       have HBB := HB2
       clear HB2))
  go_ret
  exact ⟨rfl, HBB.out⟩

theorem right_nil : LL.rightB [] = false := by decide +kernel
set_option maxRecDepth 100000 in
set_option maxHeartbeats 1600000 in
theorem ends_nil (hB : BuildC) (hH : HeightC) (hBo : BottomC) (hTo : TopC) (w : World) (hTz : Tz w) :
    Calls Tryd.prog 6 #[.slice none 0 0] w fun e w' => e = .returned (.bool true) ∧ Below w.heap.size w w' := by
  have HBd := Lib.hid hB
  have HHt := Lib.hid hH
  have HBo := Lib.hid hBo
  have HTo := Lib.hid hTo
  have HRt := Lib.hid right_nil
  have HWd := Lib.hid (show Wide [] from fun x hx => by simp at hx)
  clear hB hH hBo hTo
  have HBB := Lib.hid (Below.refl w.heap.size w)
  go_enter Tryd.func6, Tryd.ntmps6
  go_wp2_with (first
    | (go_at_call 24
       refine (HBo.out _ [] 0 _ (nums_empty 0 _ _ _) (Nat.zero_le _) HWd.out (Nat.zero_le _) (by first | exact hTz | exact hTz.on (by assumption) | exact hTz.on HBB.out | exact hTz.alloc _ | exact (hTz.on (by assumption)).alloc _ | exact (hTz.on HBB.out).alloc _ | exact (hTz.alloc _).alloc _ | exact ((hTz.on (by assumption)).alloc _).alloc _)).mono ?_
       rintro e w' ⟨rfl, hbn⟩
       rw [HRt.out, if_neg Bool.false_ne_true]
       have HB2 := Lib.hid ((HBB.out.alloc HBB.out.size (.cells #[] 45)).trans (hbn.mono (by have := HBB.out.size; first | (simp; done) | (simp; omega))))
       clear HBB hbn
       have HBB := HB2
       clear HB2)
    | (go_at_call 25
       refine (HTo.out _ [] 0 _ (nums_empty 0 _ _ _) (Nat.zero_le _) HWd.out (Nat.zero_le _) (by first | exact hTz | exact hTz.on (by assumption) | exact hTz.on HBB.out | exact hTz.alloc _ | exact (hTz.on (by assumption)).alloc _ | exact (hTz.on HBB.out).alloc _ | exact (hTz.alloc _).alloc _ | exact ((hTz.on (by assumption)).alloc _).alloc _)).mono ?_
       rintro e w' ⟨rfl, hbn⟩
       rw [HRt.out, if_neg Bool.false_ne_true]
       have HB2 := Lib.hid ((HBB.out.alloc HBB.out.size (.cells #[] 45)).trans (hbn.mono (by have := HBB.out.size; first | (simp; done) | (simp; omega))))
       clear HBB hbn
       have HBB := HB2
       clear HB2)
    | (go_at_call 26
       refine (HHt.out _ [] 0 _ (nums_empty 0 _ _ _) (Nat.zero_le _) HWd.out (Nat.zero_le _) (by first | exact hTz | exact hTz.on (by assumption) | exact hTz.on HBB.out | exact hTz.alloc _ | exact (hTz.on (by assumption)).alloc _ | exact (hTz.on HBB.out).alloc _ | exact (hTz.alloc _).alloc _ | exact ((hTz.on (by assumption)).alloc _).alloc _)).mono ?_
       rintro e w' ⟨rfl, hbn⟩
       rw [HRt.out, if_neg Bool.false_ne_true]
       have HB2 := Lib.hid ((HBB.out.alloc HBB.out.size (.cells #[] 45)).trans (hbn.mono (by have := HBB.out.size; first | (simp; done) | (simp; omega))))
       clear HBB hbn
       have HBB := HB2
       clear HB2)
    | (go_at_call 17
       refine (rright_any _ [] 0 _ (nums_empty 0 _ _ _) HWd.out (Nat.zero_le _)).mono ?_
       rintro e w' ⟨rfl, d, rfl⟩
       rw [HRt.out]
       have HB2 := Lib.hid (below_drewN HBB.out d)
       clear HBB
       have HBB := HB2
       clear HB2)
    | (go_at_call 15
       refine (awake5_any HBd.out HHt.out _ (by first | exact hTz | exact hTz.on (by assumption) | exact hTz.on HBB.out | exact hTz.alloc _ | exact (hTz.on (by assumption)).alloc _ | exact (hTz.on HBB.out).alloc _ | exact (hTz.alloc _).alloc _ | exact ((hTz.on (by assumption)).alloc _).alloc _)).mono ?_
       rintro e w' ⟨rfl, hbn⟩
       have HB2 := Lib.hid (bstep HBB.out hbn)
       clear HBB hbn
       have HBB := HB2
       clear HB2))
  go_ret
  exact ⟨rfl, HBB.out⟩
theorem latticeEnds_walk (hB : BuildC) (hH : HeightC) (hBo : BottomC) (hTo : TopC) (x : Option Addr) (len cap : Nat) (zs : List Int) (w : World) (hTz : Tz w) (hr0 : IsRow .u64 w x len cap zs) (hlen : len ≤ big5) :
    Calls Tryd.prog 6 #[.slice x len cap] w fun e w' => e = .returned (.bool true) ∧ Below w.heap.size w w' := by
  cases x with
  | none =>
    rcases hr0 with ⟨_, rfl, rfl, rfl⟩ | ⟨y, hy, _⟩
    · exact ends_nil hB hH hBo hTo w hTz
    · cases hy
  | some x =>
    cases hr : LL.rightB (zs.take len)
    · exact ends_no hB hH hBo hTo x len cap zs w hTz hr0 hlen hr
    · exact ends_yes hB hH hBo hTo x len cap zs w hTz hr0 hlen hr
end Go.Proofs.YtaaicmldldkhhaaDoor
