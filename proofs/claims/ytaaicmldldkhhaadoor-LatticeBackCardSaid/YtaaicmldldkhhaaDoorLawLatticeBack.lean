import Derived.Test.YtaaicmldldkhhaaDoorLawLatticeChains
set_option linter.unusedSimpArgs false
set_option linter.unusedVariables false
/-! LatticeBack: the walk -/
namespace Go.Proofs.YtaaicmldldkhhaaDoor
open Go.RowKit

/-- what Build answers at pairs whose order is known -/
theorem build_back {k : Nat} {l : List (Nat × Nat)} {xs : List Int} {e : Ending} {W : World} (h : BuildP k (castP l) e W) (h1 : 1 ≤ k) (h2 : k ≤ 64) (hl : ∀ p ∈ l, p.1 < k ∧ p.2 < k) (hx : LL.IsClose k l xs) (hr : LL.rightB xs = true) :
    ∃ (a : Option Addr) (cap : Nat), e = .returned (.tuple #[.slice a xs.length cap, .int .i64 0]) ∧ Nums .u64 W.heap.size W (.slice a xs.length cap) xs := by
  obtain ⟨v, S, q, rfl, hv, hw, hc⟩ := h
  rcases hc with ⟨hbad, _⟩ | ⟨_, _, _, T, hT, hs⟩
  · exact absurd ⟨by omega, by omega, by rw [Int.toNat_natCast]; exact cast_ok hl⟩ hbad
  · rw [Int.toNat_natCast, toPrs_cast] at hT
    obtain rfl := LL.close_one hT hx
    rcases hs with ⟨_, rfl, rfl⟩ | ⟨r3, _⟩
    · obtain ⟨a, cap, rfl⟩ := hv.form
      exact ⟨a, cap, rfl, hv⟩
    · rw [hr] at r3; cases r3

set_option maxRecDepth 100000 in
set_option maxHeartbeats 1600000 in
theorem back_no (hB : BuildC) (hH : HeightC) (hR : RightC) (v : Value) (xs : List Int) (k : Int) (w : World) (hTz : Tz w) (hv : Nums .u64 w.heap.size w v xs) (hw : Wide xs) (hl : xs.length ≤ big5) (hr : LL.rightB xs = false) :
    Calls Tryd.prog 10 #[v, .int .i64 k] w fun e w' => e = .returned (.bool true) ∧ Below w.heap.size w w' := by
  have HBd := Lib.hid hB
  have HHt := Lib.hid hH
  have HRt := Lib.hid hR
  have HV := Lib.hid hv
  have HW := Lib.hid hw
  have HL := Lib.hid hl
  have HR := Lib.hid hr
  clear hB hH hR hv hw hl hr
  go_enter Tryd.func10, Tryd.ntmps10
  go_wp2_with fail
  refine (HRt.out v xs w.heap.size w HV.out (Nat.le_refl _) HW.out HL.out (by first | exact hTz | exact hTz.on (by assumption) | exact hTz.on HBB.out | exact hTz.alloc _ | exact (hTz.on (by assumption)).alloc _ | exact (hTz.on HBB.out).alloc _ | exact (hTz.on (by assumption)).drewN _ | exact (hTz.on HBB.out).drewN _ | exact (hTz.alloc _).alloc _ | exact ((hTz.on (by assumption)).alloc _).alloc _)).mono ?_
  rintro e w1 ⟨rfl, hb1⟩
  rw [HR.out]
  go_wp2_with fail
  refine (awake5_any HBd.out HHt.out _ (by first | exact hTz | exact hTz.on (by assumption) | exact hTz.on HBB.out | exact hTz.alloc _ | exact (hTz.on (by assumption)).alloc _ | exact (hTz.on HBB.out).alloc _ | exact (hTz.on (by assumption)).drewN _ | exact (hTz.on HBB.out).drewN _ | exact (hTz.alloc _).alloc _ | exact ((hTz.on (by assumption)).alloc _).alloc _)).mono ?_
  rintro e w99 ⟨rfl, hb99⟩
  go_wp2_with fail
  go_ret
  exact ⟨rfl, bstep hb1 hb99⟩
set_option maxRecDepth 100000 in
set_option maxHeartbeats 1600000 in
theorem back_one (hB : BuildC) (hH : HeightC) (hR : RightC) (hC : CoversC) (v : Value) (xs : List Int) (k : Int) (w : World) (hTz : Tz w) (hv : Nums .u64 w.heap.size w v xs) (hw : Wide xs) (hl : xs.length ≤ big5) (hr : LL.rightB xs = true) (h0 : LL.coversL xs = []) :
    Calls Tryd.prog 10 #[v, .int .i64 k] w fun e w' => e = .returned (.bool true) ∧ Below w.heap.size w w' := by
  have H0 := Lib.hid h0
  clear h0
  have HBd := Lib.hid hB
  have HHt := Lib.hid hH
  have HRt := Lib.hid hR
  have HCv := Lib.hid hC
  have HV := Lib.hid hv
  have HW := Lib.hid hw
  have HL := Lib.hid hl
  have HR := Lib.hid hr
  have H64 := Lib.hid (LL.ord_len (LL.right_ord hr))
  obtain ⟨sa, cap, rfl⟩ := hv.form
  clear hB hH hR hC hv hw hl hr
  go_enter Tryd.func10, Tryd.ntmps10
  go_wp2_with fail
  refine (HRt.out _ xs w.heap.size w HV.out (Nat.le_refl _) HW.out HL.out (by first | exact hTz | exact hTz.on (by assumption) | exact hTz.on HBB.out | exact hTz.alloc _ | exact (hTz.on (by assumption)).alloc _ | exact (hTz.on HBB.out).alloc _ | exact (hTz.on (by assumption)).drewN _ | exact (hTz.on HBB.out).drewN _ | exact (hTz.alloc _).alloc _ | exact ((hTz.on (by assumption)).alloc _).alloc _)).mono ?_
  rintro e w1 ⟨rfl, hb1⟩
  rw [HR.out]
  have HB1 := Lib.hid hb1
  clear hb1
  go_wp2_with fail
  refine (HCv.out _ xs w.heap.size w1 (HV.out.below HB1.out) HB1.out.size HW.out HL.out (by first | exact hTz | exact hTz.on (by assumption) | exact hTz.on HBB.out | exact hTz.alloc _ | exact (hTz.on (by assumption)).alloc _ | exact (hTz.on HBB.out).alloc _ | exact (hTz.on (by assumption)).drewN _ | exact (hTz.on HBB.out).drewN _ | exact (hTz.alloc _).alloc _ | exact ((hTz.on (by assumption)).alloc _).alloc _)).mono ?_
  rintro e w2 ⟨u, rfl, hp, hb2⟩
  have HB2 := Lib.hid (bstep HB1.out hb2)
  rw [HR.out, if_pos rfl] at hp
  have HP := Lib.hid hp.toI
  obtain ⟨a1, c1, rfl⟩ := HP.out.form
  clear HB1 hb2 hp
  have HL9 := Lib.hid (show (castP (LL.coversL xs)).length ≤ 4160 by rw [castP_len]; have h1 := LL.coversUp_len xs xs.length; have h2 := H64.out.2; have h3 : xs.length * xs.length ≤ 64 * 64 := Nat.mul_le_mul h2 h2; unfold LL.coversL; omega)
  have hwk := Lib.hid (show (Lit.int .i64 (xs.length : Int)).wf = true by have := H64.out.2; simp only [Lit.wf, Bool.and_eq_true, decide_eq_true_eq]; exact ⟨show (-9223372036854775808 : Int) ≤ (xs.length : Int) by omega, show (xs.length : Int) ≤ (9223372036854775807 : Int) by omega⟩)
  go_wp2_with fail
  refine (HBd.out _ (castP (LL.coversL xs)) _ xs.length w2 HP.out (Nat.le_refl _) (by have := HL9.out; simp only [big5]; omega) hwk.out (by first | exact hTz | exact hTz.on (by assumption) | exact hTz.on HBB.out | exact hTz.alloc _ | exact (hTz.on (by assumption)).alloc _ | exact (hTz.on HBB.out).alloc _ | exact (hTz.on (by assumption)).drewN _ | exact (hTz.on HBB.out).drewN _ | exact (hTz.alloc _).alloc _ | exact ((hTz.on (by assumption)).alloc _).alloc _)).mono ?_
  rintro e w3 ⟨hbp, hb3⟩
  obtain ⟨a2, c2, rfl, hn2⟩ := build_back hbp H64.out.1 H64.out.2 (LL.covers_ok xs) (LL.covers_close (LL.right_ord HR.out) HW.out) HR.out
  have HB3 := Lib.hid (bstep HB2.out hb3)
  have HN2 := Lib.hid hn2
  have HP3 := Lib.hid ((PrsI.below hb3 HP.out).mono hb3.size)
  clear hbp hb3 hn2 HB2 HP
  go_wp2_with fail
  refine (rsame5_any _ _ xs xs w3.heap.size w3 HN2.out ((HV.out.below HB3.out).mono HB3.out.size) (by have := H64.out.2; omega) (by have := H64.out.2; omega)).mono ?_
  rintro e w4 ⟨rfl, hb4⟩
  rw [show (xs == xs) = true by simp]
  have HB4 := Lib.hid (bstep HB3.out hb4)
  have HP4 := Lib.hid ((PrsI.below hb4 HP3.out).mono hb4.size)
  clear HB3 hb4 HP3 HN2
  have he := LL.covers_none HR.out HW.out H0.out
  have e1 : ((xs.length : Int) == 1) = true := by rw [beq_iff_eq]; omega
  have e0 : (((castP (LL.coversL xs)).length : Int) == 0) = true := by rw [H0.out]; rfl
  clear he
  go_wp2_with fail
  refine (awake5_any HBd.out HHt.out _ (by first | exact hTz | exact hTz.on (by assumption) | exact hTz.on HBB.out | exact hTz.alloc _ | exact (hTz.on (by assumption)).alloc _ | exact (hTz.on HBB.out).alloc _ | exact (hTz.on (by assumption)).drewN _ | exact (hTz.on HBB.out).drewN _ | exact (hTz.alloc _).alloc _ | exact ((hTz.on (by assumption)).alloc _).alloc _)).mono ?_
  rintro e w99 ⟨rfl, hb99⟩
  go_wp2_with fail
  go_ret
  exact ⟨rfl, bstep HB4.out hb99⟩
end Go.Proofs.YtaaicmldldkhhaaDoor
