import Derived.Test.YtaaicmldldkhhaaDoorPlatU
set_option linter.unusedSimpArgs false
set_option linter.unusedVariables false
/-! the walks of layer 5's Bottom, Top, Height -/
namespace Go.Proofs.YtaaicmldldkhhaaDoor
open Go.RowKit

/-- the end of a lattice, one way round -/
def endE (xs : List Int) (t : Bool) : Ending := .returned (.tuple #[.int .i64 (if LL.rightB xs = true then LL.endI (beyL xs t) else 0), .bool (LL.rightB xs)])
theorem end_yes {xs : List Int} (hr : LL.rightB xs = true) (hx : Wide xs) (t : Bool) : ∃ j : Nat, LL.endI (beyL xs t) = (j : Int) ∧ endE xs t = nearE (LL.endI (beyL xs t)) := by
  have key : ∃ j : Nat, LL.endI (beyL xs t) = (j : Int) := by
    cases t
    · obtain ⟨k, hk, h⟩ := LL.ex_end hr hx
      exact ⟨k, LL.endI_is hr hk h⟩
    · obtain ⟨k, hk, h⟩ := LL.ex_far hr hx
      exact ⟨k, (LL.dual_end (LL.right_ord hr)).trans (LL.farI_is hr hk h)⟩
  obtain ⟨j, hj⟩ := key
  refine ⟨j, hj, ?_⟩
  unfold endE nearE
  rw [hr, if_pos rfl, hj, if_pos (by omega), decide_eq_true (by omega)]
set_option maxRecDepth 100000 in
set_option maxHeartbeats 1600000 in
theorem outmost5_any (v : Value) (xs : List Int) (n₀ : Nat) (t : Bool) (w : World) (hv : Nums .u64 n₀ w v xs) (hn : n₀ ≤ w.heap.size) (hx : Wide xs) (hl : xs.length ≤ big5) (hT : Tz w) :
    Calls Tryd.prog 45 #[v, .bool t] w fun e w' => e = endE xs t ∧ Below w.heap.size w w' := by
  have HV := Lib.hid hv
  have HX := Lib.hid hx
  have HL := Lib.hid hl
  obtain ⟨x, cap, rfl⟩ := hv.form
  clear hv hx hl
  cases hr : LL.rightB xs
  · have HR := Lib.hid hr
    have HI := Lib.hid (show endE xs t = .returned (.tuple #[.int .i64 0, .bool false]) by unfold endE; rw [hr]; rfl)
    clear hr
    go_enter Tryd.func45, Tryd.ntmps45
    go_wp2_with fail
    refine (right5_any _ xs n₀ _ HV.out hn HX.out HL.out hT).mono ?_
    rintro e w1 ⟨rfl, hb1⟩
    rw [HR.out]
    go_wp2_with fail
    go_ret2
    exact ⟨HI.out.symm, hb1⟩
  · have HR := Lib.hid hr
    obtain ⟨j, hj, hE⟩ := end_yes hr HX.out t
    have HJ := Lib.hid hj
    have HE := Lib.hid hE
    have HO := Lib.hid (LL.right_ord hr)
    clear hr hj hE
    go_enter Tryd.func45, Tryd.ntmps45
    go_wp2_with fail
    refine (right5_any _ xs n₀ _ HV.out hn HX.out HL.out hT).mono ?_
    rintro e w1 ⟨rfl, hb1⟩
    rw [HR.out]
    go_wp2_with fail
    refine (way_any x xs.length cap t w1).mono ?_
    rintro e w2 ⟨rfl, rfl⟩
    have hB2 : Below w.heap.size w (wayBoxes w1 (.slice x xs.length cap) t) := ((hb1.alloc hb1.size _).alloc (by have := hb1.size; simp; omega) _)
    have HW := Lib.hid (Way.made t (HV.out.below (hb1.mono hn)) (Nat.le_trans hn hb1.size))
    generalize wayBoxes w1 (.slice x xs.length cap) t = w4 at HW hB2 ⊢
    go_wp2_with fail
    refine (end_any _ _ xs.length _ xs t w4 HW.out HX.out HO.out rfl).mono ?_
    rintro e w5 ⟨rfl, rfl⟩
    rw [HJ.out, ← nearE_yes]
    go_wp2_with fail
    go_ret2
    exact ⟨by rw [HE.out, HJ.out]; exact nearE_yes j, hB2⟩
set_option maxHeartbeats 800000 in
theorem bottom5_any : BottomC := by
  intro v xs n₀ w hv hn hx hl hT
  obtain ⟨x, cap, rfl⟩ := hv.form
  have HC := Lib.hid (outmost5_any _ xs n₀ false w hv hn hx hl hT)
  obtain ⟨r, hr⟩ : ∃ r, (if LL.rightB xs = true then LL.endI xs else 0) = r := ⟨_, rfl⟩
  obtain ⟨q, hq⟩ : ∃ q, LL.rightB xs = q := ⟨_, rfl⟩
  have HE := Lib.hid (show endE xs false = .returned (.tuple #[.int .i64 r, .bool q]) by rw [← hr, ← hq]; rfl)
  rw [hr, hq]
  clear hv hx hl hr hq
  go_enter Tryd.func24, Tryd.ntmps24
  go_wp2_with fail
  refine HC.out.mono ?_
  rintro e w1 ⟨rfl, hb1⟩
  rw [HE.out]
  go_wp2_with fail
  go_ret2
  exact ⟨rfl, hb1⟩
theorem far_if {xs : List Int} : (if LL.rightB xs = true then LL.endI (beyL xs true) else 0) = (if LL.rightB xs = true then LL.farI xs else 0) := by
  by_cases h : LL.rightB xs = true
  · rw [if_pos h, if_pos h]; exact LL.dual_end (LL.right_ord h)
  · rw [if_neg h, if_neg h]
set_option maxHeartbeats 800000 in
theorem top5_any : TopC := by
  intro v xs n₀ w hv hn hx hl hT
  obtain ⟨x, cap, rfl⟩ := hv.form
  have HC := Lib.hid (outmost5_any _ xs n₀ true w hv hn hx hl hT)
  rw [← far_if]
  obtain ⟨r, hr⟩ : ∃ r, (if LL.rightB xs = true then LL.endI (beyL xs true) else 0) = r := ⟨_, rfl⟩
  obtain ⟨q, hq⟩ : ∃ q, LL.rightB xs = q := ⟨_, rfl⟩
  have HE := Lib.hid (show endE xs true = .returned (.tuple #[.int .i64 r, .bool q]) by rw [← hr, ← hq]; rfl)
  rw [hr, hq]
  clear hv hx hl hr hq
  go_enter Tryd.func25, Tryd.ntmps25
  go_wp2_with fail
  refine HC.out.mono ?_
  rintro e w1 ⟨rfl, hb1⟩
  rw [HE.out]
  go_wp2_with fail
  go_ret2
  exact ⟨rfl, hb1⟩
theorem right5_c : RightC := fun v xs n₀ w hv hn hx hl hT => right5_any v xs n₀ w hv hn hx hl hT

set_option maxRecDepth 100000 in
set_option maxHeartbeats 1600000 in
theorem height5_any : HeightC := by
  intro v xs n₀ w hv hn hx hl hT
  have HV := Lib.hid hv
  have HX := Lib.hid hx
  have HL := Lib.hid hl
  obtain ⟨x, cap, rfl⟩ := hv.form
  clear hv hx hl
  cases hr : LL.rightB xs
  · have HR := Lib.hid hr
    rw [if_neg Bool.false_ne_true]
    clear hr
    go_enter Tryd.func26, Tryd.ntmps26
    go_wp2_with fail
    refine (right5_any _ xs n₀ _ HV.out hn HX.out HL.out hT).mono ?_
    rintro e w1 ⟨rfl, hb1⟩
    rw [HR.out]
    go_wp2_with fail
    go_ret
    exact ⟨rfl, hb1⟩
  · have HR := Lib.hid hr
    have HO := Lib.hid (LL.right_ord hr)
    have hl64 := (LL.ord_len HO.out).2
    have hh : LL.heightN xs < xs.length := by
      have h1 := (LL.ord_len HO.out).1
      rcases LL.maxUp_hit (LL.longL xs) xs.length with e | ⟨k, hk, e⟩
      · show LL.maxUp _ _ < _; omega
      · have := LL.long_bd HO.out HX.out hk
        show LL.maxUp _ _ < _; omega
    have HLv := Lib.hid (LL.lev_bd HX.out hl64)
    rw [if_pos rfl]
    clear hr
    go_enter Tryd.func26, Tryd.ntmps26
    go_wp2_with fail
    refine (right5_any _ xs n₀ _ HV.out hn HX.out HL.out hT).mono ?_
    rintro e w1 ⟨rfl, hb1⟩
    rw [HR.out]
    go_wp2_with fail
    refine (below_any _ _ (by omega) (by omega)).mono ?_
    rintro e w2 ⟨rfl, rfl⟩
    rw [show MM.belowI (xs.length : Int) = LL.lev xs 0 from rfl]
    go_wp2_with fail
    go_loopw [3, 4] (fun s m wr => ∃ r : Nat, r ≤ LL.heightN xs + 1 ∧ s = .int .i64 ((r : Int) - 1) ∧ m = .int .u64 (LL.lev xs r) ∧ Below w.heap.size w wr) (fun s _ _ => (65 - intOf s).toNat)
    case atStart => exact ⟨0, Nat.zero_le _, rfl, rfl, hb1⟩
    case round =>
      obtain ⟨r, hrr, rfl, rfl, hB⟩ := hrel
      clear hb1
      by_cases hz : LL.lev xs r = 0
      · have HZ := Lib.hid (LL.lev_none HO.out HX.out hz)
        have he : (r : Int) - 1 = (LL.heightN xs : Int) := by have := HZ.out; omega
        rw [hz, he]
        clear hz
        go_wp2_with fail
        go_ret
        exact ⟨rfl, hB⟩
      · have hle := LL.lev_some HO.out HX.out hz
        have hb : (LL.lev xs r != 0) = true := by rw [bne_iff_ne]; exact hz
        have HM := Lib.hid (show ∀ i : Nat, MM.hasB (LL.lev xs r) (i : Int) = true → i < xs.length from fun i hi => by
          obtain ⟨a, ha, hc⟩ := (LL.lev_iff HO.out HX.out r i).1 hi
          exact LL.chain_lt HO.out r a i ha hc)
        have HN := Lib.hid (show LL.aboveF xs (MM.bitsOf (LL.lev xs r)) = LL.lev xs (r + 1) from rfl)
        have hbd := HLv.out r
        have HBd := Lib.hid hbd
        clear hz
        generalize LL.lev xs r = m at hb HM HN hbd HBd ⊢
        clear hbd
        go_wp2_with fail
        refine (aboveS_any _ xs n₀ m _ (HV.out.below (hB.mono hn)) (Nat.le_trans hn hB.size) HX.out hl64 HBd.out.1 HBd.out.2 HM.out (hT.on hB)).mono ?_
        rintro e w3 ⟨rfl, hb3⟩
        rw [HN.out]
        go_wp2_with fail
        go_roundw
        case rel => exact ⟨r + 1, by omega, by first | rfl | (congr 1; omega) | go_num, rfl, bstep hB hb3⟩
        case measure => simp [intOf]; omega
end Go.Proofs.YtaaicmldldkhhaaDoor
