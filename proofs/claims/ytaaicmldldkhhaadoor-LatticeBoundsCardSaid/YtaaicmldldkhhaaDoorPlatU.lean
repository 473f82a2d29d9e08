import Derived.Test.YtaaicmldldkhhaaDoorPlatR
import Derived.Test.YtaaicmldldkhhaaDoorLatT
set_option linter.unusedSimpArgs false
set_option linter.unusedVariables false
/-! the walks of layer 5's Leq, Join, Meet, Bottom, Top, Height -/
namespace Go.Proofs.YtaaicmldldkhhaaDoor
open Go.RowKit

theorem lev_nat {a : Int} {n : Nat} (h : (decide (0 ≤ a) && decide (a < n)) = true) : ∃ k : Nat, a = (k : Int) ∧ k < n := by
  rw [Bool.and_eq_true, decide_eq_true_eq, decide_eq_true_eq] at h
  exact ⟨a.toNat, by omega, by omega⟩
theorem inB_a {xs : List Int} {a b : Int} (h : (decide (0 ≤ a) && decide (a < xs.length)) = false) : inB xs a b = false := by unfold inB; rw [h]; rfl
theorem inB_b {xs : List Int} {a b : Int} (h : (decide (0 ≤ b) && decide (b < xs.length)) = false) : inB xs a b = false := by unfold inB; rw [h, Bool.false_and, Bool.and_false]
theorem inB_r {xs : List Int} {a b : Int} (h : LL.rightB xs = false) : inB xs a b = false := by unfold inB; rw [h, Bool.and_false, Bool.and_false]
theorem leq_is {xs : List Int} (hr : LL.rightB xs = true) {a : Nat} (ha : a < xs.length) (b : Int) : (inB xs a b && LL.ab xs (a : Int).toNat b.toNat) = MM.hasB (xs[a]?.getD 0) b := by
  have hl := (LL.ord_len (LL.right_ord hr)).2
  by_cases hb : 0 ≤ b ∧ b < xs.length
  · obtain ⟨k, rfl⟩ : ∃ k : Nat, b = k := ⟨b.toNat, by omega⟩
    rw [inB_yes hr ha (by omega), Bool.true_and, Int.toNat_natCast, Int.toNat_natCast]; rfl
  · rw [inB_b (by rw [Bool.and_eq_false_iff, decide_eq_false_iff_not, decide_eq_false_iff_not]; omega), Bool.false_and]
    cases h : MM.hasB (xs[a]?.getD 0) b
    · rfl
    · exfalso
      have h64 : 0 ≤ b ∧ b < 64 := by
        unfold MM.hasB at h
        rw [Bool.and_eq_true, decide_eq_true_eq] at h
        exact h.1
      obtain ⟨k, rfl⟩ : ∃ k : Nat, b = k := ⟨b.toNat, by omega⟩
      have := (LL.ord_at (LL.right_ord hr) ha (show LL.ab xs a k = true from h)).1
      omega

set_option maxRecDepth 100000 in
set_option maxHeartbeats 1600000 in
theorem leq5_any : LeqC := by
  intro v xs n₀ a b w hv hn hx hl ha hb hT
  have HV := Lib.hid hv
  have HX := Lib.hid hx
  have HL := Lib.hid hl
  cases hr : LL.rightB xs
  · have HR := Lib.hid hr
    have HI := Lib.hid (show (inB xs a b && LL.ab xs a.toNat b.toNat) = false by rw [inB_r hr, Bool.false_and])
    obtain ⟨x, cap, rfl⟩ := hv.form
    clear hv hx hl ha hb hr
    go_enter Tryd.func20, Tryd.ntmps20
    go_wp2_with fail
    refine (right5_any _ xs n₀ _ HV.out hn HX.out HL.out hT).mono ?_
    rintro e w1 ⟨rfl, hb1⟩
    rw [HR.out]
    go_wp2_with fail
    go_ret
    exact ⟨ret_bool HI.out.symm, hb1⟩
  · have HR := Lib.hid hr
    have hlen := LL.ord_len (LL.right_ord hr)
    cases hla : (decide (0 ≤ a) && decide (a < (xs.length : Int)))
    · have HA := Lib.hid hla
      have HI := Lib.hid (show (inB xs a b && LL.ab xs a.toNat b.toNat) = false by rw [inB_a hla, Bool.false_and])
      obtain ⟨x, cap, rfl⟩ := hv.form
      clear hv hx hl ha hb hr hla
      go_enter Tryd.func20, Tryd.ntmps20
      go_wp2_with fail
      refine (right5_any _ xs n₀ _ HV.out hn HX.out HL.out hT).mono ?_
      rintro e w1 ⟨rfl, hb1⟩
      rw [HR.out]
      go_wp2_with fail
      refine (level_any x xs.length cap a w1).mono ?_
      rintro e w2 ⟨rfl, rfl⟩
      rw [HA.out]
      go_wp2_with fail
      go_ret
      exact ⟨ret_bool HI.out.symm, hb1⟩
    · have HA := Lib.hid hla
      obtain ⟨k, rfl, hk⟩ := lev_nat hla
      have HI := Lib.hid (leq_is hr hk b)
      obtain ⟨bk, off, cap, rfl, hbk, hc⟩ := hv.at (by omega)
      have hck := hc k hk
      have HXk := Lib.hid (hx.at k)
      have i1 : (0 : Int) ≤ k ∧ (k : Int) < xs.length := by omega
      clear hv hx hl ha hb hr hla hc
      obtain ⟨xk, hxk⟩ : ∃ xk, xs[k]?.getD 0 = xk := ⟨_, rfl⟩
      rw [hxk] at hck HXk HI
      clear hxk
      go_enter Tryd.func20, Tryd.ntmps20
      go_wp2_with fail
      refine (right5_any _ xs n₀ _ HV.out hn HX.out HL.out hT).mono ?_
      rintro e w1 ⟨rfl, hb1⟩
      have hck1 : w1.cell? ⟨bk, off + k, none⟩ = some (.int .u64 xk) := (hb1.cell (p := ⟨bk, off + k, none⟩) (by show bk < w.heap.size; omega)).trans hck
      rw [HR.out]
      clear hck
      go_wp2_with fail
      refine (level_any _ xs.length cap k w1).mono ?_
      rintro e w2 ⟨rfl, rfl⟩
      rw [HA.out]
      go_wp2_with fail
      refine (has_any _ _ _ HXk.out.1 HXk.out.2).mono ?_
      rintro e w3 ⟨rfl, rfl⟩
      go_wp2_with fail
      go_ret
      exact ⟨ret_bool HI.out.symm, hb1⟩

/-- what is told of two levels, the order taken one way round -/
def bndE (xs : List Int) (t : Bool) (a b : Int) : Ending := .returned (.tuple #[.int .i64 (if inB xs a b = true then LL.joinI (beyL xs t) a.toNat b.toNat else 0), .bool (inB xs a b)])
theorem bndE_no {xs : List Int} {t : Bool} {a b : Int} (h : inB xs a b = false) : bndE xs t a b = .returned (.tuple #[.int .i64 0, .bool false]) := by
  unfold bndE; rw [h]; rfl
theorem bnd_yes {xs : List Int} (hr : LL.rightB xs = true) {a b : Nat} (t : Bool) (ha : a < xs.length) (hb : b < xs.length) : ∃ j : Nat, LL.joinI (beyL xs t) a b = (j : Int) ∧ bndE xs t a b = nearE (LL.joinI (beyL xs t) a b) := by
  have key : ∃ j : Nat, LL.joinI (beyL xs t) a b = (j : Int) := by
    cases t
    · exact ⟨_, (LL.joinN_is hr ha hb).2⟩
    · exact ⟨_, (LL.dual_join (LL.right_ord hr) ha hb).trans (LL.meetN_is hr ha hb).2⟩
  obtain ⟨j, hj⟩ := key
  refine ⟨j, hj, ?_⟩
  unfold bndE nearE
  rw [inB_yes hr ha hb, if_pos rfl, Int.toNat_natCast, Int.toNat_natCast, hj, if_pos (by omega), decide_eq_true (by omega)]

set_option maxRecDepth 100000 in
set_option maxHeartbeats 1600000 in
theorem bound5_any (v : Value) (xs : List Int) (n₀ : Nat) (a b : Int) (t : Bool) (w : World) (hv : Nums .u64 n₀ w v xs) (hn : n₀ ≤ w.heap.size) (hx : Wide xs) (hl : xs.length ≤ big5) (hT : Tz w) :
    Calls Tryd.prog 42 #[v, .int .i64 a, .int .i64 b, .bool t] w fun e w' => e = bndE xs t a b ∧ Below w.heap.size w w' := by
  have HV := Lib.hid hv
  have HX := Lib.hid hx
  have HL := Lib.hid hl
  obtain ⟨x, cap, rfl⟩ := hv.form
  clear hv hx hl
  cases hla : (decide (0 ≤ a) && decide (a < (xs.length : Int)))
  · have HA := Lib.hid hla
    have HI := Lib.hid (bndE_no (t := t) (inB_a (b := b) hla))
    clear hla
    go_enter Tryd.func42, Tryd.ntmps42
    go_wp2_with fail
    refine (level_any x xs.length cap a w).mono ?_
    rintro e w2 ⟨rfl, rfl⟩
    rw [HA.out]
    go_wp2_with fail
    go_ret2
    exact ⟨HI.out.symm, Below.refl _ _⟩
  · have HA := Lib.hid hla
    cases hlb : (decide (0 ≤ b) && decide (b < (xs.length : Int)))
    · have HB := Lib.hid hlb
      have HI := Lib.hid (bndE_no (t := t) (inB_b (a := a) hlb))
      clear hla hlb
      go_enter Tryd.func42, Tryd.ntmps42
      go_wp2_with fail
      refine (level_any x xs.length cap a w).mono ?_
      rintro e w2 ⟨rfl, rfl⟩
      rw [HA.out]
      go_wp2_with fail
      refine (level_any x xs.length cap b _).mono ?_
      rintro e w3 ⟨rfl, rfl⟩
      rw [HB.out]
      go_wp2_with fail
      go_ret2
      exact ⟨HI.out.symm, Below.refl _ _⟩
    · have HB := Lib.hid hlb
      cases hr : LL.rightB xs
      · have HR := Lib.hid hr
        have HI := Lib.hid (bndE_no (t := t) (inB_r (a := a) (b := b) hr))
        clear hla hlb hr
        go_enter Tryd.func42, Tryd.ntmps42
        go_wp2_with fail
        refine (level_any x xs.length cap a w).mono ?_
        rintro e w2 ⟨rfl, rfl⟩
        rw [HA.out]
        go_wp2_with fail
        refine (level_any x xs.length cap b _).mono ?_
        rintro e w3 ⟨rfl, rfl⟩
        rw [HB.out]
        go_wp2_with fail
        refine (right5_any _ xs n₀ _ HV.out hn HX.out HL.out hT).mono ?_
        rintro e w1 ⟨rfl, hb1⟩
        rw [HR.out]
        go_wp2_with fail
        go_ret2
        exact ⟨HI.out.symm, hb1⟩
      · have HR := Lib.hid hr
        obtain ⟨ka, rfl, hka⟩ := lev_nat hla
        obtain ⟨kb, rfl, hkb⟩ := lev_nat hlb
        obtain ⟨j, hj, hE⟩ := bnd_yes hr t hka hkb
        have HJ := Lib.hid hj
        have HE := Lib.hid hE
        have HO := Lib.hid (LL.right_ord hr)
        clear hla hlb hr hj hE
        go_enter Tryd.func42, Tryd.ntmps42
        go_wp2_with fail
        refine (level_any x xs.length cap ka w).mono ?_
        rintro e w2 ⟨rfl, rfl⟩
        rw [HA.out]
        go_wp2_with fail
        refine (level_any x xs.length cap kb _).mono ?_
        rintro e w3 ⟨rfl, rfl⟩
        rw [HB.out]
        go_wp2_with fail
        refine (right5_any _ xs n₀ _ HV.out hn HX.out HL.out hT).mono ?_
        rintro e w1 ⟨rfl, hb1⟩
        rw [HR.out]
        go_wp2_with fail
        refine (way_any x xs.length cap t w1).mono ?_
        rintro e w2 ⟨rfl, rfl⟩
        have hB2 : Below w3.heap.size w3 (wayBoxes w1 (.slice x xs.length cap) t) := ((hb1.alloc hb1.size _).alloc (by have := hb1.size; simp; omega) _)
        have HW := Lib.hid (Way.made t (HV.out.below (hb1.mono hn)) (Nat.le_trans hn hb1.size))
        have hsz : (wayBoxes w1 (.slice x xs.length cap) t).heap.size = w1.heap.size + 2 := by unfold wayBoxes; simp
        have hT2 := hT.on hB2
        generalize wayBoxes w1 (.slice x xs.length cap) t = w4 at HW hsz hT2 hB2 ⊢
        go_wp2_with fail
        refine (nearest_any _ _ ka kb _ xs t w4 HW.out (by omega) HX.out HO.out hka hkb hT2).mono ?_
        rintro e w5 ⟨rfl, hb5⟩
        rw [HJ.out, ← nearE_yes]
        go_wp2_with fail
        go_ret2
        exact ⟨by rw [HE.out, HJ.out]; exact nearE_yes j, bstep hB2 hb5⟩
set_option maxHeartbeats 800000 in
theorem join5_any : JoinC := by
  intro v xs n₀ a b w hv hn hx hl ha hb hT
  obtain ⟨x, cap, rfl⟩ := hv.form
  have HC := Lib.hid (bound5_any _ xs n₀ a b false w hv hn hx hl hT)
  obtain ⟨r, hr⟩ : ∃ r, (if inB xs a b = true then LL.joinI xs a.toNat b.toNat else 0) = r := ⟨_, rfl⟩
  obtain ⟨q, hq⟩ : ∃ q, inB xs a b = q := ⟨_, rfl⟩
  have HE := Lib.hid (show bndE xs false a b = .returned (.tuple #[.int .i64 r, .bool q]) by rw [← hr, ← hq]; rfl)
  rw [hr, hq]
  clear hv hx hl ha hb hr hq
  go_enter Tryd.func18, Tryd.ntmps18
  go_wp2_with fail
  refine HC.out.mono ?_
  rintro e w1 ⟨rfl, hb1⟩
  rw [HE.out]
  go_wp2_with fail
  go_ret2
  exact ⟨rfl, hb1⟩
theorem meet_if {xs : List Int} {a b : Int} : (if inB xs a b = true then LL.joinI (beyL xs true) a.toNat b.toNat else 0) = (if inB xs a b = true then LL.meetI xs a.toNat b.toNat else 0) := by
  by_cases h : inB xs a b = true
  · rw [if_pos h, if_pos h]
    unfold inB at h
    simp only [Bool.and_eq_true, decide_eq_true_eq] at h
    exact LL.dual_join (LL.right_ord h.2.2) (by omega) (by omega)
  · rw [if_neg h, if_neg h]
set_option maxHeartbeats 800000 in
theorem meet5_any : MeetC := by
  intro v xs n₀ a b w hv hn hx hl ha hb hT
  obtain ⟨x, cap, rfl⟩ := hv.form
  have HC := Lib.hid (bound5_any _ xs n₀ a b true w hv hn hx hl hT)
  rw [← meet_if]
  obtain ⟨r, hr⟩ : ∃ r, (if inB xs a b = true then LL.joinI (beyL xs true) a.toNat b.toNat else 0) = r := ⟨_, rfl⟩
  obtain ⟨q, hq⟩ : ∃ q, inB xs a b = q := ⟨_, rfl⟩
  have HE := Lib.hid (show bndE xs true a b = .returned (.tuple #[.int .i64 r, .bool q]) by rw [← hr, ← hq]; rfl)
  rw [hr, hq]
  clear hv hx hl ha hb hr hq
  go_enter Tryd.func19, Tryd.ntmps19
  go_wp2_with fail
  refine HC.out.mono ?_
  rintro e w1 ⟨rfl, hb1⟩
  rw [HE.out]
  go_wp2_with fail
  go_ret2
  exact ⟨rfl, hb1⟩
end Go.Proofs.YtaaicmldldkhhaaDoor
