import Derived.Test.YtbdmpilaeoclgaaDomV
import Derived.Test.YtbdmpilaeoclgaaGraD
set_option linter.unusedSimpArgs false
set_option linter.unusedVariables false
/-! DomWays: the walk -/
namespace Go.Proofs.Ytbdmpilaeoclgaa
open Go.RowKit
set_option maxRecDepth 100000 in
set_option maxHeartbeats 3200000 in
theorem domWays_in {va : Option Addr} {vc : Nat} {to : List (List Int)} (a b : Nat) (W : World) (HV : RowKit.Hid (GraphM W.heap.size W (.slice va to.length vc) to)) (HX : RowKit.Hid (Small to)) (hl : to.length ≤ 40) (HR : RowKit.Hid (GG.rightG to = true)) (ha : a < to.length) (hb : b < to.length) :
    Calls Try.prog 5 #[.slice va to.length vc, .int .i64 a, .int .i64 b] W fun e W' => e = .returned (.bool true) ∧ Below W.heap.size W W' := by
  have n1 : decide ((a : Int) < 0) = false := decide_eq_false (by omega)
  have n2 : decide ((b : Int) < 0) = false := decide_eq_false (by omega)
  have n3 : decide (to.length ≤ a) = false := decide_eq_false (by omega)
  have n4 : decide (to.length ≤ b) = false := decide_eq_false (by omega)
  have HT := Lib.hid (fun (h : DD.allB to = true) => DD.treeL_len HR.out h)
  have HN := Lib.hid (fun (h : DD.allB to = false) => DD.treeL_no (to := to) (fun hh => by rw [h] at hh; cases hh.2))
  go_enter Try.func5, Try.ntmps5
  go_wp2_with (first
    | (go_at_call 25; refine (rightG_any _ to _ HV.out HX.out).mono ?_; rintro e w' ⟨rfl, hB⟩; have HB := Lib.hid hB; clear hB; rw [HR.out])
    | (go_at_call 15; refine (tree_full (to := to) _ (HV.out.on HB.out HB.out.size) HX.out).mono ?_; rintro e w2 ⟨⟨tv, rfl, ht, hB2⟩, hok⟩; have HTR := Lib.hid ht; have HB2 := Lib.hid (bstep HB.out hB2); have HOK := Lib.hid (hok HR.out); clear ht hB2 hok))
  cases hall : DD.allB to
  · obtain ⟨k, hk⟩ := lostI_no HR.out hall
    have HK := Lib.hid hk
    have hte := HN.out hall
    have htr := HTR.out
    rw [hte] at htr
    obtain ⟨ta, tc, rfl⟩ := htr.form
    clear hk hall hte htr
    refine (lost_any (to := to) _ (HV.out.on HB2.out HB2.out.size) HX.out).mono ?_
    rintro e w3 ⟨rfl, hB3⟩
    rw [HK.out, foundE_hit]
    have HB3 := Lib.hid (bstep HB2.out hB3)
    clear hB3
    go_wp2_with fail
    refine (awakeD_any _).mono ?_
    rintro e w4 ⟨rfl, hb4⟩
    have HB4 := Lib.hid (bstep HB3.out hb4)
    clear hb4
    go_wp2_with fail
    go_ret
    exact ⟨rfl, HB4.out⟩
  · obtain ⟨T, hF⟩ := HOK.out hall
    have HK := Lib.hid (lostI_all HR.out hall)
    have HDM := Lib.hid (DD.fin_dom (a := a) HR.out hall hF hb)
    have HTL := Lib.hid (HT.out hall)
    clear hall hF
    refine (lost_any (to := to) _ (HV.out.on HB2.out HB2.out.size) HX.out).mono ?_
    rintro e w3 ⟨rfl, hB3⟩
    rw [HK.out, foundE_none]
    have HT3 := Lib.hid (HTR.out.on hB3 hB3.size)
    have HB3 := Lib.hid (bstep HB2.out hB3)
    clear hB3
    go_wp2_with fail
    refine (ddom_any a b _ HT3.out (by rw [HTL.out]; omega)).mono ?_
    rintro e w4 ⟨rfl, hb4⟩
    rw [HDM.out]
    have HB4 := Lib.hid (bstep HB3.out hb4)
    clear hb4
    go_wp2_with fail
    refine (rdom_any (to := to) a b _ (HV.out.on HB4.out HB4.out.size) HR.out ha hb).mono ?_
    rintro e w5 ⟨rfl, hb5⟩
    have HB5 := Lib.hid (bstep HB4.out hb5)
    clear hb5
    have hbb : (DD.ovB to a b == DD.ovB to a b) = true := beq_self_eq_true _
    generalize DD.ovB to a b = o at *
    cases o
    all_goals
      go_wp2_with fail
      refine (awakeD_any _).mono ?_
      rintro e w6 ⟨rfl, hb6⟩
      have HB6 := Lib.hid (bstep HB5.out hb6)
      clear hb6
      go_wp2_with fail
      go_ret
      exact ⟨rfl, HB6.out⟩
set_option maxRecDepth 100000 in
set_option maxHeartbeats 1600000 in
theorem ways_long {va : Option Addr} {vc : Nat} {to : List (List Int)} (a b : Int) (W : World) (HV : RowKit.Hid (GraphM W.heap.size W (.slice va to.length vc) to)) (HX : RowKit.Hid (Small to)) (hx0 : to.length ≤ 17592186044416) (h : ¬ to.length ≤ 40) :
    Calls Try.prog 5 #[.slice va to.length vc, .int .i64 a, .int .i64 b] W fun e W' => e = .returned (.bool true) ∧ Below W.heap.size W W' := by
  have HBB := Lib.hid (Below.refl W.heap.size W)
  go_enter Try.func5, Try.ntmps5
  go_wp2_with (first
    | (go_at_call 25; refine (rightG_any _ to _ HV.out HX.out).mono ?_; rintro e w' ⟨rfl, hB⟩; have HB := Lib.hid (bstep HBB.out hB); clear hB HBB; have HBB := HB; clear HB; rw [HR.out])
    | (go_at_call 18; refine (awakeD_any _).mono ?_; rintro e w' ⟨rfl, hbn⟩; have HB2 := Lib.hid (bstep HBB.out hbn); clear HBB hbn; have HBB := HB2; clear HB2))
  go_ret
  exact ⟨rfl, HBB.out⟩

set_option maxRecDepth 100000 in
set_option maxHeartbeats 1600000 in
theorem ways_no {va : Option Addr} {vc : Nat} {to : List (List Int)} (a b : Int) (W : World) (HV : RowKit.Hid (GraphM W.heap.size W (.slice va to.length vc) to)) (HX : RowKit.Hid (Small to)) (hx0 : to.length ≤ 17592186044416) (h : to.length ≤ 40) (HR : RowKit.Hid (GG.rightG to = false)) :
    Calls Try.prog 5 #[.slice va to.length vc, .int .i64 a, .int .i64 b] W fun e W' => e = .returned (.bool true) ∧ Below W.heap.size W W' := by
  have HBB := Lib.hid (Below.refl W.heap.size W)
  go_enter Try.func5, Try.ntmps5
  go_wp2_with (first
    | (go_at_call 25; refine (rightG_any _ to _ HV.out HX.out).mono ?_; rintro e w' ⟨rfl, hB⟩; have HB := Lib.hid (bstep HBB.out hB); clear hB HBB; have HBB := HB; clear HB; rw [HR.out])
    | (go_at_call 18; refine (awakeD_any _).mono ?_; rintro e w' ⟨rfl, hbn⟩; have HB2 := Lib.hid (bstep HBB.out hbn); clear HBB hbn; have HBB := HB2; clear HB2))
  go_ret
  exact ⟨rfl, HBB.out⟩

set_option maxRecDepth 100000 in
set_option maxHeartbeats 1600000 in
theorem ways_out0 {va : Option Addr} {vc : Nat} {to : List (List Int)} (a b : Int) (W : World) (HV : RowKit.Hid (GraphM W.heap.size W (.slice va to.length vc) to)) (HX : RowKit.Hid (Small to)) (hx0 : to.length ≤ 17592186044416) (h : to.length ≤ 40) (HR : RowKit.Hid (GG.rightG to = true)) (n0 : decide (a < 0) = true) :
    Calls Try.prog 5 #[.slice va to.length vc, .int .i64 a, .int .i64 b] W fun e W' => e = .returned (.bool true) ∧ Below W.heap.size W W' := by
  have HBB := Lib.hid (Below.refl W.heap.size W)
  go_enter Try.func5, Try.ntmps5
  go_wp2_with (first
    | (go_at_call 25; refine (rightG_any _ to _ HV.out HX.out).mono ?_; rintro e w' ⟨rfl, hB⟩; have HB := Lib.hid (bstep HBB.out hB); clear hB HBB; have HBB := HB; clear HB; rw [HR.out])
    | (go_at_call 18; refine (awakeD_any _).mono ?_; rintro e w' ⟨rfl, hbn⟩; have HB2 := Lib.hid (bstep HBB.out hbn); clear HBB hbn; have HBB := HB2; clear HB2))
  go_ret
  exact ⟨rfl, HBB.out⟩

set_option maxRecDepth 100000 in
set_option maxHeartbeats 1600000 in
theorem ways_out1 {va : Option Addr} {vc : Nat} {to : List (List Int)} (a b : Int) (W : World) (HV : RowKit.Hid (GraphM W.heap.size W (.slice va to.length vc) to)) (HX : RowKit.Hid (Small to)) (hx0 : to.length ≤ 17592186044416) (h : to.length ≤ 40) (HR : RowKit.Hid (GG.rightG to = true)) (n0 : decide (a < 0) = false) (n1 : decide (b < 0) = true) :
    Calls Try.prog 5 #[.slice va to.length vc, .int .i64 a, .int .i64 b] W fun e W' => e = .returned (.bool true) ∧ Below W.heap.size W W' := by
  have HBB := Lib.hid (Below.refl W.heap.size W)
  go_enter Try.func5, Try.ntmps5
  go_wp2_with (first
    | (go_at_call 25; refine (rightG_any _ to _ HV.out HX.out).mono ?_; rintro e w' ⟨rfl, hB⟩; have HB := Lib.hid (bstep HBB.out hB); clear hB HBB; have HBB := HB; clear HB; rw [HR.out])
    | (go_at_call 18; refine (awakeD_any _).mono ?_; rintro e w' ⟨rfl, hbn⟩; have HB2 := Lib.hid (bstep HBB.out hbn); clear HBB hbn; have HBB := HB2; clear HB2))
  go_ret
  exact ⟨rfl, HBB.out⟩

set_option maxRecDepth 100000 in
set_option maxHeartbeats 1600000 in
theorem ways_out2 {va : Option Addr} {vc : Nat} {to : List (List Int)} (a b : Int) (W : World) (HV : RowKit.Hid (GraphM W.heap.size W (.slice va to.length vc) to)) (HX : RowKit.Hid (Small to)) (hx0 : to.length ≤ 17592186044416) (h : to.length ≤ 40) (HR : RowKit.Hid (GG.rightG to = true)) (n0 : decide (a < 0) = false) (n1 : decide (b < 0) = false) (n2 : decide ((to.length : Int) ≤ a) = true) :
    Calls Try.prog 5 #[.slice va to.length vc, .int .i64 a, .int .i64 b] W fun e W' => e = .returned (.bool true) ∧ Below W.heap.size W W' := by
  have HBB := Lib.hid (Below.refl W.heap.size W)
  go_enter Try.func5, Try.ntmps5
  go_wp2_with (first
    | (go_at_call 25; refine (rightG_any _ to _ HV.out HX.out).mono ?_; rintro e w' ⟨rfl, hB⟩; have HB := Lib.hid (bstep HBB.out hB); clear hB HBB; have HBB := HB; clear HB; rw [HR.out])
    | (go_at_call 18; refine (awakeD_any _).mono ?_; rintro e w' ⟨rfl, hbn⟩; have HB2 := Lib.hid (bstep HBB.out hbn); clear HBB hbn; have HBB := HB2; clear HB2))
  go_ret
  exact ⟨rfl, HBB.out⟩

set_option maxRecDepth 100000 in
set_option maxHeartbeats 1600000 in
theorem ways_out3 {va : Option Addr} {vc : Nat} {to : List (List Int)} (a b : Int) (W : World) (HV : RowKit.Hid (GraphM W.heap.size W (.slice va to.length vc) to)) (HX : RowKit.Hid (Small to)) (hx0 : to.length ≤ 17592186044416) (h : to.length ≤ 40) (HR : RowKit.Hid (GG.rightG to = true)) (n0 : decide (a < 0) = false) (n1 : decide (b < 0) = false) (n2 : decide ((to.length : Int) ≤ a) = false) (n3 : decide ((to.length : Int) ≤ b) = true) :
    Calls Try.prog 5 #[.slice va to.length vc, .int .i64 a, .int .i64 b] W fun e W' => e = .returned (.bool true) ∧ Below W.heap.size W W' := by
  have HBB := Lib.hid (Below.refl W.heap.size W)
  go_enter Try.func5, Try.ntmps5
  go_wp2_with (first
    | (go_at_call 25; refine (rightG_any _ to _ HV.out HX.out).mono ?_; rintro e w' ⟨rfl, hB⟩; have HB := Lib.hid (bstep HBB.out hB); clear hB HBB; have HBB := HB; clear HB; rw [HR.out])
    | (go_at_call 18; refine (awakeD_any _).mono ?_; rintro e w' ⟨rfl, hbn⟩; have HB2 := Lib.hid (bstep HBB.out hbn); clear HBB hbn; have HBB := HB2; clear HB2))
  go_ret
  exact ⟨rfl, HBB.out⟩
theorem domWays_walk {v : Value} {to : List (List Int)} (a b : Int) (W : World) (hv : GraphM W.heap.size W v to) (hx : Small to) :
    Calls Try.prog 5 #[v, .int .i64 a, .int .i64 b] W fun e W' => e = .returned (.bool true) ∧ Below W.heap.size W W' := by
  have HV := Lib.hid hv
  have HX := Lib.hid hx
  have hx0 := hx.1
  obtain ⟨va, vc, rfl⟩ := hv.form
  clear hv hx
  by_cases h : to.length ≤ 40
  · cases hr : GG.rightG to
    · exact ways_no a b W HV HX hx0 h (Lib.hid hr)
    · have HR := Lib.hid hr
      cases n0 : decide (a < 0)
      rotate_left
      · exact ways_out0 a b W HV HX hx0 h HR n0
      cases n1 : decide (b < 0)
      rotate_left
      · exact ways_out1 a b W HV HX hx0 h HR n0 n1
      cases n2 : decide ((to.length : Int) ≤ a)
      rotate_left
      · exact ways_out2 a b W HV HX hx0 h HR n0 n1 n2
      cases n3 : decide ((to.length : Int) ≤ b)
      rotate_left
      · exact ways_out3 a b W HV HX hx0 h HR n0 n1 n2 n3
      rw [decide_eq_false_iff_not] at n0 n1 n2 n3
      obtain ⟨x, rfl⟩ : ∃ x : Nat, a = (x : Int) := ⟨a.toNat, by omega⟩
      obtain ⟨y, rfl⟩ : ∃ y : Nat, b = (y : Int) := ⟨b.toNat, by omega⟩
      exact domWays_in x y W HV HX h HR (by omega) (by omega)
  · exact ways_long a b W HV HX hx0 h
end Go.Proofs.Ytbdmpilaeoclgaa
