import Derived.Test.YtkfojieiemgliaaGraZ
import Derived.Test.YtkfojieiemgliaaGraD
set_option linter.unusedSimpArgs false
set_option linter.unusedVariables false
/-! GraphEnds: the walk -/
namespace Go.Proofs.Ytkfojieiemgliaa
open Go.RowKit
theorem firstN_cases (n : Nat) (p : Nat → Bool) : (∃ k : Nat, GG.firstN n p = (k : Int) ∧ k < n) ∨ GG.firstN n p = -1 := by
  unfold GG.firstN
  split
  · rename_i k h
    exact .inl ⟨k, rfl, List.mem_range.1 (List.mem_of_find?_eq_some h)⟩
  · exact .inr rfl
theorem lostI_cases (to : List (List Int)) : (∃ k : Nat, lostI to = (k : Int) ∧ k < to.length) ∨ lostI to = -1 := by
  unfold lostI; split
  · exact firstN_cases _ _
  · exact .inr rfl
theorem stuckI_cases (to : List (List Int)) : (∃ k : Nat, stuckI to = (k : Int) ∧ k < to.length) ∨ stuckI to = -1 := by
  unfold stuckI; split
  · exact firstN_cases _ _
  · exact .inr rfl
set_option maxRecDepth 100000 in
set_option maxHeartbeats 3200000 in
theorem graphEnds_walk {v : Value} {to : List (List Int)} (W : World) (hv : GraphM W.heap.size W v to) (hx : Small to) :
    Calls Try.prog 5 #[v] W fun e W' => e = .returned (.bool true) ∧ Below W.heap.size W W' := by
  have hx0 := hx.1
  have HV := Lib.hid hv
  have HX := Lib.hid hx
  obtain ⟨va, vc, rfl⟩ := hv.form
  clear hv hx
  by_cases hl : to.length ≤ 64
  · go_enter Try.func5, Try.ntmps5
    go_wp2_with fail
    refine (copyG_any _ to _ HV.out HX.out (by omega)).mono ?_
    rintro e w1 ⟨cv, rfl, hc, hb⟩
    have HC1 := Lib.hid hc
    have HB1 := Lib.hid hb
    clear hc hb
    go_wp2_with fail
    refine (lost_any _ HC1.out HX.out).mono ?_
    rintro e w2 ⟨rfl, hb⟩
    have HB2 := Lib.hid (bstep HB1.out hb)
    clear hb
    unfold foundE
    go_wp2_with fail
    refine (copyG_any _ to _ (HV.out.on HB2.out HB2.out.size) HX.out (by omega)).mono ?_
    rintro e w3 ⟨cv3, rfl, hc, hb⟩
    have HC3 := Lib.hid hc
    have HB3 := Lib.hid (bstep HB2.out hb)
    clear hc hb
    go_wp2_with fail
    refine (stuck_any _ HC3.out HX.out).mono ?_
    rintro e w4 ⟨rfl, hb⟩
    have HB4 := Lib.hid (bstep HB3.out hb)
    clear hb
    unfold foundE
    go_wp2_with fail
    refine (rrightG_any _ to _ _ (HV.out.on HB4.out HB4.out.size) HX.out).mono ?_
    rintro e w5 ⟨rfl, d, rfl⟩
    have HB5 := Lib.hid (below_dN HB4.out d)
    cases hr : GG.rightG to
    · have e1 : lostI to = -1 := by unfold lostI; rw [if_neg (by rw [hr]; simp)]
      have e2 : stuckI to = -1 := by unfold stuckI; rw [if_neg (by rw [hr]; simp)]
      have E1 := Lib.hid (show foundN (lostI to) = 0 ∧ foundB (lostI to) = false by rw [e1]; exact ⟨rfl, rfl⟩)
      have E2 := Lib.hid (show foundN (stuckI to) = 0 ∧ foundB (stuckI to) = false by rw [e2]; exact ⟨rfl, rfl⟩)
      rw [E1.out.1, E1.out.2, E2.out.1, E2.out.2]
      clear hr e1 e2
      go_wp2_with fail
      refine (awakeG_any _).mono ?_
      rintro e w6 ⟨rfl, hb⟩
      have HB6 := Lib.hid (bstep HB5.out hb)
      clear hb
      go_wp2_with fail
      go_ret
      exact ⟨rfl, HB6.out⟩
    · have HR := Lib.hid hr
      clear hr
      go_wp2_with fail
      refine (rlost_any (to := to) _ (HV.out.on HB5.out HB5.out.size) HR.out).mono ?_
      rintro e w6 ⟨rfl, hb⟩
      have HB6 := Lib.hid (bstep HB5.out hb)
      clear hb
      go_wp2_with fail
      refine (rstuck_any (to := to) _ (HV.out.on HB6.out HB6.out.size) HR.out).mono ?_
      rintro e w7 ⟨rfl, hb⟩
      have HB7 := Lib.hid (bstep HB6.out hb)
      clear hb
      rcases lostI_cases to with ⟨x, hx, hxl⟩ | hx
      · rcases stuckI_cases to with ⟨y, hy, hyl⟩ | hy
        · rw [hx, show foundN (x : Int) = (x : Int) from by unfold foundN; rw [if_pos (by omega)], show foundB (x : Int) = true from decide_eq_true (by omega)]
          have hmx : max (x : Int) 0 = x := Int.max_eq_left (by omega)
          have hpx : (0 : Int) ≤ (x : Int) := by omega
          rw [hy, show foundN (y : Int) = (y : Int) from by unfold foundN; rw [if_pos (by omega)], show foundB (y : Int) = true from decide_eq_true (by omega)]
          have hmy : max (y : Int) 0 = y := Int.max_eq_left (by omega)
          have hpy : (0 : Int) ≤ (y : Int) := by omega
          clear hx hy
          go_wp2_with fail
          refine (awakeG_any _).mono ?_
          rintro e w8 ⟨rfl, hb⟩
          have HB8 := Lib.hid (bstep HB7.out hb)
          clear hb
          go_wp2_with fail
          go_ret
          exact ⟨rfl, HB8.out⟩
        · rw [hx, show foundN (x : Int) = (x : Int) from by unfold foundN; rw [if_pos (by omega)], show foundB (x : Int) = true from decide_eq_true (by omega)]
          have hmx : max (x : Int) 0 = x := Int.max_eq_left (by omega)
          have hpx : (0 : Int) ≤ (x : Int) := by omega
          obtain ⟨my, emy⟩ : ∃ m : Int, m = -1 := ⟨_, rfl⟩
          rw [hy, ← emy, show foundN my = 0 from by rw [emy]; rfl, show foundB my = false from by rw [emy]; rfl]
          have hmy : max my 0 = 0 := by rw [emy]; rfl
          have hpy : decide (0 ≤ my) = false := decide_eq_false (by omega)
          clear emy
          clear hx hy
          go_wp2_with fail
          refine (awakeG_any _).mono ?_
          rintro e w8 ⟨rfl, hb⟩
          have HB8 := Lib.hid (bstep HB7.out hb)
          clear hb
          go_wp2_with fail
          go_ret
          exact ⟨rfl, HB8.out⟩
      · rcases stuckI_cases to with ⟨y, hy, hyl⟩ | hy
        · obtain ⟨mx, emx⟩ : ∃ m : Int, m = -1 := ⟨_, rfl⟩
          rw [hx, ← emx, show foundN mx = 0 from by rw [emx]; rfl, show foundB mx = false from by rw [emx]; rfl]
          have hmx : max mx 0 = 0 := by rw [emx]; rfl
          have hpx : decide (0 ≤ mx) = false := decide_eq_false (by omega)
          clear emx
          rw [hy, show foundN (y : Int) = (y : Int) from by unfold foundN; rw [if_pos (by omega)], show foundB (y : Int) = true from decide_eq_true (by omega)]
          have hmy : max (y : Int) 0 = y := Int.max_eq_left (by omega)
          have hpy : (0 : Int) ≤ (y : Int) := by omega
          clear hx hy
          go_wp2_with fail
          refine (awakeG_any _).mono ?_
          rintro e w8 ⟨rfl, hb⟩
          have HB8 := Lib.hid (bstep HB7.out hb)
          clear hb
          go_wp2_with fail
          go_ret
          exact ⟨rfl, HB8.out⟩
        · obtain ⟨mx, emx⟩ : ∃ m : Int, m = -1 := ⟨_, rfl⟩
          rw [hx, ← emx, show foundN mx = 0 from by rw [emx]; rfl, show foundB mx = false from by rw [emx]; rfl]
          have hmx : max mx 0 = 0 := by rw [emx]; rfl
          have hpx : decide (0 ≤ mx) = false := decide_eq_false (by omega)
          clear emx
          obtain ⟨my, emy⟩ : ∃ m : Int, m = -1 := ⟨_, rfl⟩
          rw [hy, ← emy, show foundN my = 0 from by rw [emy]; rfl, show foundB my = false from by rw [emy]; rfl]
          have hmy : max my 0 = 0 := by rw [emy]; rfl
          have hpy : decide (0 ≤ my) = false := decide_eq_false (by omega)
          clear emy
          clear hx hy
          go_wp2_with fail
          refine (awakeG_any _).mono ?_
          rintro e w8 ⟨rfl, hb⟩
          have HB8 := Lib.hid (bstep HB7.out hb)
          clear hb
          go_wp2_with fail
          go_ret
          exact ⟨rfl, HB8.out⟩
  · go_enter Try.func5, Try.ntmps5
    go_wp2_with fail
    go_ret
    exact ⟨rfl, Below.refl _ _⟩
end Go.Proofs.Ytkfojieiemgliaa
