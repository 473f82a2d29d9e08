import Derived.Test.YtbelhoeailjkkaaCalS
import Derived.Test.YtbelhoeailjkkaaGraD
set_option linter.unusedSimpArgs false
set_option linter.unusedVariables false
/-! CallsGroups: the walk -/
namespace Go.Proofs.Ytbelhoeailjkkaa
open Go.RowKit CC
theorem groups_small (to : List (List Int)) : Small (gsI (groupsL to)) := by
  cases hr : GG.rightG to
  · have e : groupsL to = [] := by unfold groupsL; rw [if_neg (by rw [hr]; decide)]
    rw [e]
    exact ⟨by decide, fun r hr => by simp [gsI] at hr⟩
  · refine ⟨by rw [gsI_len]; have := groups_many hr; omega, fun r hm => ?_⟩
    obtain ⟨g, hg, rfl⟩ := List.mem_map.1 hm
    rw [List.length_map]
    have := (group_is hr hg).2.1
    omega

set_option maxRecDepth 100000 in
set_option maxHeartbeats 3200000 in
theorem callsGroups_walk (v : Value) (to : List (List Int)) (W : World) (hv : GraphM W.heap.size W v to) (hx : Small to) :
    Calls Try.prog 3 #[v] W fun e W' => e = .returned (.bool true) ∧ Below W.heap.size W W' := by
  have HV := Lib.hid hv
  have HX := Lib.hid hx
  obtain ⟨va, vc, rfl⟩ := hv.form
  clear hv hx
  by_cases c1 : 30 < to.length
  · have t1 : decide ((30 : Int) < (to.length : Int)) = true := decide_eq_true (by omega)
    have t2 : decide (30 < to.length) = true := decide_eq_true c1
    go_enter Try.func3, Try.ntmps3
    go_wp2_with fail
    go_ret
    exact ⟨rfl, Below.refl _ _⟩
  · have t1 : decide ((30 : Int) < (to.length : Int)) = false := decide_eq_false (by omega)
    have t2 : decide (30 < to.length) = false := decide_eq_false c1
    go_enter Try.func3, Try.ntmps3
    go_wp2_with fail
    refine (copyG_any _ to W HV.out HX.out (by omega)).mono ?_
    rintro e w1 ⟨cv, rfl, hc, hb1⟩
    have HC1 := Lib.hid hc
    have HB1 := Lib.hid hb1
    obtain ⟨ca, cc, rfl⟩ := hc.form
    clear hc hb1
    go_wp2_with fail
    refine (cgroups_any (to := to) w1 HC1.out HX.out).mono ?_
    rintro e w2 ⟨gv, vs, rfl, hown, hrows, hb2⟩
    have HG2 := Lib.hid (hrows.graph hown)
    have HB2 := Lib.hid (HB1.out.trans (hb2.mono HB1.out.size))
    obtain ⟨ga, gc, rfl⟩ := CC.ownOf hown
    clear hown hrows hb2
    go_wp2_with fail
    refine (rgroups_any (to := to) w2 (HV.out.on HB2.out HB2.out.size) HX.out).mono ?_
    rintro e w3 ⟨rv, rfl, hr, hb3⟩
    have HG3 := Lib.hid (HG2.out.on hb3 hb3.size)
    have HR3 := Lib.hid hr
    have HB3 := Lib.hid (HB2.out.trans (hb3.mono HB2.out.size))
    obtain ⟨ra, rc, rfl⟩ := hr.form
    clear hr hb3
    go_wp2_with fail
    refine (same_any _ _ (gsI (groupsL to)) (gsI (groupsL to)) _ _ HG3.out HR3.out (groups_small to) (groups_small to)).mono ?_
    rintro e w4 ⟨rfl, d, e4⟩
    rw [e4, decide_eq_true rfl]
    have HB4 := Lib.hid (show Below W.heap.size W (w3.drewN d) from HB3.out.trans ⟨rfl, rfl, rfl, Nat.le_refl _, fun _ _ => rfl⟩)
    clear e4
    generalize w3.drewN d = w5 at HB4 ⊢
    go_wp2_with fail
    refine (awakeC_any w5).mono ?_
    rintro e w6 ⟨rfl, hb⟩
    have HB6 := Lib.hid (HB4.out.trans (hb.mono HB4.out.size))
    clear hb
    go_wp2_with fail
    go_ret
    exact ⟨rfl, HB6.out⟩
end Go.Proofs.Ytbelhoeailjkkaa
