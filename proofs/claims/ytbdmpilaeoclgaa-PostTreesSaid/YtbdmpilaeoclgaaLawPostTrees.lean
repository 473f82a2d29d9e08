import Derived.Test.YtbdmpilaeoclgaaPostW
import Derived.Test.YtbdmpilaeoclgaaGraD
set_option linter.unusedSimpArgs false
set_option linter.unusedVariables false
/-! PostTrees: the walk -/
namespace Go.Proofs.Ytbdmpilaeoclgaa
open Go.RowKit
set_option maxRecDepth 100000 in
set_option maxHeartbeats 1600000 in
theorem postTrees_walk {v : Value} {to : List (List Int)} (W : World) (hv : GraphM W.heap.size W v to) (hx : Small to) :
    Calls Try.prog 8 #[v] W fun e W' => e = .returned (.bool true) ∧ Below W.heap.size W W' := by
  have HV := Lib.hid hv
  have HX := Lib.hid hx
  have hx0 := hx.1
  obtain ⟨va, vc, rfl⟩ := hv.form
  clear hv hx
  by_cases hl : to.length ≤ 40
  · have HLN := Lib.hid (show (DD.postL to).length ≤ 17592186044416 by
      unfold DD.postL
      split <;> simp <;> omega)
    go_enter Try.func8, Try.ntmps8
    go_wp2_with fail
    refine (copyG_any _ to W HV.out HX.out (by omega)).mono ?_
    rintro e w1 ⟨cv, rfl, hc, hb⟩
    have HC := Lib.hid hc
    have HB := Lib.hid hb
    clear hc hb
    go_wp2_with fail
    refine (ptree_any w1 HC.out HX.out).mono ?_
    rintro e w2 ⟨tv, rfl, ht, hb⟩
    have HT := Lib.hid ht
    have HB2 := Lib.hid (bstep HB.out hb)
    clear ht hb
    go_wp2_with fail
    refine (rtree12_any w2 (HV.out.on HB2.out HB2.out.size) HX.out).mono ?_
    rintro e w3 ⟨rv, rfl, hr, hb⟩
    have HR := Lib.hid hr
    have HT3 := Lib.hid (HT.out.on hb hb.size)
    have HB3 := Lib.hid (bstep HB2.out hb)
    clear hr hb
    go_wp2_with fail
    refine (ints_any _ _ (DD.postL to) (DD.postL to) _ _ HT3.out HR.out HLN.out HLN.out).mono ?_
    rintro e w4 ⟨rfl, d, rfl⟩
    rw [decide_eq_true (rfl : DD.postL to = DD.postL to)]
    have HB4 := Lib.hid (below_dN HB3.out d)
    obtain ⟨w4, ew4⟩ : ∃ w4, w4 = w3.drewN d := ⟨_, rfl⟩
    rw [← ew4]
    rw [← ew4] at HB4
    clear ew4
    go_wp2_with fail
    refine (awakeP_any _).mono ?_
    rintro e w5 ⟨rfl, hb⟩
    have HB5 := Lib.hid (bstep HB4.out hb)
    clear hb
    go_wp2_with fail
    go_ret
    exact ⟨rfl, HB5.out⟩
  · have h : 40 < to.length := by omega
    go_enter Try.func8, Try.ntmps8
    go_wp2_with fail
    go_ret
    exact ⟨rfl, Below.refl _ _⟩
end Go.Proofs.Ytbdmpilaeoclgaa
