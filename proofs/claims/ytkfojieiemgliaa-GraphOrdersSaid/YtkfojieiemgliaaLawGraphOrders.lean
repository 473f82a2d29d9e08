import Derived.Test.YtkfojieiemgliaaGraZ
import Derived.Test.YtkfojieiemgliaaGraD
set_option linter.unusedSimpArgs false
set_option linter.unusedVariables false
/-! GraphOrders: the walk -/
namespace Go.Proofs.Ytkfojieiemgliaa
open Go.RowKit
set_option maxRecDepth 100000 in
set_option maxHeartbeats 3200000 in
theorem graphOrders_walk {v : Value} {to : List (List Int)} (W : World) (hv : GraphM W.heap.size W v to) (hx : Small to) :
    Calls Try.prog 4 #[v] W fun e W' => e = .returned (.bool true) ∧ Below W.heap.size W W' := by
  have hx0 := hx.1
  have HV := Lib.hid hv
  have HX := Lib.hid hx
  obtain ⟨va, vc, rfl⟩ := hv.form
  clear hv hx
  by_cases hl : to.length ≤ 64
  · go_enter Try.func4, Try.ntmps4
    go_wp2_with fail
    refine (copyG_any _ to _ HV.out HX.out (by omega)).mono ?_
    rintro e w1 ⟨cv, rfl, hc, hb⟩
    have HC1 := Lib.hid hc
    have HB1 := Lib.hid hb
    clear hc hb
    go_wp2_with fail
    refine (order_any _ HC1.out HX.out).mono ?_
    rintro e w2 ⟨lv, rfl, hl2, hb⟩
    obtain ⟨la, lc, hlv⟩ := hl2.form
    subst hlv
    have HL2 := Lib.hid hl2
    have HB2 := Lib.hid (bstep HB1.out hb)
    clear hl2 hb
    go_wp2_with fail
    refine (rrightG_any _ to _ _ (HV.out.on HB2.out HB2.out.size) HX.out).mono ?_
    rintro e w3 ⟨rfl, d, rfl⟩
    cases hr : GG.rightG to
    · have HE := Lib.hid (show (orderE to).length = 0 by unfold orderE; rw [if_neg (by rw [hr]; simp)]; rfl)
      rw [HE.out]
      clear hr
      go_wp2_with fail
      refine (awakeG_any _).mono ?_
      rintro e w4 ⟨rfl, hb⟩
      have HB4 := Lib.hid (bstep (below_dN HB2.out d) hb)
      clear hb
      go_wp2_with fail
      go_ret
      exact ⟨rfl, HB4.out⟩
    · have HR := Lib.hid hr
      have HE := Lib.hid (show orderE to = GG.orderL to by unfold orderE; rw [if_pos hr])
      clear hr
      go_wp2_with fail
      refine (rorder_any (to := to) _ ((HV.out.on (below_dN HB2.out d) HB2.out.size)) HR.out).mono ?_
      rintro e w4 ⟨ov, rfl, ho, hb⟩
      have HO4 := Lib.hid ho
      have HL4 := Lib.hid ((HL2.out.drewN d).on hb hb.size)
      have HB4 := Lib.hid (bstep (below_dN HB2.out d) hb)
      have HLL := Lib.hid (show (GG.orderL to).length ≤ 17592186044416 by
        have h1 := GG.beenN_all HR.out
        have h2 := GG.beenN_le to to.length
        omega)
      clear ho hb
      go_wp2_with fail
      refine (ints_any _ _ (orderE to) (GG.orderL to) _ _ HL4.out HO4.out (by rw [HE.out]; exact HLL.out) HLL.out).mono ?_
      rintro e w5 ⟨rfl, d2, rfl⟩
      rw [HE.out, decide_eq_true (rfl : GG.orderL to = GG.orderL to)]
      go_wp2_with fail
      refine (awakeG_any _).mono ?_
      rintro e w6 ⟨rfl, hb⟩
      have HB6 := Lib.hid (bstep (below_dN HB4.out d2) hb)
      clear hb
      go_wp2_with fail
      go_ret
      exact ⟨rfl, HB6.out⟩
  · go_enter Try.func4, Try.ntmps4
    go_wp2_with fail
    go_ret
    exact ⟨rfl, Below.refl _ _⟩
end Go.Proofs.Ytkfojieiemgliaa
