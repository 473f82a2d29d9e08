import Derived.Test.YtkfojieiemgliaaGraZ
import Derived.Test.YtkfojieiemgliaaGraD
set_option linter.unusedSimpArgs false
set_option linter.unusedVariables false
/-! GraphRights: the walk -/
namespace Go.Proofs.Ytkfojieiemgliaa
open Go.RowKit
theorem reachedL_no {to : List (List Int)} {i : Int} (h : GG.rightG to = false) : reachedL to i = [] := by unfold reachedL; rw [if_neg (by rw [h]; simp)]
theorem reachedL_out {to : List (List Int)} {i : Int} (h : GG.inB to.length i = false) : reachedL to i = [] := by unfold reachedL; rw [if_neg (by rw [h]; simp)]
theorem reachedL_in {to : List (List Int)} {k : Nat} (h : GG.rightG to = true) (hk : k < to.length) : reachedL to k = flagsL to.length (GG.reachB to (-1) k) := by
  unfold reachedL
  rw [if_pos ⟨h, decide_eq_true (by omega)⟩, Int.toNat_natCast]
set_option maxRecDepth 100000 in
set_option maxHeartbeats 3200000 in
theorem graphRights_walk {v : Value} {to : List (List Int)} (i : Int) (W : World) (hv : GraphM W.heap.size W v to) (hx : Small to) :
    Calls Try.prog 3 #[v, .int .i64 i] W fun e W' => e = .returned (.bool true) ∧ Below W.heap.size W W' := by
  have hx0 := hx.1
  have HV := Lib.hid hv
  have HX := Lib.hid hx
  obtain ⟨va, vc, rfl⟩ := hv.form
  clear hv hx
  by_cases hl : to.length ≤ 64
  · go_enter Try.func3, Try.ntmps3
    go_wp2_with fail
    refine (rrightG_any _ to _ _ HV.out HX.out).mono ?_
    rintro e w1 ⟨rfl, d, rfl⟩
    have HB1 := Lib.hid (below_dN (Below.refl W.heap.size W) d)
    have HRB := Lib.hid (show GG.rightG to = GG.rightG to from rfl)
    obtain ⟨rb, hrb⟩ : ∃ rb, rb = GG.rightG to := ⟨_, rfl⟩
    have HRI := Lib.hid hrb
    rw [← hrb]
    clear hrb
    go_wp2_with fail
    refine (copyG_any _ to _ (HV.out.on HB1.out HB1.out.size) HX.out (by omega)).mono ?_
    rintro e w2 ⟨cv, rfl, hc, hb⟩
    have HC2 := Lib.hid hc
    have HB2 := Lib.hid (bstep HB1.out hb)
    clear hc hb
    go_wp2_with fail
    refine (back_any _ HC2.out HX.out).mono ?_
    rintro e w3 ⟨bv, rfl, hg, hb⟩
    obtain ⟨ba, bc, hbv⟩ := hg.form
    subst hbv
    have HG3 := Lib.hid hg
    have HB3 := Lib.hid (bstep HB2.out hb)
    clear hg hb
    go_wp2_with fail
    refine (copyG_any _ to _ (HV.out.on HB3.out HB3.out.size) HX.out (by omega)).mono ?_
    rintro e w4 ⟨cv4, rfl, hc, hb⟩
    have HC4 := Lib.hid hc
    have HG4 := Lib.hid (HG3.out.on hb hb.size)
    have HB4 := Lib.hid (bstep HB3.out hb)
    clear hc hb
    go_wp2_with fail
    refine (reached_any i _ HC4.out HX.out).mono ?_
    rintro e w5 ⟨lv, rfl, hl5, hb⟩
    obtain ⟨la, lc, hlv⟩ := hl5.form
    subst hlv
    have HL5 := Lib.hid hl5
    have HG5 := Lib.hid (HG4.out.on hb hb.size)
    have HB5 := Lib.hid (bstep HB4.out hb)
    clear hl5 hb
    go_wp2_with fail
    refine (copyG_any _ to _ (HV.out.on HB5.out HB5.out.size) HX.out (by omega)).mono ?_
    rintro e w6 ⟨cv6, rfl, hc, hb⟩
    have HC6 := Lib.hid hc
    have HG6 := Lib.hid (HG5.out.on hb hb.size)
    have HL6 := Lib.hid (HL5.out.on hb hb.size)
    have HB6 := Lib.hid (bstep HB5.out hb)
    clear hc hb
    go_wp2_with fail
    refine (rightG_any _ to _ HC6.out HX.out).mono ?_
    rintro e w7 ⟨rfl, hb⟩
    rw [← HRI.out]
    have HG7 := Lib.hid (HG6.out.on hb hb.size)
    have HL7 := Lib.hid (HL6.out.on hb hb.size)
    have HB7 := Lib.hid (bstep HB6.out hb)
    clear hb
    cases rb
    · have HE1 := Lib.hid (show (backE to).length = 0 by unfold backE; rw [if_neg (by rw [← HRI.out]; simp)]; rfl)
      have HE2 := Lib.hid (show (reachedL to i).length = 0 by rw [reachedL_no HRI.out.symm]; rfl)
      rw [HE1.out, HE2.out]
      go_wp2_with fail
      refine (awakeG_any _).mono ?_
      rintro e w8 ⟨rfl, hb⟩
      have HB8 := Lib.hid (bstep HB7.out hb)
      clear hb
      go_wp2_with fail
      go_ret
      exact ⟨rfl, HB8.out⟩
    · have HR := Lib.hid HRI.out.symm
      have hlen := GG.right_len HR.out
      have HEB := Lib.hid (show backE to = GG.backG to by unfold backE; rw [if_pos HR.out])
      go_wp2_with fail
      refine (rback_any (to := to) _ (HV.out.on HB7.out HB7.out.size) HX.out (by omega)).mono ?_
      rintro e w8 ⟨rbv, rfl, hg, hb⟩
      have HRG8 := Lib.hid hg
      have HG8 := Lib.hid (HG7.out.on hb hb.size)
      have HL8 := Lib.hid (HL7.out.on hb hb.size)
      have HB8 := Lib.hid (bstep HB7.out hb)
      clear hg hb
      go_wp2_with fail
      refine (same_any _ _ (backE to) (GG.backG to) _ _ HG8.out HRG8.out (by rw [HEB.out]; exact ledBy_small to hlen.2) (ledBy_small to hlen.2)).mono ?_
      rintro e w9 ⟨rfl, d9, rfl⟩
      rw [HEB.out, decide_eq_true (rfl : GG.backG to = GG.backG to)]
      have HB9 := Lib.hid (below_dN HB8.out d9)
      by_cases hin : 0 ≤ i ∧ i < to.length
      · obtain ⟨hin1, hin2⟩ := hin
        obtain ⟨k, rfl⟩ : ∃ k : Nat, i = (k : Int) := ⟨i.toNat, by omega⟩
        have hk : k < to.length := by omega
        have HRL := Lib.hid (reachedL_in HR.out hk)
        go_wp2_with fail
        refine (without_any (to := to) k (-1) _ (HV.out.on HB9.out HB9.out.size) HR.out hk (by omega)).mono ?_
        rintro e w10 ⟨wv, rfl, hw, hb⟩
        have HW10 := Lib.hid hw
        have HL10 := Lib.hid ((HL8.out.drewN d9).on hb hb.size)
        have HB10 := Lib.hid (bstep HB9.out hb)
        clear hw hb
        go_wp2_with fail
        refine (bools_any _ _ (reachedL to k) (flagsL to.length (GG.reachB to (-1) k)) _ _ HL10.out HW10.out (by rw [HRL.out, flagsL_len]; omega) (by rw [flagsL_len]; omega)).mono ?_
        rintro e w11 ⟨rfl, d11, rfl⟩
        rw [HRL.out, decide_eq_true (rfl : flagsL to.length (GG.reachB to (-1) k) = flagsL to.length (GG.reachB to (-1) k))]
        go_wp2_with fail
        refine (awakeG_any _).mono ?_
        rintro e w12 ⟨rfl, hb⟩
        have HB12 := Lib.hid (bstep (below_dN HB10.out d11) hb)
        clear hb
        go_wp2_with fail
        go_ret
        exact ⟨rfl, HB12.out⟩
      · have HE2 := Lib.hid (show (reachedL to i).length = 0 by rw [reachedL_out (decide_eq_false hin)]; rfl)
        rw [HE2.out]
        by_cases h0 : 0 ≤ i
        · have h1 : ¬ i < to.length := fun h1 => hin ⟨h0, h1⟩
          clear hin
          go_wp2_with fail
          refine (awakeG_any _).mono ?_
          rintro e w10 ⟨rfl, hb⟩
          have HB10 := Lib.hid (bstep HB9.out hb)
          clear hb
          go_wp2_with fail
          go_ret
          exact ⟨rfl, HB10.out⟩
        · clear hin
          go_wp2_with fail
          refine (awakeG_any _).mono ?_
          rintro e w10 ⟨rfl, hb⟩
          have HB10 := Lib.hid (bstep HB9.out hb)
          clear hb
          go_wp2_with fail
          go_ret
          exact ⟨rfl, HB10.out⟩
  · go_enter Try.func3, Try.ntmps3
    go_wp2_with fail
    go_ret
    exact ⟨rfl, Below.refl _ _⟩
end Go.Proofs.Ytkfojieiemgliaa
