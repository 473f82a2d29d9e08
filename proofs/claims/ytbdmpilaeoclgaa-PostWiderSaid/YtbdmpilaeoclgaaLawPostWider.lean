import Derived.Test.YtbdmpilaeoclgaaLawPostMeets
set_option linter.unusedSimpArgs false
set_option linter.unusedVariables false
/-! PostWider: the walk -/
namespace Go.Proofs.Ytbdmpilaeoclgaa
open Go.RowKit
set_option maxRecDepth 100000 in
set_option maxHeartbeats 1600000 in
theorem wider_in {vb vo vc : Nat} {to : List (List Int)} (f x : Nat) (W : World) (HV : RowKit.Hid (GraphM W.heap.size W (.slice (some ⟨vb, vo, none⟩) to.length vc) to)) (HX : RowKit.Hid (Small to)) (h : to.length ≤ 40) (hp : DD.postOk to = true) (hf : f < to.length) (hx : x < to.length) (hfx : f ≠ x) (h2 : 2 ≤ (to[f]?.getD []).length) :
    Calls Try.prog 13 #[.slice (some ⟨vb, vo, none⟩) to.length vc, .int .i64 f, .int .i64 x] W fun e W' => e = .returned (.bool true) ∧ Below W.heap.size W W' := by
  have hr := (DD.postOk_iff.1 hp).2.1
  have HLN := Lib.hid (DD.postL_len hp)
  have HAT := Lib.hid (DD.postL_at hp hf)
  rw [DD.meet_nat] at HAT
  have HRL := Lib.hid (regionL_len to (f : Int))
  have hRD : reachedL to (f : Int) = flagsL to.length (GG.reachB to (-1) f) := by
    unfold reachedL
    rw [if_pos ⟨hr, by unfold GG.inB; rw [decide_eq_true_eq]; omega⟩, Int.toNat_natCast]
  have HRD := Lib.hid hRD
  have HFL := Lib.hid (show (flagsL to.length (GG.reachB to (-1) f)).length = to.length by unfold flagsL; simp)
  have HFX := Lib.hid (show (flagsL to.length (GG.reachB to (-1) f))[x]?.getD false = GG.reachB to (-1) f x by unfold flagsL; rw [List.getElem?_map, List.getElem?_range hx]; rfl)
  have HMR := Lib.hid (DD.mem_region hp hf (x : Int))
  have HW := Lib.hid (fun (hb : GG.reachB to (-1) f x = true) (hn : ¬ ((x : Int) ∈ DD.regionL to (f : Int))) => (show DD.meetN to f < to.length ∧ GG.Reach (GG.adjOf to) (DD.meetN to f) x by
    have h1 := (GG.reachB_iff hr hf x).1 hb
    rw [GG.adjN_none to (-1) (by decide)] at h1
    refine DD.region_wide hr hf h2 hfx h1 ?_
    cases c : DD.inRegion to f x
    · rfl
    · exact absurd (HMR.out.2 ⟨x, rfl, hx, c⟩) hn))
  have HM2 := Lib.hid (fun (m : Nat) (hm : m < to.length) (hre : GG.Reach (GG.adjOf to) m x) => (show reachedL to (m : Int) = flagsL to.length (GG.reachB to (-1) m) ∧ (flagsL to.length (GG.reachB to (-1) m)).length = to.length ∧ (flagsL to.length (GG.reachB to (-1) m))[x]?.getD false = true by
    refine ⟨?_, by unfold flagsL; simp, ?_⟩
    · unfold reachedL
      rw [if_pos ⟨hr, by unfold GG.inB; rw [decide_eq_true_eq]; omega⟩, Int.toNat_natCast]
    · unfold flagsL
      rw [List.getElem?_map, List.getElem?_range hx]
      show GG.reachB to (-1) m x = true
      rw [GG.reachB_iff hr hm, GG.adjN_none to (-1) (by decide)]
      exact hre))
  have b1 : (DD.regionL to (f : Int)).length ≤ 17592186044416 := by have := HRL.out; omega
  have i1 : (0 : Int) ≤ f ∧ (f : Int) < to.length := by omega
  have i2 : (0 : Int) ≤ x ∧ (x : Int) < to.length := by omega
  have n0 : decide ((f : Int) < 0) = false := decide_eq_false (by omega)
  have n1 : decide ((to.length : Int) ≤ (f : Int)) = false := decide_eq_false (by omega)
  have m1 : decide (to.length ≤ f) = false := decide_eq_false (by omega)
  have n2 : decide ((x : Int) < 0) = false := decide_eq_false (by omega)
  have n3 : decide ((to.length : Int) ≤ (x : Int)) = false := decide_eq_false (by omega)
  have m2 : decide (to.length ≤ x) = false := decide_eq_false (by omega)
  have q0 : ((f : Int) == (x : Int)) = false := beq_eq_false_iff_ne.2 (by omega)
  have m40 : decide ((40 : Int) < (to.length : Int)) = false := decide_eq_false (by omega)
  obtain ⟨ra, rac, hx1, _⟩ := HV.out.at hf
  have HX1 := Lib.hid hx1
  have HVB := Lib.hid (HV.out.blk (by omega))
  have b2 := HX.out.row f
  obtain ⟨rf, erf⟩ : ∃ rf, rf = to[f]?.getD [] := ⟨_, rfl⟩
  rw [← erf] at HX1 b2 h2
  clear hx1 hp hr hRD erf
  have n5 : decide ((rf.length : Int) < 2) = false := decide_eq_false (by omega)
  have n6 : decide (rf.length < 2) = false := decide_eq_false (by omega)
  obtain ⟨m, em⟩ : ∃ m, m = DD.meetN to f := ⟨_, rfl⟩
  rw [← em] at HAT
  simp only [← em] at HW
  clear em
  generalize GG.reachB to (-1) f x = c at *
  generalize flagsL to.length (GG.reachB to (-1) f) = FL at *
  obtain ⟨L, hL⟩ : ∃ L, L = DD.regionL to (f : Int) := ⟨_, rfl⟩
  have HEL := Lib.hid hL
  rw [← hL] at HMR HRL b1
  simp only [← hL] at HW
  clear hL
  cases c
  · go_enter Try.func13, Try.ntmps13
    go_wp2_with (first
      | (go_at_call 29; refine (ptree_any (to := to) _ HV.out HX.out).mono ?_; rintro e w1 ⟨av, rfl, hav, hb⟩; have HAV := Lib.hid hav; obtain ⟨aa, ac, eav⟩ := hav.form; rw [HLN.out] at eav; subst eav; have HB := Lib.hid hb; have hcf := (hb.cell (p := ⟨vb, vo + f, none⟩) HVB.out).trans HX1.out; clear hb hav)
      | (go_at_call 38; refine (reached_any (to := to) (f : Int) _ (HV.out.on HB.out HB.out.size) HX.out).mono ?_; rintro e w2 ⟨bv, rfl, hbv, hb⟩; rw [HRD.out] at hbv; obtain ⟨ba, bc, ebv⟩ := hbv.form; rw [HFL.out] at ebv; subst ebv; obtain ⟨bb, bo, eba, hcb⟩ := hbv.cellAt (show x < FL.length by rw [HFL.out]; exact hx); rw [HFX.out] at hcb; subst eba; have HBV := Lib.hid hbv; have HBX := Lib.hid hb; have HB2 := Lib.hid (bstep HB.out hb); clear hb hbv)
      | (go_at_call 31; refine (awakeP_any _).mono ?_; rintro e w9 ⟨rfl, hb⟩; have HB9 := Lib.hid (bstep HB2.out hb); clear hb))
    go_ret
    exact ⟨rfl, HB9.out⟩
  · by_cases hin : (x : Int) ∈ L
    · have HIN := Lib.hid (decide_eq_true hin)
      clear hin
      go_enter Try.func13, Try.ntmps13
      go_wp2_with (first
        | (go_at_call 29; refine (ptree_any (to := to) _ HV.out HX.out).mono ?_; rintro e w1 ⟨av, rfl, hav, hb⟩; have HAV := Lib.hid hav; obtain ⟨aa, ac, eav⟩ := hav.form; rw [HLN.out] at eav; subst eav; have HB := Lib.hid hb; have hcf := (hb.cell (p := ⟨vb, vo + f, none⟩) HVB.out).trans HX1.out; clear hb hav)
        | (go_at_call 38; refine (reached_any (to := to) (f : Int) _ (HV.out.on HB.out HB.out.size) HX.out).mono ?_; rintro e w2 ⟨bv, rfl, hbv, hb⟩; rw [HRD.out] at hbv; obtain ⟨ba, bc, ebv⟩ := hbv.form; rw [HFL.out] at ebv; subst ebv; obtain ⟨bb, bo, eba, hcb⟩ := hbv.cellAt (show x < FL.length by rw [HFL.out]; exact hx); rw [HFX.out] at hcb; subst eba; have HBV := Lib.hid hbv; have HBX := Lib.hid hb; have HB2 := Lib.hid (bstep HB.out hb); clear hb hbv)
        | (go_at_call 32; refine (region_any (to := to) _ (HV.out.on HB2.out HB2.out.size) HX.out (f : Int)).mono ?_; rintro e w3 ⟨rv, rfl, hrv, hb⟩; rw [← HEL.out] at hrv; have HRV := Lib.hid hrv; have HBY := Lib.hid hb; have HB3 := Lib.hid (bstep HB2.out hb); clear hb hrv)
        | (go_at_call 24; refine (rin_any (l := L) (x : Int) _ HRV.out b1).mono ?_; rintro e w4 ⟨rfl, rfl⟩; rw [HIN.out])
        | (go_at_call 31; refine (awakeP_any _).mono ?_; rintro e w9 ⟨rfl, hb⟩; have HB9 := Lib.hid (bstep HB3.out hb); clear hb))
      go_ret
      exact ⟨rfl, HB9.out⟩
    · have HIN := Lib.hid (decide_eq_false hin)
      obtain ⟨hm, hre⟩ := HW.out rfl hin
      have HMM := Lib.hid (HM2.out m hm hre)
      clear hin hre
      have p1 : decide ((m : Int) < (to.length : Int)) = true := decide_eq_true (by omega)
      have p2 : decide (m < to.length) = true := decide_eq_true hm
      have HONE1 := Lib.hid (show (1 : Nat) = 1 from rfl)
      by_cases hmx : m = x
      · subst hmx
        have q1 : ((m : Int) == (m : Int)) = true := beq_self_eq_true _
        go_enter Try.func13, Try.ntmps13
        go_wp2_with (first
          | (go_at_call 29; refine (ptree_any (to := to) _ HV.out HX.out).mono ?_; rintro e w1 ⟨av, rfl, hav, hb⟩; have HAV := Lib.hid hav; obtain ⟨aa, ac, eav⟩ := hav.form; rw [HLN.out] at eav; subst eav; have HB := Lib.hid hb; have hcf := (hb.cell (p := ⟨vb, vo + f, none⟩) HVB.out).trans HX1.out; clear hb hav)
          | (go_at_call 38; clear HONE1; refine (reached_any (to := to) (f : Int) _ (HV.out.on HB.out HB.out.size) HX.out).mono ?_; rintro e w2 ⟨bv, rfl, hbv, hb⟩; rw [HRD.out] at hbv; obtain ⟨ba, bc, ebv⟩ := hbv.form; rw [HFL.out] at ebv; subst ebv; obtain ⟨bb, bo, eba, hcb⟩ := hbv.cellAt (show m < FL.length by rw [HFL.out]; exact hx); rw [HFX.out] at hcb; subst eba; have HBV := Lib.hid hbv; have HBX := Lib.hid hb; have HB2 := Lib.hid (bstep HB.out hb); clear hb hbv)
          | (go_at_call 32; refine (region_any (to := to) _ (HV.out.on HB2.out HB2.out.size) HX.out (f : Int)).mono ?_; rintro e w3 ⟨rv, rfl, hrv, hb⟩; rw [← HEL.out] at hrv; have HRV := Lib.hid hrv; obtain ⟨ab, ao, eaa, hac⟩ := (HAV.out.below (HBX.out.trans (hb.mono HBX.out.size))).cellAt (show f < (DD.postL to).length by rw [HLN.out]; exact hf); rw [HAT.out] at hac; subst eaa; have HB3 := Lib.hid (bstep HB2.out hb); clear hb hrv)
          | (go_at_call 24; refine (rin_any (l := L) (m : Int) _ HRV.out b1).mono ?_; rintro e w4 ⟨rfl, rfl⟩; rw [HIN.out])
          | (go_at_call 38; refine (reached_any (to := to) (m : Int) _ (HV.out.on HB3.out HB3.out.size) HX.out).mono ?_; rintro e w5 ⟨bv2, rfl, hbv, hb⟩; rw [HMM.out.1] at hbv; obtain ⟨ba2, bc2, ebv⟩ := hbv.form; rw [HMM.out.2.1] at ebv; subst ebv; obtain ⟨bb2, bo2, eba, hcb2⟩ := hbv.cellAt (show m < (flagsL to.length (GG.reachB to (-1) m)).length by rw [HMM.out.2.1]; exact hx); rw [HMM.out.2.2] at hcb2; subst eba; have HB5 := Lib.hid (bstep HB3.out hb); clear hb hbv)
          | (go_at_call 31; refine (awakeP_any _).mono ?_; rintro e w9 ⟨rfl, hb⟩; have HB9 := Lib.hid (bstep HB5.out hb); clear hb))
        go_ret
        exact ⟨rfl, HB9.out⟩
      · have q1 : ((m : Int) == (x : Int)) = false := beq_eq_false_iff_ne.2 (by omega)
        go_enter Try.func13, Try.ntmps13
        go_wp2_with (first
          | (go_at_call 29; refine (ptree_any (to := to) _ HV.out HX.out).mono ?_; rintro e w1 ⟨av, rfl, hav, hb⟩; have HAV := Lib.hid hav; obtain ⟨aa, ac, eav⟩ := hav.form; rw [HLN.out] at eav; subst eav; have HB := Lib.hid hb; have hcf := (hb.cell (p := ⟨vb, vo + f, none⟩) HVB.out).trans HX1.out; clear hb hav)
          | (go_at_call 38; clear HONE1; refine (reached_any (to := to) (f : Int) _ (HV.out.on HB.out HB.out.size) HX.out).mono ?_; rintro e w2 ⟨bv, rfl, hbv, hb⟩; rw [HRD.out] at hbv; obtain ⟨ba, bc, ebv⟩ := hbv.form; rw [HFL.out] at ebv; subst ebv; obtain ⟨bb, bo, eba, hcb⟩ := hbv.cellAt (show x < FL.length by rw [HFL.out]; exact hx); rw [HFX.out] at hcb; subst eba; have HBV := Lib.hid hbv; have HBX := Lib.hid hb; have HB2 := Lib.hid (bstep HB.out hb); clear hb hbv)
          | (go_at_call 32; refine (region_any (to := to) _ (HV.out.on HB2.out HB2.out.size) HX.out (f : Int)).mono ?_; rintro e w3 ⟨rv, rfl, hrv, hb⟩; rw [← HEL.out] at hrv; have HRV := Lib.hid hrv; obtain ⟨ab, ao, eaa, hac⟩ := (HAV.out.below (HBX.out.trans (hb.mono HBX.out.size))).cellAt (show f < (DD.postL to).length by rw [HLN.out]; exact hf); rw [HAT.out] at hac; subst eaa; have HB3 := Lib.hid (bstep HB2.out hb); clear hb hrv)
          | (go_at_call 24; refine (rin_any (l := L) (x : Int) _ HRV.out b1).mono ?_; rintro e w4 ⟨rfl, rfl⟩; rw [HIN.out])
          | (go_at_call 38; refine (reached_any (to := to) (m : Int) _ (HV.out.on HB3.out HB3.out.size) HX.out).mono ?_; rintro e w5 ⟨bv2, rfl, hbv, hb⟩; rw [HMM.out.1] at hbv; obtain ⟨ba2, bc2, ebv⟩ := hbv.form; rw [HMM.out.2.1] at ebv; subst ebv; obtain ⟨bb2, bo2, eba, hcb2⟩ := hbv.cellAt (show x < (flagsL to.length (GG.reachB to (-1) m)).length by rw [HMM.out.2.1]; exact hx); rw [HMM.out.2.2] at hcb2; subst eba; have HB5 := Lib.hid (bstep HB3.out hb); clear hb hbv)
          | (go_at_call 31; refine (awakeP_any _).mono ?_; rintro e w9 ⟨rfl, hb⟩; have HB9 := Lib.hid (bstep HB5.out hb); clear hb))
        go_ret
        exact ⟨rfl, HB9.out⟩
set_option maxRecDepth 100000 in
set_option maxHeartbeats 3200000 in
theorem wider_out {va : Option Addr} {vc : Nat} {to : List (List Int)} (f x : Int) (W : World) (HV : RowKit.Hid (GraphM W.heap.size W (.slice va to.length vc) to)) (HX : RowKit.Hid (Small to)) (hx0 : to.length ≤ 17592186044416) (h : 40 < to.length ∨ f < 0 ∨ x < 0 ∨ ((DD.postL to).length : Int) ≤ f ∨ ((DD.postL to).length : Int) ≤ x ∨ f = x) :
    Calls Try.prog 13 #[.slice va to.length vc, .int .i64 f, .int .i64 x] W fun e W' => e = .returned (.bool true) ∧ Below W.heap.size W W' := by
  have HL := Lib.hid (show (DD.postL to).length ≤ to.length by unfold DD.postL; split <;> simp)
  have b1 : (DD.postL to).length ≤ 17592186044416 := by have := HL.out; omega
  obtain ⟨l, el⟩ : ∃ l, l = DD.postL to := ⟨_, rfl⟩
  have HEL := Lib.hid el
  rw [← el] at h b1
  clear el
  rcases (show 40 < to.length ∨ (¬ 40 < to.length ∧ (f < 0 ∨ (¬ f < 0 ∧ (x < 0 ∨ (¬ x < 0 ∧ ((l.length : Int) ≤ f ∨ (¬ (l.length : Int) ≤ f ∧ ((l.length : Int) ≤ x ∨ (¬ (l.length : Int) ≤ x ∧ f = x))))))))) by omega) with h1 | ⟨h1, h2 | ⟨h2, h3 | ⟨h3, h4 | ⟨h4, h5 | ⟨h5, h6⟩⟩⟩⟩⟩
  all_goals
    clear h
    try subst h6
    go_enter Try.func13, Try.ntmps13
    go_wp2_with (first
      | (go_at_call 29; refine (ptree_any (to := to) _ HV.out HX.out).mono ?_; rintro e w1 ⟨av, rfl, hav, hb⟩; rw [← HEL.out] at hav; obtain ⟨aa, ac, rfl⟩ := hav.form; have HB := Lib.hid hb; clear hb hav)
      | (go_at_call 31; refine (awakeP_any _).mono ?_; rintro e w9 ⟨rfl, hb⟩; have HB9 := Lib.hid (bstep HB.out hb); clear hb))
    go_ret
    exact ⟨rfl, HB9.out⟩
set_option maxRecDepth 100000 in
set_option maxHeartbeats 1600000 in
theorem wider_way {vb vo vc : Nat} {to : List (List Int)} (f x : Nat) (W : World) (HV : RowKit.Hid (GraphM W.heap.size W (.slice (some ⟨vb, vo, none⟩) to.length vc) to)) (HX : RowKit.Hid (Small to)) (h : to.length ≤ 40) (hp : DD.postOk to = true) (hf : f < to.length) (hx : x < to.length) (hfx : f ≠ x) (h2 : ¬ 2 ≤ (to[f]?.getD []).length) :
    Calls Try.prog 13 #[.slice (some ⟨vb, vo, none⟩) to.length vc, .int .i64 f, .int .i64 x] W fun e W' => e = .returned (.bool true) ∧ Below W.heap.size W W' := by
  have HLN := Lib.hid (DD.postL_len hp)
  have i1 : (0 : Int) ≤ f ∧ (f : Int) < to.length := by omega
  have i2 : (0 : Int) ≤ x ∧ (x : Int) < to.length := by omega
  have n0 : decide ((f : Int) < 0) = false := decide_eq_false (by omega)
  have n1 : decide ((to.length : Int) ≤ (f : Int)) = false := decide_eq_false (by omega)
  have m1 : decide (to.length ≤ f) = false := decide_eq_false (by omega)
  have n2 : decide ((x : Int) < 0) = false := decide_eq_false (by omega)
  have n3 : decide ((to.length : Int) ≤ (x : Int)) = false := decide_eq_false (by omega)
  have m2 : decide (to.length ≤ x) = false := decide_eq_false (by omega)
  have q0 : ((f : Int) == (x : Int)) = false := beq_eq_false_iff_ne.2 (by omega)
  have m40 : decide ((40 : Int) < (to.length : Int)) = false := decide_eq_false (by omega)
  obtain ⟨ra, rac, hx1, _⟩ := HV.out.at hf
  have HX1 := Lib.hid hx1
  have HVB := Lib.hid (HV.out.blk (by omega))
  have b2 := HX.out.row f
  obtain ⟨rf, erf⟩ : ∃ rf, rf = to[f]?.getD [] := ⟨_, rfl⟩
  rw [← erf] at HX1 b2 h2
  clear hx1 hp erf
  have n5 : decide ((rf.length : Int) < 2) = true := decide_eq_true (by omega)
  have n6 : decide (rf.length < 2) = true := decide_eq_true (by omega)
  go_enter Try.func13, Try.ntmps13
  go_wp2_with (first
      | (go_at_call 29; refine (ptree_any (to := to) _ HV.out HX.out).mono ?_; rintro e w1 ⟨av, rfl, hav, hb⟩; have HAV := Lib.hid hav; obtain ⟨aa, ac, eav⟩ := hav.form; rw [HLN.out] at eav; subst eav; have HB := Lib.hid hb; have hcf := (hb.cell (p := ⟨vb, vo + f, none⟩) HVB.out).trans HX1.out; clear hb hav)
      | (go_at_call 31; refine (awakeP_any _).mono ?_; rintro e w9 ⟨rfl, hb⟩; have HB9 := Lib.hid (bstep HB.out hb); clear hb))
  go_ret
  exact ⟨rfl, HB9.out⟩
theorem postWider_walk {v : Value} {to : List (List Int)} (f x : Int) (W : World) (hv : GraphM W.heap.size W v to) (hx : Small to) :
    Calls Try.prog 13 #[v, .int .i64 f, .int .i64 x] W fun e W' => e = .returned (.bool true) ∧ Below W.heap.size W W' := by
  obtain ⟨va, vc, rfl⟩ := hv.form
  by_cases h : 40 < to.length ∨ f < 0 ∨ x < 0 ∨ ((DD.postL to).length : Int) ≤ f ∨ ((DD.postL to).length : Int) ≤ x ∨ f = x
  · exact wider_out f x W (Lib.hid hv) (Lib.hid hx) hx.1 h
  · obtain ⟨k, rfl⟩ : ∃ k : Nat, f = (k : Int) := ⟨f.toNat, by omega⟩
    obtain ⟨j, rfl⟩ : ∃ j : Nat, x = (j : Int) := ⟨x.toNat, by omega⟩
    cases hp : DD.postOk to
    · rw [DD.postL_no hp] at h
      simp at h
    · rw [DD.postL_len hp] at h
      obtain ⟨vb, vo, vc', e⟩ := hv.addr (by omega)
      cases e
      by_cases h2 : 2 ≤ (to[k]?.getD []).length
      · exact wider_in k j W (Lib.hid hv) (Lib.hid hx) (by omega) hp (by omega) (by omega) (by omega) h2
      · exact wider_way k j W (Lib.hid hv) (Lib.hid hx) (by omega) hp (by omega) (by omega) (by omega) h2
end Go.Proofs.Ytbdmpilaeoclgaa
