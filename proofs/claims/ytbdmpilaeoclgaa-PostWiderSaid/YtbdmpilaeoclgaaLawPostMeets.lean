import Derived.Test.YtbdmpilaeoclgaaLawPostRegions
import Derived.Test.YtbdmpilaeoclgaaPostX
set_option linter.unusedSimpArgs false
set_option linter.unusedVariables false
/-! PostMeets: the walk -/
namespace Go.Proofs.Ytbdmpilaeoclgaa.DD
open GG
theorem mem_region {to : List (List Int)} (h : postOk to = true) {f : Nat} (hf : f < to.length) (x : Int) : x ∈ regionL to (f : Int) ↔ ∃ i : Nat, x = (i : Int) ∧ i < to.length ∧ inRegion to f i = true := by
  rw [regionL_in h hf, List.mem_map]
  constructor
  · rintro ⟨i, hi, rfl⟩
    obtain ⟨h1, h2⟩ := List.mem_filter.1 hi
    exact ⟨i, rfl, List.mem_range.1 h1, h2⟩
  · rintro ⟨i, rfl, h1, h2⟩
    exact ⟨i, List.mem_filter.2 ⟨List.mem_range.2 h1, h2⟩, rfl⟩
theorem region_pos {to : List (List Int)} (h : postOk to = true) {f : Nat} (hf : f < to.length) : decide ((0 : Int) < ((regionL to (f : Int)).length : Int)) = decide ((1 : Int) < ((to[f]?.getD []).length : Int)) := by
  have hr := (postOk_iff.1 h).2.1
  rw [decide_eq_decide]
  constructor
  · intro h1
    obtain ⟨x, hx⟩ := List.exists_mem_of_length_pos (l := regionL to (f : Int)) (by omega)
    obtain ⟨i, _, _, h2⟩ := (mem_region h hf x).1 hx
    have := ((inRegion_iff hr hf i).1 h2).1
    omega
  · intro h1
    obtain ⟨i, hi, h2⟩ := region_some hr hf (by omega)
    have := List.length_pos_of_mem ((mem_region h hf (i : Int)).2 ⟨i, rfl, hi, h2⟩)
    omega
end Go.Proofs.Ytbdmpilaeoclgaa.DD
namespace Go.Proofs.Ytbdmpilaeoclgaa
open Go.RowKit
set_option maxRecDepth 100000 in
set_option maxHeartbeats 1600000 in
theorem meets_out {va : Option Addr} {vc : Nat} {to : List (List Int)} (f : Int) (W : World) (HV : RowKit.Hid (GraphM W.heap.size W (.slice va to.length vc) to)) (HX : RowKit.Hid (Small to)) (hx0 : to.length ≤ 17592186044416) (h : 40 < to.length ∨ f < 0 ∨ ((DD.postL to).length : Int) ≤ f) :
    Calls Try.prog 10 #[.slice va to.length vc, .int .i64 f] W fun e W' => e = .returned (.bool true) ∧ Below W.heap.size W W' := by
  have HL := Lib.hid (show (DD.postL to).length ≤ to.length by unfold DD.postL; split <;> simp)
  have b1 : (DD.postL to).length ≤ 17592186044416 := by have := HL.out; omega
  obtain ⟨l, el⟩ : ∃ l, l = DD.postL to := ⟨_, rfl⟩
  have HEL := Lib.hid el
  rw [← el] at h b1
  clear el
  by_cases h1 : 40 < to.length
  · clear h
    go_enter Try.func10, Try.ntmps10
    go_wp2_with (first
      | (go_at_call 29; refine (ptree_any (to := to) _ HV.out HX.out).mono ?_; rintro e w1 ⟨av, rfl, hav, hb⟩; rw [← HEL.out] at hav; obtain ⟨aa, ac, rfl⟩ := hav.form; have HB := Lib.hid hb; clear hb hav)
      | (go_at_call 31; refine (awakeP_any _).mono ?_; rintro e w9 ⟨rfl, hb⟩; have HB9 := Lib.hid (bstep HB.out hb); clear hb))
    go_ret
    exact ⟨rfl, HB9.out⟩
  · by_cases h2 : f < 0
    · clear h
      go_enter Try.func10, Try.ntmps10
      go_wp2_with (first
        | (go_at_call 29; refine (ptree_any (to := to) _ HV.out HX.out).mono ?_; rintro e w1 ⟨av, rfl, hav, hb⟩; rw [← HEL.out] at hav; obtain ⟨aa, ac, rfl⟩ := hav.form; have HB := Lib.hid hb; clear hb hav)
        | (go_at_call 31; refine (awakeP_any _).mono ?_; rintro e w9 ⟨rfl, hb⟩; have HB9 := Lib.hid (bstep HB.out hb); clear hb))
      go_ret
      exact ⟨rfl, HB9.out⟩
    · have h3 : (l.length : Int) ≤ f := by omega
      clear h
      go_enter Try.func10, Try.ntmps10
      go_wp2_with (first
        | (go_at_call 29; refine (ptree_any (to := to) _ HV.out HX.out).mono ?_; rintro e w1 ⟨av, rfl, hav, hb⟩; rw [← HEL.out] at hav; obtain ⟨aa, ac, rfl⟩ := hav.form; have HB := Lib.hid hb; clear hb hav)
        | (go_at_call 31; refine (awakeP_any _).mono ?_; rintro e w9 ⟨rfl, hb⟩; have HB9 := Lib.hid (bstep HB.out hb); clear hb))
      go_ret
      exact ⟨rfl, HB9.out⟩
set_option maxRecDepth 100000 in
set_option maxHeartbeats 1600000 in
theorem meets_in {vb vo vc : Nat} {to : List (List Int)} (f : Nat) (W : World) (HV : RowKit.Hid (GraphM W.heap.size W (.slice (some ⟨vb, vo, none⟩) to.length vc) to)) (HX : RowKit.Hid (Small to)) (h : to.length ≤ 40) (hp : DD.postOk to = true) (hf : f < to.length) :
    Calls Try.prog 10 #[.slice (some ⟨vb, vo, none⟩) to.length vc, .int .i64 f] W fun e W' => e = .returned (.bool true) ∧ Below W.heap.size W W' := by
  have HP := Lib.hid hp
  have HR := Lib.hid (DD.postOk_iff.1 hp).2.1
  have HLN := Lib.hid (DD.postL_len hp)
  have HAT := Lib.hid (DD.postL_at hp hf)
  have HPOS := Lib.hid (DD.region_pos hp hf)
  have HMR := Lib.hid (fun x => DD.mem_region hp hf x)
  have HRL := Lib.hid (regionL_len to (f : Int))
  have HON := Lib.hid (fun i j (hi : DD.inRegion to f i = true) (hj : j ∈ GG.adjOf to i) (hm : j ≠ DD.meetN to f) => DD.region_on HR.out hf hi hj hm)
  have HNE := Lib.hid (fun i (hi : DD.inRegion to f i = true) => DD.region_ne HR.out hf hi)
  have HMB := Lib.hid (fun (hm : DD.meetN to f < to.length) => DD.meet_beh hm)
  have HML := Lib.hid (DD.meetN_le to f)
  have HADJ := Lib.hid (fun i (hi : i < to.length) k (hk : k < (to[i]?.getD []).length) => (show ∃ j : Nat, (to[i]?.getD [])[k]?.getD 0 = (j : Int) ∧ j < to.length ∧ j ∈ GG.adjOf to i by
    have h1 := GG.right_at HR.out hi
    have h2 := GG.row_in h1 _ (GG.getD_mem (d := 0) hk)
    refine ⟨((to[i]?.getD [])[k]?.getD 0).toNat, by omega, by omega, ?_⟩
    rw [GG.adj_mem HR.out hi]
    have := GG.getD_mem (d := (0 : Int)) hk
    rwa [show ((((to[i]?.getD [])[k]?.getD 0).toNat : Nat) : Int) = (to[i]?.getD [])[k]?.getD 0 by omega]))
  rw [DD.meet_nat] at HAT
  obtain ⟨m, em⟩ : ∃ m, m = DD.meetN to f := ⟨_, rfl⟩
  rw [← em] at HAT HML HMB
  simp only [← em] at HON HNE
  clear em hp
  have i1 : (0 : Int) ≤ f ∧ (f : Int) < to.length := by omega
  have n0 : decide ((f : Int) < 0) = false := decide_eq_false (by omega)
  have n1 : decide ((to.length : Int) ≤ (f : Int)) = false := decide_eq_false (by omega)
  have m1 : decide (to.length ≤ f) = false := decide_eq_false (by omega)
  have m40 : decide ((40 : Int) < (to.length : Int)) = false := decide_eq_false (by omega)
  by_cases hm : m < to.length
  · have HBE := Lib.hid (HMB.out hm).2
    have hmi : decide ((m : Int) < (to.length : Int)) = true := decide_eq_true (by omega)
    go_enter Try.func10, Try.ntmps10
    go_wp2_with (first
      | (go_at_call 29; refine (ptree_any (to := to) _ HV.out HX.out).mono ?_; rintro e w1 ⟨av, rfl, hav, hb⟩; have HAV := Lib.hid hav; obtain ⟨aa, ac, eav⟩ := hav.form; rw [HLN.out] at eav; subst eav; obtain ⟨ab, ao, eaa, hac⟩ := hav.cellAt (show f < (DD.postL to).length by rw [HLN.out]; exact hf); rw [HAT.out] at hac; subst eaa; have HB := Lib.hid hb; clear hb hav)
      | (go_at_call 37; refine (rbehind_any (to := to) m f _ (HV.out.on HB.out HB.out.size) HX.out HR.out hf).mono ?_; rintro e w2 ⟨rfl, hb⟩; have HB2 := Lib.hid (bstep HB.out hb); clear hb; rw [HBE.out])
      | (go_at_call 32; refine (region_any (to := to) _ (HV.out.on HB2.out HB2.out.size) HX.out (f : Int)).mono ?_; rintro e w3 ⟨rv, rfl, hrv, hb⟩; obtain ⟨ra, rc, rfl⟩ := hrv.form; have HRV := Lib.hid hrv; have HB3 := Lib.hid (bstep HB2.out hb); clear hb hrv))
    have HRX := Lib.hid HRV.out
    have HNN := Lib.hid (show ∀ x ∈ DD.regionL to (f : Int), ∃ i : Nat, x = (i : Int) ∧ i < to.length ∧ DD.inRegion to f i = true from fun x hx => (HMR.out x).1 hx)
    have HIN0 := Lib.hid (fun i (hi : i < to.length) (h : DD.inRegion to f i = true) => (HMR.out (i : Int)).2 ⟨i, rfl, hi, h⟩)
    obtain ⟨b, hb0⟩ : ∃ b, b = decide ((1 : Int) < ((to[f]?.getD []).length : Int)) := ⟨_, rfl⟩
    have HP1 := Lib.hid (hb0.symm ▸ HPOS.out)
    have HP2 := Lib.hid hb0.symm
    clear hb0
    generalize DD.regionL to (f : Int) = L at *
    have b1 : L.length ≤ 17592186044416 := by have := HRL.out; omega
    clear HRV
    go_loopw [8] (fun k wr => ∃ i d : Nat, i ≤ L.length ∧ k = .int .i64 (i : Int) ∧ wr = w3.drewN d) (fun k _ => L.length - (intOf k).toNat)
    case atStart => exact ⟨0, 0, Nat.zero_le _, rfl, rfl⟩
    case round =>
      obtain ⟨i, d, hi, rfl, hwr⟩ := hrel
      have HWR := Lib.hid hwr
      have HBW := Lib.hid (show Below W.heap.size W wr by rw [hwr]; exact below_dN HB3.out d)
      have HRW := Lib.hid (show Row w3.heap.size wr (.slice ra L.length rc) L by rw [hwr]; exact HRX.out.drewN d)
      clear hwr
      by_cases hlt : i < L.length
      · obtain ⟨xb, xo, era, hcx⟩ := HRW.out.cellAt hlt
        obtain ⟨x, ex, hxn, hxr⟩ := HNN.out (L[i]?.getD 0) (GG.getD_mem (d := 0) hlt)
        rw [ex] at hcx
        subst era
        have i2 : (0 : Int) ≤ i ∧ (i : Int) < L.length := by omega
        have i3 : (0 : Int) ≤ x ∧ (x : Int) < to.length := by omega
        have p0 : decide ((x : Int) < 0) = false := decide_eq_false (by omega)
        have p1 : decide ((to.length : Int) ≤ (x : Int)) = false := decide_eq_false (by omega)
        have p2 : decide (to.length ≤ x) = false := decide_eq_false (by omega)
        have p3 : ((x : Int) == (m : Int)) = false := beq_eq_false_iff_ne.2 (by have := HNE.out x hxr; omega)
        have p4 : decide (x = m) = false := decide_eq_false (HNE.out x hxr)
        have p5 : (x == m) = false := beq_eq_false_iff_ne.2 (HNE.out x hxr)
        have HSX := Lib.hid (HX.out.row x)
        have HAX := Lib.hid (fun k hk => HADJ.out x hxn k hk)
        have HONX := Lib.hid (fun j hj hm => HON.out x j hxr hj hm)
        have HGX := Lib.hid (fun (w : World) (hb : Below W.heap.size W w) => (HV.out.below hb).at hxn)
        obtain ⟨sa, sac, hy, hry⟩ := HGX.out wr HBW.out
        have HRY := Lib.hid hry
        obtain ⟨s, es⟩ : ∃ s, s = to[x]?.getD [] := ⟨_, rfl⟩
        rw [← es] at hy HRY HSX
        simp only [← es] at HAX
        clear hry es hxr ex
        have b2 := HSX.out
        have HCX := Lib.hid (show w3.cell? ⟨xb, xo + i, none⟩ = some (.int .i64 (x : Int)) by rw [HWR.out] at hcx; exact hcx)
        have HYC := Lib.hid (show w3.cell? ⟨vb, vo + x, none⟩ = some (.slice sa s.length sac) by rw [HWR.out] at hy; exact hy)
        have HRY3 := Lib.hid (show Row W.heap.size w3 (.slice sa s.length sac) s by have h := HRY.out; rw [HWR.out] at h; exact h)
        clear HRY
        have HRY := HRY3
        clear HRY3
        go_wp2_with fail
        clear hcx hy
        go_loopw [9] (fun k wr => ∃ p d : Nat, p ≤ s.length ∧ k = .int .i64 (p : Int) ∧ wr = w3.drewN d) (fun k _ => s.length - (intOf k).toNat)
        case atStart => exact ⟨0, d, Nat.zero_le _, rfl, HWR.out⟩
        case round =>
          obtain ⟨p, d2, hp, rfl, hwr⟩ := hrel
          have HWR2 := Lib.hid hwr
          have HBW2 := Lib.hid (show Below W.heap.size W wr by rw [hwr]; exact below_dN HB3.out d2)
          have HRW2 := Lib.hid (show Row w3.heap.size wr (.slice (some ⟨xb, xo, none⟩) L.length rc) L by rw [hwr]; exact HRX.out.drewN d2)
          have hcx2 : wr.cell? ⟨xb, xo + i, none⟩ = some (.int .i64 (x : Int)) := by rw [hwr]; exact HCX.out
          have hy2 : wr.cell? ⟨vb, vo + x, none⟩ = some (.slice sa s.length sac) := by rw [hwr]; exact HYC.out
          have HSW := Lib.hid (show Row W.heap.size wr (.slice sa s.length sac) s by rw [hwr]; exact HRY.out.drewN d2)
          clear hwr
          by_cases hpt : p < s.length
          · obtain ⟨yb, yo, erb, hcy⟩ := HSW.out.cellAt hpt
            obtain ⟨j, ej, hjn, hja⟩ := HAX.out p hpt
            rw [ej] at hcy
            subst erb
            have i4 : (0 : Int) ≤ p ∧ (p : Int) < s.length := by omega
            by_cases hjm : j = m
            · subst hjm
              have q1 : ((j : Int) != (j : Int)) = false := bne_self_eq_false _
              clear hja ej
              go_wp2_with fail
              go_roundw
              case rel => exact ⟨p + 1, d2, by omega, by go_num, HWR2.out⟩
              case measure => simp [intOf]; omega
            · have q1 : ((j : Int) != (m : Int)) = true := bne_iff_ne.2 (by omega)
              have HIN := Lib.hid (show decide ((j : Int) ∈ L) = true from decide_eq_true (HIN0.out j hjn (HONX.out j hja hjm)))
              clear hja ej
              go_wp2_with (go_at_call 24; refine (rin_any (l := L) (j : Int) _ HRW2.out b1).mono ?_; rintro e w' ⟨rfl, rfl⟩; rw [HIN.out])
              go_roundw
              case rel => exact ⟨p + 1, d2, by omega, by go_num, HWR2.out⟩
              case measure => simp [intOf]; omega
          · go_wp2_with fail
            go_roundw
            case rel => exact ⟨i + 1, d2, by omega, by go_num, HWR2.out⟩
            case measure => simp [intOf]; omega
      · obtain ⟨fa, fc, hfr, _⟩ := (HV.out.below HBW.out).at hf
        have b3 := HX.out.row f
        generalize to[f]?.getD [] = rf at *
        cases b
        · have z1 := HP1.out
          have z2 := HP2.out
          have z3 : decide (0 < L.length) = false := decide_eq_false (by have := of_decide_eq_false z1; omega)
          have z4 : decide (1 < rf.length) = false := decide_eq_false (by have := of_decide_eq_false z2; omega)
          go_wp2_with (go_at_call 31; refine (awakeP_any _).mono ?_; rintro e w9 ⟨rfl, hb⟩; have HB9 := Lib.hid (bstep HBW.out hb); clear hb)
          go_ret
          exact ⟨rfl, HB9.out⟩
        · have z1 := HP1.out
          have z2 := HP2.out
          have z3 : decide (0 < L.length) = true := decide_eq_true (by have := of_decide_eq_true z1; omega)
          have z4 : decide (1 < rf.length) = true := decide_eq_true (by have := of_decide_eq_true z2; omega)
          go_wp2_with (go_at_call 31; refine (awakeP_any _).mono ?_; rintro e w9 ⟨rfl, hb⟩; have HB9 := Lib.hid (bstep HBW.out hb); clear hb)
          go_ret
          exact ⟨rfl, HB9.out⟩
  · have hmi : decide ((m : Int) < (to.length : Int)) = false := decide_eq_false (by omega)
    have hmj : decide (m < to.length) = false := decide_eq_false hm
    go_enter Try.func10, Try.ntmps10
    go_wp2_with (first
      | (go_at_call 29; refine (ptree_any (to := to) _ HV.out HX.out).mono ?_; rintro e w1 ⟨av, rfl, hav, hb⟩; have HAV := Lib.hid hav; obtain ⟨aa, ac, eav⟩ := hav.form; rw [HLN.out] at eav; subst eav; obtain ⟨ab, ao, eaa, hac⟩ := hav.cellAt (show f < (DD.postL to).length by rw [HLN.out]; exact hf); rw [HAT.out] at hac; subst eaa; have HB := Lib.hid hb; clear hb hav)
      | (go_at_call 32; refine (region_any (to := to) _ (HV.out.on HB.out HB.out.size) HX.out (f : Int)).mono ?_; rintro e w3 ⟨rv, rfl, hrv, hb⟩; obtain ⟨ra, rc, rfl⟩ := hrv.form; have HRV := Lib.hid hrv; have HB3 := Lib.hid (bstep HB.out hb); clear hb hrv))
    have HRX := Lib.hid HRV.out
    have HNN := Lib.hid (show ∀ x ∈ DD.regionL to (f : Int), ∃ i : Nat, x = (i : Int) ∧ i < to.length ∧ DD.inRegion to f i = true from fun x hx => (HMR.out x).1 hx)
    have HIN0 := Lib.hid (fun i (hi : i < to.length) (h : DD.inRegion to f i = true) => (HMR.out (i : Int)).2 ⟨i, rfl, hi, h⟩)
    obtain ⟨b, hb0⟩ : ∃ b, b = decide ((1 : Int) < ((to[f]?.getD []).length : Int)) := ⟨_, rfl⟩
    have HP1 := Lib.hid (hb0.symm ▸ HPOS.out)
    have HP2 := Lib.hid hb0.symm
    clear hb0
    generalize DD.regionL to (f : Int) = L at *
    have b1 : L.length ≤ 17592186044416 := by have := HRL.out; omega
    clear HRV
    go_loopw [8] (fun k wr => ∃ i d : Nat, i ≤ L.length ∧ k = .int .i64 (i : Int) ∧ wr = w3.drewN d) (fun k _ => L.length - (intOf k).toNat)
    case atStart => exact ⟨0, 0, Nat.zero_le _, rfl, rfl⟩
    case round =>
      obtain ⟨i, d, hi, rfl, hwr⟩ := hrel
      have HWR := Lib.hid hwr
      have HBW := Lib.hid (show Below W.heap.size W wr by rw [hwr]; exact below_dN HB3.out d)
      have HRW := Lib.hid (show Row w3.heap.size wr (.slice ra L.length rc) L by rw [hwr]; exact HRX.out.drewN d)
      clear hwr
      by_cases hlt : i < L.length
      · obtain ⟨xb, xo, era, hcx⟩ := HRW.out.cellAt hlt
        obtain ⟨x, ex, hxn, hxr⟩ := HNN.out (L[i]?.getD 0) (GG.getD_mem (d := 0) hlt)
        rw [ex] at hcx
        subst era
        have i2 : (0 : Int) ≤ i ∧ (i : Int) < L.length := by omega
        have i3 : (0 : Int) ≤ x ∧ (x : Int) < to.length := by omega
        have p0 : decide ((x : Int) < 0) = false := decide_eq_false (by omega)
        have p1 : decide ((to.length : Int) ≤ (x : Int)) = false := decide_eq_false (by omega)
        have p2 : decide (to.length ≤ x) = false := decide_eq_false (by omega)
        have p3 : ((x : Int) == (m : Int)) = false := beq_eq_false_iff_ne.2 (by have := HNE.out x hxr; omega)
        have p4 : decide (x = m) = false := decide_eq_false (HNE.out x hxr)
        have p5 : (x == m) = false := beq_eq_false_iff_ne.2 (HNE.out x hxr)
        have HSX := Lib.hid (HX.out.row x)
        have HAX := Lib.hid (fun k hk => HADJ.out x hxn k hk)
        have HONX := Lib.hid (fun j hj hm => HON.out x j hxr hj hm)
        have HGX := Lib.hid (fun (w : World) (hb : Below W.heap.size W w) => (HV.out.below hb).at hxn)
        obtain ⟨sa, sac, hy, hry⟩ := HGX.out wr HBW.out
        have HRY := Lib.hid hry
        obtain ⟨s, es⟩ : ∃ s, s = to[x]?.getD [] := ⟨_, rfl⟩
        rw [← es] at hy HRY HSX
        simp only [← es] at HAX
        clear hry es hxr ex
        have b2 := HSX.out
        have HCX := Lib.hid (show w3.cell? ⟨xb, xo + i, none⟩ = some (.int .i64 (x : Int)) by rw [HWR.out] at hcx; exact hcx)
        have HYC := Lib.hid (show w3.cell? ⟨vb, vo + x, none⟩ = some (.slice sa s.length sac) by rw [HWR.out] at hy; exact hy)
        have HRY3 := Lib.hid (show Row W.heap.size w3 (.slice sa s.length sac) s by have h := HRY.out; rw [HWR.out] at h; exact h)
        clear HRY
        have HRY := HRY3
        clear HRY3
        go_wp2_with fail
        clear hcx hy
        go_loopw [9] (fun k wr => ∃ p d : Nat, p ≤ s.length ∧ k = .int .i64 (p : Int) ∧ wr = w3.drewN d) (fun k _ => s.length - (intOf k).toNat)
        case atStart => exact ⟨0, d, Nat.zero_le _, rfl, HWR.out⟩
        case round =>
          obtain ⟨p, d2, hp, rfl, hwr⟩ := hrel
          have HWR2 := Lib.hid hwr
          have HBW2 := Lib.hid (show Below W.heap.size W wr by rw [hwr]; exact below_dN HB3.out d2)
          have HRW2 := Lib.hid (show Row w3.heap.size wr (.slice (some ⟨xb, xo, none⟩) L.length rc) L by rw [hwr]; exact HRX.out.drewN d2)
          have hcx2 : wr.cell? ⟨xb, xo + i, none⟩ = some (.int .i64 (x : Int)) := by rw [hwr]; exact HCX.out
          have hy2 : wr.cell? ⟨vb, vo + x, none⟩ = some (.slice sa s.length sac) := by rw [hwr]; exact HYC.out
          have HSW := Lib.hid (show Row W.heap.size wr (.slice sa s.length sac) s by rw [hwr]; exact HRY.out.drewN d2)
          clear hwr
          by_cases hpt : p < s.length
          · obtain ⟨yb, yo, erb, hcy⟩ := HSW.out.cellAt hpt
            obtain ⟨j, ej, hjn, hja⟩ := HAX.out p hpt
            rw [ej] at hcy
            subst erb
            have i4 : (0 : Int) ≤ p ∧ (p : Int) < s.length := by omega
            by_cases hjm : j = m
            · subst hjm
              have q1 : ((j : Int) != (j : Int)) = false := bne_self_eq_false _
              clear hja ej
              go_wp2_with fail
              go_roundw
              case rel => exact ⟨p + 1, d2, by omega, by go_num, HWR2.out⟩
              case measure => simp [intOf]; omega
            · have q1 : ((j : Int) != (m : Int)) = true := bne_iff_ne.2 (by omega)
              have HIN := Lib.hid (show decide ((j : Int) ∈ L) = true from decide_eq_true (HIN0.out j hjn (HONX.out j hja hjm)))
              clear hja ej
              go_wp2_with (go_at_call 24; refine (rin_any (l := L) (j : Int) _ HRW2.out b1).mono ?_; rintro e w' ⟨rfl, rfl⟩; rw [HIN.out])
              go_roundw
              case rel => exact ⟨p + 1, d2, by omega, by go_num, HWR2.out⟩
              case measure => simp [intOf]; omega
          · go_wp2_with fail
            go_roundw
            case rel => exact ⟨i + 1, d2, by omega, by go_num, HWR2.out⟩
            case measure => simp [intOf]; omega
      · obtain ⟨fa, fc, hfr, _⟩ := (HV.out.below HBW.out).at hf
        have b3 := HX.out.row f
        generalize to[f]?.getD [] = rf at *
        cases b
        · have z1 := HP1.out
          have z2 := HP2.out
          have z3 : decide (0 < L.length) = false := decide_eq_false (by have := of_decide_eq_false z1; omega)
          have z4 : decide (1 < rf.length) = false := decide_eq_false (by have := of_decide_eq_false z2; omega)
          go_wp2_with (go_at_call 31; refine (awakeP_any _).mono ?_; rintro e w9 ⟨rfl, hb⟩; have HB9 := Lib.hid (bstep HBW.out hb); clear hb)
          go_ret
          exact ⟨rfl, HB9.out⟩
        · have z1 := HP1.out
          have z2 := HP2.out
          have z3 : decide (0 < L.length) = true := decide_eq_true (by have := of_decide_eq_true z1; omega)
          have z4 : decide (1 < rf.length) = true := decide_eq_true (by have := of_decide_eq_true z2; omega)
          go_wp2_with (go_at_call 31; refine (awakeP_any _).mono ?_; rintro e w9 ⟨rfl, hb⟩; have HB9 := Lib.hid (bstep HBW.out hb); clear hb)
          go_ret
          exact ⟨rfl, HB9.out⟩
theorem postMeets_walk {v : Value} {to : List (List Int)} (f : Int) (W : World) (hv : GraphM W.heap.size W v to) (hx : Small to) :
    Calls Try.prog 10 #[v, .int .i64 f] W fun e W' => e = .returned (.bool true) ∧ Below W.heap.size W W' := by
  obtain ⟨va, vc, rfl⟩ := hv.form
  by_cases h : 40 < to.length ∨ f < 0 ∨ ((DD.postL to).length : Int) ≤ f
  · exact meets_out f W (Lib.hid hv) (Lib.hid hx) hx.1 h
  · have hl : (DD.postL to).length ≤ to.length := by unfold DD.postL; split <;> simp
    obtain ⟨k, rfl⟩ : ∃ k : Nat, f = (k : Int) := ⟨f.toNat, by omega⟩
    cases hp : DD.postOk to
    · rw [DD.postL_no hp] at h
      simp at h
    · rw [DD.postL_len hp] at h
      obtain ⟨vb, vo, vc', e⟩ := hv.addr (by omega)
      cases e
      exact meets_in k W (Lib.hid hv) (Lib.hid hx) (by omega) hp (by omega)
end Go.Proofs.Ytbdmpilaeoclgaa
