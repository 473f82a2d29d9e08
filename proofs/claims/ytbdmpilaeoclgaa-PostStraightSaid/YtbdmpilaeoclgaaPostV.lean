import Derived.Test.YtbdmpilaeoclgaaPostU
set_option linter.unusedSimpArgs false
set_option linter.unusedVariables false
/-! post: the reference's Region, Held -/
namespace Go.Proofs.Ytbdmpilaeoclgaa
open Go.RowKit
set_option maxRecDepth 100000 in
set_option maxHeartbeats 1600000 in
theorem rregion_any {v : Value} {to : List (List Int)} (W : World) (hv : GraphM W.heap.size W v to) (hx : Small to) (f : Int) :
    Calls Try.prog 34 #[v, .int .i64 f] W fun e W' => NewInts W.heap.size (DD.regionL to f) e W W' := by
  have hx0 := hx.1
  have HV := Lib.hid hv
  have HX := Lib.hid hx
  obtain ⟨va, vc, rfl⟩ := hv.form
  clear hv hx
  cases hp : DD.postOk to
  · have HE := Lib.hid (DD.regionL_no hp f)
    have HP := Lib.hid (DD.postL_no hp)
    clear hp
    by_cases h0 : f < 0
    all_goals
      go_enter Try.func34, Try.ntmps34
      go_wp2_with (go_at_call 30; refine (rtree12_any (to := to) _ HV.out HX.out).mono ?_; rintro e w' ⟨av, rfl, hav, hB⟩; have HB := Lib.hid hB; rw [HP.out] at hav; obtain ⟨aa, ac, rfl⟩ := hav.form; clear hB hav)
      go_ret
      exact ⟨_, rfl, by rw [HE.out]; exact cells_empty _ _ _ _ (fun _ => rfl), HB.out⟩
  · have HP := Lib.hid hp
    by_cases hin : 0 ≤ f ∧ f < to.length
    · obtain ⟨k, rfl⟩ : ∃ k : Nat, f = (k : Int) := ⟨f.toNat, by omega⟩
      have hk : k < to.length := by omega
      have HE := Lib.hid (DD.regionL_in hp hk)
      have HLN := Lib.hid (DD.postL_len hp)
      obtain ⟨i0, hi0, hz0, hz1, hz2⟩ := info_parts Try.infoGInt
      clear hp
      go_enter Try.func34, Try.ntmps34
      go_wp2_with (first
        | (go_at_call 30; refine (rtree12_any (to := to) _ HV.out HX.out).mono ?_; rintro e w' ⟨av, rfl, hav, hB⟩; have HB := Lib.hid hB; have HAV := Lib.hid hav; obtain ⟨aa, ac, eav⟩ := hav.form; rw [HLN.out] at eav; subst eav; clear hB hav)
        | (go_at_call 60; refine (marks_any (to := to) _ (HV.out.on HB.out HB.out.size) HAV.out HP.out k hk).mono ?_; rintro e w3 ⟨rfl, hfl, hB3⟩; have HFL := Lib.hid hfl; have HB3 := Lib.hid (bstep HB.out hB3); clear hB3 hfl))
      have HNIL := Lib.hid (show w3.ownsRow w3.heap.size 3 1 (.slice none 0 0) (DD.regN to k 0).length (intsV ((DD.regN to k 0).map Int.ofNat)) from World.ownsRow_nil _ _ _ _)
      have HFB := Lib.hid (show w'.heap.size < w3.heap.size from HFL.out.lt)
      go_loopw [7, 8] (fun o j wr => ∃ i : Nat, i ≤ to.length ∧ j = .int .i64 (i : Int) ∧ wr.ownsRow w3.heap.size 3 1 o (DD.regN to k i).length (intsV ((DD.regN to k i).map Int.ofNat)) ∧ Below w3.heap.size w3 wr) (fun _ j _ => to.length - (intOf j).toNat)
      case atStart => exact ⟨0, Nat.zero_le _, rfl, HNIL.out, Below.refl _ _⟩
      case round =>
        obtain ⟨i, hi, rfl, hO, hBw⟩ := hrel
        have HO := Lib.hid hO
        have HBW := Lib.hid hBw
        clear hO hBw
        by_cases hlt : i < to.length
        · have hc := World.rowIs.cell (FlagsN.on HFL.out HBW.out) hlt
          have i1 : (0 : Int) ≤ i ∧ (i : Int) < to.length := by omega
          have HLR := Lib.hid (DD.regN_len to k i)
          cases hb : DD.inRegion to k i
          · have HS := Lib.hid (DD.regN_no (to := to) (f := k) (m := i) hb)
            rw [hb] at hc
            clear hb
            go_wp2_with fail
            go_roundw
            case rel => exact ⟨i + 1, by omega, by go_num, by rw [HS.out]; exact HO.out, HBW.out⟩
            case measure => simp [intOf]; omega
          · have HS := Lib.hid (DD.regN_yes (to := to) (f := k) (m := i) hb)
            rw [hb] at hc
            clear hb
            go_wp2_with (first
              | (at_builtin
                 refine GG.wpList_append_any rfl _ _ 24 rfl w3.heap.size 3 i0 (.int .i64 0) 1 8 Try.underlying24 hi0 hz0 hz1 hz2 rfl (by decide) u7 _ _ rfl (HO.out.alloc _) (.slice (some ⟨wr.heap.size, 0, none⟩) 1 1) 1 [.int .i64 (i : Int)] rfl rfl (.inr ⟨_, _, rfl, GG.cell_one _ _ _⟩) (by intro u hu; rw [List.mem_singleton.1 hu]; rfl) (by have := HLR.out; unfold maxLen; omega) (by have := HLR.out; omega) (by have := HBW.out.size; simp; omega) ?_
                 intro v1 w1 ho hg
                 have HA := Lib.hid (show w1.ownsRow w3.heap.size 3 1 v1 (DD.regN to k (i + 1)).length (intsV ((DD.regN to k (i + 1)).map Int.ofNat)) by
                   rw [HS.out]
                   have e1 : (DD.regN to k i ++ [i]).length = (DD.regN to k i).length + 1 := by simp
                   have e2 : intsV ((DD.regN to k i ++ [i]).map Int.ofNat) = intsV ((DD.regN to k i).map Int.ofNat) ++ [.int .i64 (i : Int)] := by simp [intsV]
                   rw [e1, e2]; exact ho)
                 have HB1 := Lib.hid ((HBW.out.alloc HBW.out.size _).grown hg (by have := HBW.out.size; simp; omega) (fun k e => (HO.out.lt k e).1))
                 clear ho hg))
            go_roundw
            case rel => exact ⟨i + 1, by omega, by go_num, HA.out, HB1.out⟩
            case measure => simp [intOf]; omega
        · have HW := Lib.hid (show Row wr.heap.size wr u7 (DD.regionL to (k : Int)) by
            have h := HO.out
            rw [show i = to.length by omega] at h
            rw [HE.out]
            exact cells_of_row h)
          clear HO
          go_wp2_with fail
          go_ret
          exact ⟨_, rfl, HW.out, HB3.out.trans (HBW.out.mono HB3.out.size)⟩
    · have HE := Lib.hid (DD.regionL_out (to := to) hin)
      have HLN := Lib.hid (DD.postL_len hp)
      clear hp
      by_cases h0 : f < 0
      all_goals
        go_enter Try.func34, Try.ntmps34
        go_wp2_with (go_at_call 30; refine (rtree12_any (to := to) _ HV.out HX.out).mono ?_; rintro e w' ⟨av, rfl, hav, hB⟩; have HB := Lib.hid hB; obtain ⟨aa, ac, eav⟩ := hav.form; rw [HLN.out] at eav; subst eav; clear hB hav)
        go_ret
        exact ⟨_, rfl, by rw [HE.out]; exact cells_empty _ _ _ _ (fun _ => rfl), HB.out⟩
set_option maxRecDepth 100000 in
set_option maxHeartbeats 3200000 in
theorem rheld_any {v : Value} {to : List (List Int)} (W : World) (hv : GraphM W.heap.size W v to) (hx : Small to) :
    Calls Try.prog 36 #[v] W fun e W' => NewGraph W.heap.size (DD.heldL to) e W W' := by
  have hx0 := hx.1
  have HV := Lib.hid hv
  have HX := Lib.hid hx
  obtain ⟨va, vc, rfl⟩ := hv.form
  obtain ⟨i0, hi0, hz0, hz1, hz2⟩ := info_parts Try.infoGInt
  clear hv hx
  cases hp : DD.postOk to
  · have HE := Lib.hid (DD.heldL_no hp)
    have HP := Lib.hid (DD.postL_no hp)
    have hmk := run_make_row' (P := Try.prog) 22 24 (.slice none 0 0) 24 (by kernel_rfl) Try.infoGRow rfl .i64 .i64 0 (by omega) (by omega)
    simp only [show ((0 : Nat) : Int) = 0 from rfl] at hmk
    clear hp
    go_enter Try.func36, Try.ntmps36
    go_wp2_with (go_at_call 30; refine (rtree12_any (to := to) _ HV.out HX.out).mono ?_; rintro e w' ⟨av, rfl, hav, hB⟩; have HB := Lib.hid hB; rw [HP.out] at hav; obtain ⟨aa, ac, rfl⟩ := hav.form; clear hB hav)
    have H0 := Lib.hid (ownG_new w' 0)
    clear hmk
    go_loopw [5] (fun k wr => k = .int .i64 0 ∧ OwnG w' 0 (fun _ => []) wr) (fun k _ => 0)
    case atStart => exact ⟨rfl, H0.out⟩
    case round =>
      obtain ⟨rfl, hO⟩ := hrel
      have HG := Lib.hid (show GraphM wr.heap.size wr (.slice (some ⟨w'.heap.size, 0, none⟩) 0 0) (DD.heldL to) by rw [HE.out]; exact hO.graph)
      have HBE := Lib.hid (show Below W.heap.size W wr from HB.out.trans (hO.choose_spec.below.mono HB.out.size))
      clear hO H0
      go_wp2_with fail
      go_ret
      exact ⟨_, rfl, HG.out, HBE.out⟩
  · have HP := Lib.hid hp
    have hlen := GG.right_len (DD.postOk_iff.1 hp).2.1
    have HE := Lib.hid (DD.heldR_all hp)
    have HLN := Lib.hid (DD.postL_len hp)
    have HAT := Lib.hid (fun k (hk : k < to.length) => DD.postL_at hp hk)
    have HR := Lib.hid (DD.postOk_iff.1 hp).2.1
    have hmk := run_make_row' (P := Try.prog) 22 24 (.slice none 0 0) 24 (by kernel_rfl) Try.infoGRow rfl .i64 .i64 to.length (by omega) (by omega)
    clear hp
    go_enter Try.func36, Try.ntmps36
    go_wp2_with (go_at_call 30; refine (rtree12_any (to := to) _ HV.out HX.out).mono ?_; rintro e w' ⟨av, rfl, hav, hB⟩; have HB := Lib.hid hB; obtain ⟨aa, ac, eav⟩ := hav.form; rw [HLN.out] at eav; subst eav; have HAV := Lib.hid hav; clear hB hav)
    have H0 := Lib.hid (ownG_new w' to.length)
    clear hmk
    go_loopw [5] (fun k wr => ∃ f : Nat, f ≤ to.length ∧ k = .int .i64 (f : Int) ∧ OwnG w' to.length (DD.heldR to f 0) wr) (fun k _ => to.length - (intOf k).toNat)
    case atStart => exact ⟨0, Nat.zero_le _, rfl, H0.out.congr fun j _ => DD.heldR_zero to j⟩
    case round =>
      obtain ⟨f, hf, rfl, hO⟩ := hrel
      have HO := Lib.hid hO
      have HBO := Lib.hid (show Below W.heap.size W wr from HB.out.trans (hO.choose_spec.below.mono HB.out.size))
      have HBT := Lib.hid (show Below w'.heap.size w' wr from hO.choose_spec.below)
      clear hO H0
      by_cases hlt : f < to.length
      · have i1 : (0 : Int) ≤ f ∧ (f : Int) < to.length := by omega
        go_wp2_with (go_at_call 60; refine (marks_any (to := to) _ (HV.out.on HBO.out HBO.out.size) (HAV.out.on HBT.out HBT.out.size) HP.out f hlt).mono ?_; rintro e w3 ⟨rfl, hfl, hB3⟩; have HFL := Lib.hid hfl; have HB3 := Lib.hid hB3; clear hB3 hfl)
        have HO3 := Lib.hid (HO.out.on HB3.out)
        have HGT := Lib.hid (show w'.heap.size < wr.heap.size by have := HO.out.choose_spec.size; omega)
        go_loopw [7] (fun j wq => ∃ i : Nat, i ≤ to.length ∧ j = .int .i64 (i : Int) ∧ OwnG w' to.length (DD.heldR to f i) wq ∧ FlagsN wq wr.heap.size to.length (DD.inRegion to f)) (fun j _ => to.length - (intOf j).toNat)
        case atStart => exact ⟨0, Nat.zero_le _, rfl, HO3.out, HFL.out⟩
        case round =>
          obtain ⟨i, hi, rfl, ⟨vs, hT⟩, hFw⟩ := hrel
          have HT := Lib.hid hT
          have HFW := Lib.hid hFw
          clear hT hFw
          by_cases hli : i < to.length
          · have hc := World.rowIs.cell HFW.out hli
            have i2 : (0 : Int) ≤ i ∧ (i : Int) < to.length := by omega
            cases hb : DD.inRegion to f i
            · have HS := Lib.hid (fun k => DD.heldR_no (to := to) (f := f) (q := i) hb k)
              rw [hb] at hc
              clear hb
              go_wp2_with fail
              go_roundw
              case rel => exact ⟨i + 1, by omega, by go_num, OwnG.congr ⟨vs, HT.out⟩ fun k _ => HS.out k, HFW.out⟩
              case measure => simp [intOf]; omega
            · have HS := Lib.hid (fun k => DD.heldR_yes (to := to) (f := f) (q := i) hb k)
              have HLR := Lib.hid (DD.heldR_len to f i i)
              rw [hb] at hc
              have hcj := World.rowIs.cell HT.out.tab hli
              obtain ⟨sa, sc, hsv⟩ := GG.own_slice (HT.out.own i hli)
              have HSV := Lib.hid hsv
              clear hb hsv
              go_wp2_with (at_builtin
                           refine wpList_append_lies _ rfl _ _ 24 rfl (w'.heap.size + 1) 3 i0 (.int .i64 0) 1 8 Try.underlying24 hi0 hz0 hz1 hz2 rfl (by decide) (vs i) _ _ rfl ((HT.out.own i hli).alloc _) ⟨wr.heap.size, 0, none⟩ 1 1 [.int .i64 (f : Int)] rfl rfl (GG.cell_one _ _ _) (by intro u hu; rw [List.mem_singleton.1 hu]; rfl) (by decide) (by have := HLR.out; unfold maxLen; omega) (by have := HLR.out; omega) (by have := HT.out.size; simp; omega) (wr.heap.size + 1) (by simp) ?_
                           intro g cap w4 ho hg hat _
                           have HA := Lib.hid (HT.out.app_flags HFW.out HGT.out hli ho hg hat)
                           have hcw := HA.out.2.2.1
                           have hfw := HA.out.2.2.2
                           clear ho hg hat)
              go_roundw
              case rel => exact ⟨i + 1, by omega, by go_num, HA.out.1.congr fun k _ => HS.out k, HA.out.2.1⟩
              case measure => simp [intOf]; omega
          · have HN := Lib.hid (show OwnG w' to.length (DD.heldR to (f + 1) 0) wr from OwnG.congr ⟨vs, HT.out⟩ fun k hk => DD.heldR_next (by omega))
            clear HT HFW
            go_wp2_with fail
            go_roundw
            case rel => exact ⟨f + 1, by omega, by go_num, HN.out⟩
            case measure => simp [intOf]; omega
      · have HG := Lib.hid (show GraphM wr.heap.size wr (.slice (some ⟨w'.heap.size, 0, none⟩) to.length to.length) (DD.heldL to) by
          rw [← HE.out]
          have h := HO.out
          rw [show f = to.length by omega] at h
          exact h.graph)
        clear HO
        go_wp2_with fail
        go_ret
        exact ⟨_, rfl, HG.out, HBO.out⟩
end Go.Proofs.Ytbdmpilaeoclgaa
