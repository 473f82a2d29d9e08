import Derived.Test.YtbdmpilaeoclgaaPostE
set_option linter.unusedSimpArgs false
set_option linter.unusedVariables false
/-! post: Held (the project), and what its tree says -/
namespace Go.Proofs.Ytbdmpilaeoclgaa
open Go.RowKit
set_option maxRecDepth 100000 in
set_option maxHeartbeats 3200000 in
theorem held_full {v : Value} {to : List (List Int)} (W : World) (hv : GraphM W.heap.size W v to) (hx : Small to) :
    Calls Try.prog 33 #[v] W fun e W' => NewGraph W.heap.size (DD.heldL to) e W W' ∧ MeetOk to := by
  have hx0 := hx.1
  have HV := Lib.hid hv
  have HX := Lib.hid hx
  obtain ⟨va, vc, rfl⟩ := hv.form
  obtain ⟨i0, hi0, hz0, hz1, hz2⟩ := info_parts Try.infoGInt
  clear hv hx
  cases hp : DD.postOk to
  · have HE := Lib.hid (DD.heldL_no hp)
    have HP := Lib.hid (DD.postL_no hp)
    have hmk := run_make_row' (P := Try.prog) 22 24 (.slice none 0 0) 24 (by kernel_rfl) Try.infoGRow rfl .i64 .i64 0 (by omega) (by omega)
    simp only [show ((0 : Nat) : Int) = 0 from rfl] at hmk
    clear hp
    go_enter Try.func33, Try.ntmps33
    go_wp2_with (go_at_call 29; refine (ptree_full (to := to) _ HV.out HX.out).mono ?_; rintro e w' ⟨⟨av, rfl, hav, hB⟩, hok⟩; have HOK := Lib.hid hok; clear hok; have HB := Lib.hid hB; rw [HP.out] at hav; obtain ⟨aa, ac, rfl⟩ := hav.form; clear hB hav)
    have H0 := Lib.hid (ownG_new w' 0)
    clear hmk
    go_loopw [16] (fun k wr => k = .int .i64 0 ∧ OwnG w' 0 (fun _ => []) wr) (fun k _ => 0)
    case atStart => exact ⟨rfl, H0.out⟩
    case round =>
      obtain ⟨rfl, hO⟩ := hrel
      have HG := Lib.hid (show GraphM wr.heap.size wr (.slice (some ⟨w'.heap.size, 0, none⟩) 0 0) (DD.heldL to) by rw [HE.out]; exact hO.graph)
      have HBE := Lib.hid (show Below W.heap.size W wr from HB.out.trans (hO.choose_spec.below.mono HB.out.size))
      clear hO H0
      go_wp2_with fail
      go_ret
      exact ⟨⟨_, rfl, HG.out, HBE.out⟩, HOK.out⟩
  · have HP := Lib.hid hp
    have hlen := GG.right_len (DD.postOk_iff.1 hp).2.1
    have HE := Lib.hid (DD.heldR_all hp)
    have HLN := Lib.hid (DD.postL_len hp)
    have HAT := Lib.hid (fun k (hk : k < to.length) => DD.postL_at hp hk)
    have HR := Lib.hid (DD.postOk_iff.1 hp).2.1
    have hmk := run_make_row' (P := Try.prog) 22 24 (.slice none 0 0) 24 (by kernel_rfl) Try.infoGRow rfl .i64 .i64 to.length (by omega) (by omega)
    clear hp
    go_enter Try.func33, Try.ntmps33
    go_wp2_with (go_at_call 29; refine (ptree_full (to := to) _ HV.out HX.out).mono ?_; rintro e w' ⟨⟨av, rfl, hav, hB⟩, hok⟩; have HOK := Lib.hid hok; clear hok; have HB := Lib.hid hB; obtain ⟨aa, ac, eav⟩ := hav.form; rw [HLN.out] at eav; subst eav; have HAV := Lib.hid hav; clear hB hav)
    have H0 := Lib.hid (ownG_new w' to.length)
    clear hmk
    go_loopw [16] (fun k wr => ∃ f : Nat, f ≤ to.length ∧ k = .int .i64 (f : Int) ∧ OwnG w' to.length (DD.heldR to f 0) wr) (fun k _ => to.length - (intOf k).toNat)
    case atStart => exact ⟨0, Nat.zero_le _, rfl, H0.out.congr fun j _ => DD.heldR_zero to j⟩
    case round =>
      obtain ⟨f, hf, rfl, hO⟩ := hrel
      have HO := Lib.hid hO
      have HBO := Lib.hid (show Below W.heap.size W wr from HB.out.trans (hO.choose_spec.below.mono HB.out.size))
      have HBT := Lib.hid (show Below w'.heap.size w' wr from hO.choose_spec.below)
      clear hO H0
      by_cases hlt : f < to.length
      · obtain ⟨ab, ao, eaa, hac⟩ := (HAV.out.below HBT.out).cellAt (show f < (DD.postL to).length by rw [HLN.out]; exact hlt)
        rw [HAT.out f hlt] at hac
        subst eaa
        have i1 : (0 : Int) ≤ f ∧ (f : Int) < to.length := by omega
        have HM := Lib.hid (DD.meetI_bd to f)
        cases hfk : DD.forkB to f
        · have HF := Lib.hid hfk
          have HN := Lib.hid (fun k => DD.heldR_skip hfk k)
          generalize DD.meetI to f = m at hac HM
          clear hfk
          go_wp2_with (go_at_call 58; refine (isFork_any (to := to) _ (HV.out.on HBO.out HBO.out.size) HX.out f hlt).mono ?_; rintro e w2 ⟨rfl, hB2⟩; have HB2 := Lib.hid hB2; clear hB2; rw [HF.out])
          go_roundw
          case rel => exact ⟨f + 1, by omega, by go_num, (HO.out.on HB2.out).congr fun k _ => HN.out k⟩
          case measure => simp [intOf]; omega
        · have HF := Lib.hid hfk
          have HIR := Lib.hid (DD.inRegion_fork hfk)
          generalize DD.meetI to f = m at hac HM HIR
          clear hfk
          go_wp2_with (first
            | (go_at_call 58; refine (isFork_any (to := to) _ (HV.out.on HBO.out HBO.out.size) HX.out f hlt).mono ?_; rintro e w2 ⟨rfl, hB2⟩; have HB2 := Lib.hid hB2; have HBX := Lib.hid (bstep HBO.out hB2); clear hB2; rw [HF.out])
            | (go_at_call 59; refine (between_any (to := to) _ (HV.out.on HBX.out HBX.out.size) HR.out f hlt m).mono ?_; rintro e w3 ⟨rfl, hfl, hB3⟩; have HFL := Lib.hid hfl; have HB3 := Lib.hid hB3; clear hB3 hfl))
          have HO3 := Lib.hid ((HO.out.on HB2.out).on HB3.out)
          have HGT := Lib.hid (show w'.heap.size < w2.heap.size + 2 by have := HBT.out.size; have := HB2.out.size; omega)
          clear hac
          go_loopw [30] (fun j wq => ∃ i : Nat, i ≤ to.length ∧ j = .int .i64 (i : Int) ∧ OwnG w' to.length (DD.heldR to f i) wq ∧ FlagsN wq (w2.heap.size + 2) to.length (DD.markB to m f)) (fun j _ => to.length - (intOf j).toNat)
          case atStart => exact ⟨0, Nat.zero_le _, rfl, HO3.out, HFL.out⟩
          case round =>
            obtain ⟨i, hi, rfl, ⟨vs, hT⟩, hFw⟩ := hrel
            have HT := Lib.hid hT
            have HFW := Lib.hid hFw
            clear hT hFw
            by_cases hli : i < to.length
            · have hc := World.rowIs.cell HFW.out hli
              have i2 : (0 : Int) ≤ i ∧ (i : Int) < to.length := by omega
              cases hb : DD.markB to m f i
              · have HS := Lib.hid (fun k => DD.heldR_no (to := to) (f := f) (q := i) ((HIR.out i).trans hb) k)
                rw [hb] at hc
                clear hb
                go_wp2_with fail
                go_roundw
                case rel => exact ⟨i + 1, by omega, by go_num, OwnG.congr ⟨vs, HT.out⟩ fun k _ => HS.out k, HFW.out⟩
                case measure => simp [intOf]; omega
              · have HS := Lib.hid (fun k => DD.heldR_yes (to := to) (f := f) (q := i) ((HIR.out i).trans hb) k)
                have HLR := Lib.hid (DD.heldR_len to f i i)
                rw [hb] at hc
                have hcj := World.rowIs.cell HT.out.tab hli
                obtain ⟨sa, sc, hsv⟩ := GG.own_slice (HT.out.own i hli)
                have HSV := Lib.hid hsv
                clear hb hsv
                go_wp2_with (at_builtin
                             refine wpList_append_lies _ rfl _ _ 24 rfl (w'.heap.size + 1) 3 i0 (.int .i64 0) 1 8 Try.underlying24 hi0 hz0 hz1 hz2 rfl (by decide) (vs i) _ _ rfl ((HT.out.own i hli).alloc _) ⟨wr.heap.size, 0, none⟩ 1 1 [.int .i64 (f : Int)] rfl rfl (GG.cell_one _ _ _) (by intro u hu; rw [List.mem_singleton.1 hu]; rfl) (by decide) (by have := HLR.out; unfold maxLen; omega) (by have := HLR.out; omega) (by have := HT.out.size; simp; omega) (wr.heap.size + 1) (by simp) ?_
                             intro g cap w4 ho hg hat _
                             have HA := Lib.hid (HT.out.app_flags HFW.out HGT.out hli ho hg hat)
                             have hcw := HA.out.2.2.1
                             have hfw := HA.out.2.2.2
                             clear ho hg hat)
                go_roundw
                case rel => exact ⟨i + 1, by omega, by go_num, HA.out.1.congr fun k _ => HS.out k, HA.out.2.1⟩
                case measure => simp [intOf]; omega
            · have HN := Lib.hid (show OwnG w' to.length (DD.heldR to (f + 1) 0) wr from OwnG.congr ⟨vs, HT.out⟩ fun k hk => DD.heldR_next (by omega))
              clear HT HFW
              go_wp2_with fail
              go_roundw
              case rel => exact ⟨f + 1, by omega, by go_num, HN.out⟩
              case measure => simp [intOf]; omega
      · have HG := Lib.hid (show GraphM wr.heap.size wr (.slice (some ⟨w'.heap.size, 0, none⟩) to.length to.length) (DD.heldL to) by
          rw [← HE.out]
          have h := HO.out
          rw [show f = to.length by omega] at h
          exact h.graph)
        clear HO
        go_wp2_with fail
        go_ret
        exact ⟨⟨_, rfl, HG.out, HBO.out⟩, HOK.out⟩
end Go.Proofs.Ytbdmpilaeoclgaa
