import Derived.Test.YtbdmpilaeoclgaaPostC
set_option linter.unusedSimpArgs false
set_option linter.unusedVariables false
/-! post: Region (the project) -/
namespace Go.Proofs.Ytbdmpilaeoclgaa.DD
open GG
def forkB (to : List (List Int)) (f : Nat) : Bool := decide (2 ≤ (to[f]?.getD []).length)
theorem inRegion_fork {to : List (List Int)} {f : Nat} (h : forkB to f = true) (i : Nat) : inRegion to f i = markB to (meetI to f) f i := by
  unfold forkB at h
  unfold inRegion; rw [h]; rfl
theorem inRegion_no {to : List (List Int)} {f : Nat} (h : forkB to f = false) (i : Nat) : inRegion to f i = false := by
  unfold forkB at h
  unfold inRegion; rw [h]; rfl
def regN (to : List (List Int)) (f m : Nat) : List Nat := (List.range m).filter (inRegion to f)
theorem regN_yes {to : List (List Int)} {f m : Nat} (h : inRegion to f m = true) : regN to f (m + 1) = regN to f m ++ [m] := by
  unfold regN; rw [List.range_succ, List.filter_append]; simp [h]
theorem regN_no {to : List (List Int)} {f m : Nat} (h : inRegion to f m = false) : regN to f (m + 1) = regN to f m := by
  unfold regN; rw [List.range_succ, List.filter_append]; simp [h]
theorem regN_len (to : List (List Int)) (f m : Nat) : (regN to f m).length ≤ m := by
  have := List.length_filter_le (inRegion to f) (List.range m); unfold regN; simpa using this
theorem regionL_in {to : List (List Int)} (h : postOk to = true) {f : Nat} (hf : f < to.length) : regionL to (f : Int) = (regN to f to.length).map Int.ofNat := by
  unfold regionL
  rw [if_pos ⟨h, by unfold inB; rw [decide_eq_true_eq]; omega⟩]; rfl
theorem regionL_no {to : List (List Int)} (h : postOk to = false) (f : Int) : regionL to f = [] := by
  unfold regionL; rw [if_neg (by rw [h]; simp)]
theorem regionL_out {to : List (List Int)} {f : Int} (h : ¬ (0 ≤ f ∧ f < to.length)) : regionL to f = [] := by
  unfold regionL; rw [if_neg]
  rintro ⟨_, h2⟩
  unfold inB at h2
  rw [decide_eq_true_eq] at h2
  exact h h2
theorem regionL_way {to : List (List Int)} {f : Nat} (h : forkB to f = false) : regionL to (f : Int) = [] := by
  unfold regionL
  split
  · rw [List.filter_eq_nil_iff.2 (fun i _ => by rw [Int.toNat_natCast, inRegion_no h]; simp)]; rfl
  · rfl
end Go.Proofs.Ytbdmpilaeoclgaa.DD
namespace Go.Proofs.Ytbdmpilaeoclgaa
open Go.RowKit
set_option maxRecDepth 100000 in
set_option maxHeartbeats 1600000 in
theorem isFork_any {v : Value} {to : List (List Int)} (W : World) (hv : GraphM W.heap.size W v to) (hx : Small to) (i : Nat) (hi : i < to.length) :
    Calls Try.prog 58 #[v, .int .i64 i] W fun e W' => e = .returned (.bool (DD.forkB to i)) ∧ Below W.heap.size W W' := by
  have hx0 := hx.1
  obtain ⟨va, vo, vc, rfl⟩ := hv.addr (by omega)
  obtain ⟨ra, rac, hx1, hrx⟩ := hv.at hi
  have i1 : (0 : Int) ≤ i ∧ (i : Int) < to.length := by omega
  have b1 := hx.row i
  have HE := Lib.hid (show DD.forkB to i = decide ((2 : Int) ≤ (to[i]?.getD []).length) by unfold DD.forkB; rw [decide_eq_decide]; omega)
  generalize to[i]?.getD [] = r at hx1 b1 HE
  clear hv hx hrx
  go_enter Try.func58, Try.ntmps58
  go_wp2_with fail
  go_ret
  exact ⟨ret_bool HE.out.symm, Below.refl _ _⟩
set_option maxRecDepth 100000 in
set_option maxHeartbeats 1600000 in
theorem region_any {v : Value} {to : List (List Int)} (W : World) (hv : GraphM W.heap.size W v to) (hx : Small to) (f : Int) :
    Calls Try.prog 32 #[v, .int .i64 f] W fun e W' => NewInts W.heap.size (DD.regionL to f) e W W' := by
  have hx0 := hx.1
  have HV := Lib.hid hv
  have HX := Lib.hid hx
  obtain ⟨va, vc, rfl⟩ := hv.form
  clear hv hx
  cases hp : DD.postOk to
  · have HE := Lib.hid (DD.regionL_no hp f)
    have HP := Lib.hid (DD.postL_no hp)
    clear hp
    by_cases h0 : f < 0
    all_goals
      go_enter Try.func32, Try.ntmps32
      go_wp2_with (go_at_call 29; refine (ptree_any (to := to) _ HV.out HX.out).mono ?_; rintro e w' ⟨av, rfl, hav, hB⟩; have HB := Lib.hid hB; rw [HP.out] at hav; obtain ⟨aa, ac, rfl⟩ := hav.form; clear hB hav)
      go_ret
      exact ⟨_, rfl, by rw [HE.out]; exact cells_empty _ _ _ _ (fun _ => rfl), HB.out⟩
  · have HP := Lib.hid hp
    by_cases hin : 0 ≤ f ∧ f < to.length
    · obtain ⟨k, rfl⟩ : ∃ k : Nat, f = (k : Int) := ⟨f.toNat, by omega⟩
      have hk : k < to.length := by omega
      cases hfk : DD.forkB to k
      · have HF := Lib.hid hfk
        have HE := Lib.hid (DD.regionL_way hfk)
        have HLN := Lib.hid (DD.postL_len hp)
        clear hp hfk
        go_enter Try.func32, Try.ntmps32
        go_wp2_with (first
          | (go_at_call 29; refine (ptree_any (to := to) _ HV.out HX.out).mono ?_; rintro e w' ⟨av, rfl, hav, hB⟩; have HB := Lib.hid hB; obtain ⟨aa, ac, eav⟩ := hav.form; rw [HLN.out] at eav; subst eav; clear hB hav)
          | (go_at_call 58; refine (isFork_any (to := to) _ (HV.out.on HB.out HB.out.size) HX.out k hk).mono ?_; rintro e w2 ⟨rfl, hB2⟩; have HB2 := Lib.hid (bstep HB.out hB2); clear hB2; rw [HF.out]))
        go_ret
        exact ⟨_, rfl, by rw [HE.out]; exact cells_empty _ _ _ _ (fun _ => rfl), HB2.out⟩
      · have HF := Lib.hid hfk
        have HE := Lib.hid (DD.regionL_in hp hk)
        have HLN := Lib.hid (DD.postL_len hp)
        have HAT := Lib.hid (DD.postL_at hp hk)
        have HR := Lib.hid (DD.postOk_iff.1 hp).2.1
        have HIR := Lib.hid (DD.inRegion_fork hfk)
        have HM := Lib.hid (DD.meetI_bd to k)
        obtain ⟨i0, hi0, hz0, hz1, hz2⟩ := info_parts Try.infoGInt
        obtain ⟨m, em⟩ : ∃ m, m = DD.meetI to k := ⟨_, rfl⟩
        rw [← em] at HAT HIR HM
        clear hp hfk em
        go_enter Try.func32, Try.ntmps32
        go_wp2_with (first
          | (go_at_call 29; refine (ptree_any (to := to) _ HV.out HX.out).mono ?_; rintro e w' ⟨av, rfl, hav, hB⟩; have HB := Lib.hid hB; obtain ⟨aa, ac, eav⟩ := hav.form; rw [HLN.out] at eav; subst eav; have HAV := Lib.hid hav; clear hB hav)
          | (go_at_call 58; refine (isFork_any (to := to) _ (HV.out.on HB.out HB.out.size) HX.out k hk).mono ?_; rintro e w2 ⟨rfl, hB2⟩; have HB2 := Lib.hid (bstep HB.out hB2); obtain ⟨ab, ao, eaa, hac⟩ := (HAV.out.below hB2).cellAt (show k < (DD.postL to).length by rw [HLN.out]; exact hk); rw [HAT.out] at hac; subst eaa; clear hB2; rw [HF.out])
          | (go_at_call 59; refine (between_any (to := to) _ (HV.out.on HB2.out HB2.out.size) HR.out k hk m).mono ?_; rintro e w3 ⟨rfl, hfl, hB3⟩; have HFL := Lib.hid hfl; have HB3 := Lib.hid (bstep HB2.out hB3); clear hB3 hfl))
        have HNIL := Lib.hid (show w3.ownsRow w3.heap.size 3 1 (.slice none 0 0) (DD.regN to k 0).length (intsV ((DD.regN to k 0).map Int.ofNat)) from World.ownsRow_nil _ _ _ _)
        clear hac
        go_loopw [6, 33] (fun o j wr => ∃ i : Nat, i ≤ to.length ∧ j = .int .i64 (i : Int) ∧ wr.ownsRow w3.heap.size 3 1 o (DD.regN to k i).length (intsV ((DD.regN to k i).map Int.ofNat)) ∧ Below w3.heap.size w3 wr) (fun _ j _ => to.length - (intOf j).toNat)
        case atStart => exact ⟨0, Nat.zero_le _, rfl, HNIL.out, Below.refl _ _⟩
        case round =>
          obtain ⟨i, hi, rfl, hO, hBw⟩ := hrel
          have HO := Lib.hid hO
          have HBW := Lib.hid hBw
          have HFB := Lib.hid (show w2.heap.size + 2 < w3.heap.size from HFL.out.lt)
          clear hO hBw
          by_cases hlt : i < to.length
          · have hc := World.rowIs.cell (FlagsN.on HFL.out HBW.out) hlt
            have i1 : (0 : Int) ≤ i ∧ (i : Int) < to.length := by omega
            have HLR := Lib.hid (DD.regN_len to k i)
            cases hb : DD.markB to m k i
            · have HS := Lib.hid (DD.regN_no (to := to) (f := k) (m := i) ((HIR.out i).trans hb))
              rw [hb] at hc
              clear hb
              go_wp2_with fail
              go_roundw
              case rel => exact ⟨i + 1, by omega, by go_num, by rw [HS.out]; exact HO.out, HBW.out⟩
              case measure => simp [intOf]; omega
            · have HS := Lib.hid (DD.regN_yes (to := to) (f := k) (m := i) ((HIR.out i).trans hb))
              rw [hb] at hc
              clear hb
              go_wp2_with (first
                | (at_builtin
                   refine GG.wpList_append_any rfl _ _ 24 rfl w3.heap.size 3 i0 (.int .i64 0) 1 8 Try.underlying24 hi0 hz0 hz1 hz2 rfl (by decide) u6 _ _ rfl (HO.out.alloc _) (.slice (some ⟨wr.heap.size, 0, none⟩) 1 1) 1 [.int .i64 (i : Int)] rfl rfl (.inr ⟨_, _, rfl, GG.cell_one _ _ _⟩) (by intro u hu; rw [List.mem_singleton.1 hu]; rfl) (by have := HLR.out; unfold maxLen; omega) (by have := HLR.out; omega) (by have := HBW.out.size; simp; omega) ?_
                   intro v1 w1 ho hg
                   have HA := Lib.hid (show w1.ownsRow w3.heap.size 3 1 v1 (DD.regN to k (i + 1)).length (intsV ((DD.regN to k (i + 1)).map Int.ofNat)) by
                     rw [HS.out]
                     have e1 : (DD.regN to k i ++ [i]).length = (DD.regN to k i).length + 1 := by simp
                     have e2 : intsV ((DD.regN to k i ++ [i]).map Int.ofNat) = intsV ((DD.regN to k i).map Int.ofNat) ++ [.int .i64 (i : Int)] := by simp [intsV]
                     rw [e1, e2]; exact ho)
                   have HB1 := Lib.hid ((HBW.out.alloc HBW.out.size _).grown hg (by have := HBW.out.size; simp; omega) (fun k e => (HO.out.lt k e).1))
                   clear ho hg))
              go_roundw
              case rel => exact ⟨i + 1, by omega, by go_num, HA.out, HB1.out⟩
              case measure => simp [intOf]; omega
          · have HW := Lib.hid (show Row wr.heap.size wr u6 (DD.regionL to (k : Int)) by
              have h := HO.out
              rw [show i = to.length by omega] at h
              rw [HE.out]
              exact cells_of_row h)
            clear HO
            go_wp2_with fail
            go_ret
            exact ⟨_, rfl, HW.out, HB3.out.trans (HBW.out.mono HB3.out.size)⟩
    · have HE := Lib.hid (DD.regionL_out (to := to) hin)
      have HLN := Lib.hid (DD.postL_len hp)
      clear hp
      by_cases h0 : f < 0
      all_goals
        go_enter Try.func32, Try.ntmps32
        go_wp2_with (go_at_call 29; refine (ptree_any (to := to) _ HV.out HX.out).mono ?_; rintro e w' ⟨av, rfl, hav, hB⟩; have HB := Lib.hid hB; obtain ⟨aa, ac, eav⟩ := hav.form; rw [HLN.out] at eav; subst eav; clear hB hav)
        go_ret
        exact ⟨_, rfl, by rw [HE.out]; exact cells_empty _ _ _ _ (fun _ => rfl), HB.out⟩
end Go.Proofs.Ytbdmpilaeoclgaa
