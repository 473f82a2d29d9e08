import Derived.Test.YtbdmpilaeoclgaaPostE
set_option linter.unusedSimpArgs false
set_option linter.unusedVariables false
/-! post: the reference: Right, Behind -/
namespace Go.Proofs.Ytbdmpilaeoclgaa
open Go.RowKit
set_option maxHeartbeats 1600000 in
set_option maxRecDepth 100000 in
theorem rright12_any {v : Value} {to : List (List Int)} (W : World) (hv : GraphM W.heap.size W v to) (hx : Small to) :
    Calls Try.prog 57 #[v] W fun e W' => e = .returned (.bool (DD.postOk to)) ∧ Below W.heap.size W W' := by
  have hx0 := hx.1
  have HV := Lib.hid hv
  have HX := Lib.hid hx
  obtain ⟨va, vc, rfl⟩ := hv.form
  clear hv hx
  by_cases hl : to.length ≤ 255
  · cases hr : GG.rightG to
    · have HR := Lib.hid hr
      have HE := Lib.hid (show DD.postOk to = false by unfold DD.postOk; rw [hr]; simp)
      clear hr
      go_enter Try.func57, Try.ntmps57
      go_wp2_with (go_at_call 46; refine (rrightG_any _ to _ _ HV.out HX.out).mono ?_; rintro e w' ⟨rfl, d, rfl⟩; rw [HR.out])
      go_ret
      exact ⟨ret_bool HE.out.symm, below_dN (Below.refl _ _) _⟩
    · have HR := Lib.hid hr
      cases ha : DD.allB to
      · have HE := Lib.hid (show DD.postOk to = false by unfold DD.postOk; rw [ha]; simp)
        obtain ⟨k, hk⟩ := lostI_no hr ha
        have HK := Lib.hid hk
        have hk0 : (0 : Int) ≤ (k : Int) := by omega
        clear hr ha hk
        go_enter Try.func57, Try.ntmps57
        go_wp2_with (first
          | (go_at_call 46; refine (rrightG_any _ to _ _ HV.out HX.out).mono ?_; rintro e w' ⟨rfl, d, rfl⟩; rw [HR.out])
          | (go_at_call 47; refine (rlost_any (to := to) (W.drewN d) (HV.out.drewN d) HR.out).mono ?_; rintro e w2 ⟨rfl, hB⟩; have HB := Lib.hid (show Below W.heap.size W w2 from (below_dN (Below.refl W.heap.size W) d).trans hB); clear hB; rw [HK.out]))
        go_ret
        exact ⟨ret_bool HE.out.symm, HB.out⟩
      · have HK := Lib.hid (lostI_all hr ha)
        cases he : DD.allEnds to
        · have HE := Lib.hid (show DD.postOk to = false by unfold DD.postOk; rw [he]; simp)
          obtain ⟨k, hk⟩ := stuckI_no hr he
          have HK2 := Lib.hid hk
          have hk0 : (0 : Int) ≤ (k : Int) := by omega
          clear hr ha hk he
          go_enter Try.func57, Try.ntmps57
          go_wp2_with (first
            | (go_at_call 46; refine (rrightG_any _ to _ _ HV.out HX.out).mono ?_; rintro e w' ⟨rfl, d, rfl⟩; rw [HR.out])
            | (go_at_call 47; refine (rlost_any (to := to) (W.drewN d) (HV.out.drewN d) HR.out).mono ?_; rintro e w2 ⟨rfl, hB⟩; have HB := Lib.hid (show Below W.heap.size W w2 from (below_dN (Below.refl W.heap.size W) d).trans hB); clear hB; rw [HK.out])
            | (go_at_call 67; refine (rstuck_any (to := to) _ (HV.out.on HB.out HB.out.size) HR.out).mono ?_; rintro e w3 ⟨rfl, hB2⟩; have HB2 := Lib.hid (bstep HB.out hB2); clear hB2; rw [HK2.out]))
          go_ret
          exact ⟨ret_bool HE.out.symm, HB2.out⟩
        · have HE := Lib.hid (DD.postOk_iff.2 ⟨hl, hr, ha, he⟩)
          have HK2 := Lib.hid (stuckI_all hr he)
          clear hr ha he
          go_enter Try.func57, Try.ntmps57
          go_wp2_with (first
            | (go_at_call 46; refine (rrightG_any _ to _ _ HV.out HX.out).mono ?_; rintro e w' ⟨rfl, d, rfl⟩; rw [HR.out])
            | (go_at_call 47; refine (rlost_any (to := to) (W.drewN d) (HV.out.drewN d) HR.out).mono ?_; rintro e w2 ⟨rfl, hB⟩; have HB := Lib.hid (show Below W.heap.size W w2 from (below_dN (Below.refl W.heap.size W) d).trans hB); clear hB; rw [HK.out])
            | (go_at_call 67; refine (rstuck_any (to := to) _ (HV.out.on HB.out HB.out.size) HR.out).mono ?_; rintro e w3 ⟨rfl, hB2⟩; have HB2 := Lib.hid (bstep HB.out hB2); clear hB2; rw [HK2.out]))
          go_ret
          exact ⟨ret_bool HE.out.symm, HB2.out⟩
  · have HE := Lib.hid (show DD.postOk to = false by unfold DD.postOk; rw [decide_eq_false hl]; simp)
    have h2 : 255 < to.length := by omega
    go_enter Try.func57, Try.ntmps57
    go_wp2_with fail
    go_ret
    exact ⟨ret_bool HE.out.symm, Below.refl _ _⟩
theorem wo_any {v : Value} {to : List (List Int)} (b a : Nat) (W : World) (hv : GraphM W.heap.size W v to) (hr : GG.rightG to = true) (hb : b < to.length) :
    Calls Try.prog 48 #[v, .int .i64 b, .int .i64 a] W fun e W' => NewFlags W to.length (DD.woB to b a) e W' := by
  have hl := GG.right_len hr
  by_cases h : a = b
  · subst h
    refine (without_same a W hv hl.2).mono fun e W' h => ⟨h.1, World.rowIs.congr h.2.1 (fun i _ => ?_), h.2.2⟩
    unfold DD.woB; simp
  · refine (without_new b a W hv hr hb (by omega)).mono fun e W' h' => ⟨h'.1, World.rowIs.congr h'.2.1 (fun i _ => ?_), h'.2.2⟩
    unfold DD.woB; rw [decide_eq_true h, Bool.true_and]
set_option maxHeartbeats 1600000 in
set_option maxRecDepth 100000 in
theorem rbehind_any {v : Value} {to : List (List Int)} (a b : Nat) (W : World) (hv : GraphM W.heap.size W v to) (hx : Small to) (hr : GG.rightG to = true) (hb : b < to.length) :
    Calls Try.prog 37 #[v, .int .i64 a, .int .i64 b] W fun e W' => e = .returned (.bool (DD.behB to a b)) ∧ Below W.heap.size W W' := by
  have hlen := GG.right_len hr
  have HV := Lib.hid hv
  have HX := Lib.hid hx
  have HR := Lib.hid hr
  obtain ⟨vb, vo, vc, rfl⟩ := hv.addr (by omega)
  clear hv hx hr
  have HY := Lib.hid (fun i (hi : i < to.length) (h : (DD.woB to b a i && GG.exitB to i) = true) => (show DD.behB to a b = false by
    unfold DD.behB
    rw [List.any_eq_true.2 ⟨i, List.mem_range.2 hi, h⟩]; rfl))
  have HN := Lib.hid (fun (h : ∀ i, i < to.length → (DD.woB to b a i && GG.exitB to i) = false) => (show DD.behB to a b = true by
    unfold DD.behB
    rw [List.any_eq_false.2 (fun i hi => by rw [h i (List.mem_range.1 hi)]; simp)]; rfl))
  go_enter Try.func37, Try.ntmps37
  go_wp2_with (go_at_call 48; refine (wo_any (to := to) b a _ HV.out HR.out hb).mono ?_; rintro e w1 ⟨rfl, hf, hB⟩; have HF := Lib.hid hf; have HB := Lib.hid hB; clear hf hB)
  go_loop [8] (fun k => ∃ i : Nat, i ≤ to.length ∧ k = .int .i64 (i : Int) ∧ RowKit.Hid (∀ j, j < i → (DD.woB to b a j && GG.exitB to j) = false)) (fun k => to.length - (intOf k).toNat)
  case atStart => exact ⟨0, Nat.zero_le _, rfl, Lib.hid (fun j hj => absurd hj (Nat.not_lt_zero _))⟩
  case round =>
    obtain ⟨i, hi, rfl, HS⟩ := hrel
    by_cases hlt : i < to.length
    · have hc := World.rowIs.cell HF.out hlt
      have i1 : (0 : Int) ≤ i ∧ (i : Int) < to.length := by omega
      have HNX := Lib.hid (fun (h : (DD.woB to b a i && GG.exitB to i) = false) => (show ∀ j, j < i + 1 → (DD.woB to b a j && GG.exitB to j) = false from fun j hj => by
        by_cases e : j = i
        · subst e; exact h
        · exact HS.out j (by omega)))
      cases hw : DD.woB to b a i
      · have HN2 := Lib.hid (HNX.out (by rw [hw]; rfl))
        rw [hw] at hc
        clear hw
        go_wp2_with fail
        go_round
        case rel => exact ⟨i + 1, by omega, by go_num, HN2⟩
        case measure => simp [intOf]; omega
      · rw [hw] at hc
        obtain ⟨ra, rac, hx1, _⟩ := (HV.out.below HB.out).at hlt
        have b1 := HX.out.row i
        cases hex : GG.exitB to i
        · have HN2 := Lib.hid (HNX.out (by rw [hex]; simp))
          have hne : ((((to[i]?.getD []).length : Nat) : Int) == 0) = false := by
            rw [beq_eq_false_iff_ne]
            intro e
            unfold GG.exitB at hex
            rw [List.isEmpty_eq_false_iff] at hex
            exact hex (List.length_eq_zero_iff.1 (by omega))
          generalize to[i]?.getD [] = r at hx1 b1 hne
          clear hex hw
          go_wp2_with fail
          go_round
          case rel => exact ⟨i + 1, by omega, by go_num, HN2⟩
          case measure => simp [intOf]; omega
        · have HE := Lib.hid (HY.out i hlt (by rw [hw, hex]; rfl))
          have hne : ((((to[i]?.getD []).length : Nat) : Int) == 0) = true := by
            rw [beq_iff_eq]
            unfold GG.exitB at hex
            rw [List.isEmpty_iff] at hex
            rw [hex]; rfl
          generalize to[i]?.getD [] = r at hx1 b1 hne
          clear hex hw
          go_wp2_with fail
          go_ret
          exact ⟨ret_bool HE.out.symm, HB.out⟩
    · have HE := Lib.hid (HN.out (fun j hj => HS.out j (by omega)))
      go_wp2_with fail
      go_ret
      exact ⟨ret_bool HE.out.symm, HB.out⟩
end Go.Proofs.Ytbdmpilaeoclgaa
