import Derived.Test.YtbdmpilaeoclgaaGraU
set_option linter.unusedSimpArgs false
set_option linter.unusedVariables false
/-! graphs: Stuck; the reference's Ends, Lost, Stuck -/
namespace Go.Proofs.Ytbdmpilaeoclgaa
open Go.RowKit
theorem exits_lt {to : List (List Int)} : ∀ x ∈ (GG.exitsL to to.length).map Int.ofNat, 0 ≤ x ∧ x < to.length := by
  intro x hx
  obtain ⟨j, hj, rfl⟩ := List.mem_map.1 hx
  unfold GG.exitsL at hj
  have := List.mem_range.1 (List.mem_filter.1 hj).1
  exact ⟨Int.natCast_nonneg _, by show (j : Int) < _; omega⟩
theorem exits_len (to : List (List Int)) : ((GG.exitsL to to.length).map Int.ofNat).length ≤ to.length := by
  unfold GG.exitsL
  rw [List.length_map]
  have := List.length_filter_le (GG.exitB to) (List.range to.length)
  simpa using this
theorem nat_back (l : List Nat) : (l.map Int.ofNat).map Int.toNat = l := by
  rw [List.map_map]
  conv => rhs; rw [← List.map_id l]
  exact List.map_congr_left fun x _ => by simp
theorem walk_exits {v : Value} {to : List (List Int)} (u : Value) (W : World) (hr : GG.rightG to = true) (hv : GraphM W.heap.size W v (GG.backG to)) (hu : Row W.heap.size W u ((GG.exitsL to to.length).map Int.ofNat)) :
    Calls Try.prog 53 #[v, u] W fun e W' => WalkP W.heap.size (GG.runG (GG.adjOf (GG.backG to)) (GG.exitsL to to.length)) e W W' := by
  have hl := GG.right_len hr
  have h := walk_any u _ W (GG.right_back hr) hv hu (by have := exits_len to; omega) (by rw [GG.back_len]; exact exits_lt)
  rw [nat_back] at h
  exact h
theorem stuckI_yes {to : List (List Int)} (hr : GG.rightG to = true) : stuckI to = GG.firstN to.length (fun x => !(GG.runG (GG.adjOf (GG.backG to)) (GG.exitsL to to.length)).1 x) := by
  unfold stuckI
  rw [if_pos hr]
  exact GG.firstN_congr fun x hx => by rw [GG.ends_back hr hx]

theorem ledBy_small (to : List (List Int)) (h : to.length ≤ 256) : Small (GG.backG to) := by
  refine ⟨by rw [GG.back_len]; omega, fun row hrow => ?_⟩
  unfold GG.backG at hrow
  obtain ⟨i, _, rfl⟩ := List.mem_map.1 hrow
  have := ledBy_len to i to.length
  omega

set_option maxRecDepth 100000 in
set_option maxHeartbeats 3200000 in
theorem stuck_any {v : Value} {to : List (List Int)} (W : World) (hv : GraphM W.heap.size W v to) (hx : Small to) :
    Calls Try.prog 66 #[v] W fun e W' => e = foundE (stuckI to) ∧ Below W.heap.size W W' := by
  have hx0 := hx.1
  have HV := Lib.hid hv
  have HX := Lib.hid hx
  obtain ⟨va, vc, rfl⟩ := hv.form
  clear hv hx
  cases hr : GG.rightG to
  · have HR := Lib.hid hr
    have HE := Lib.hid (show stuckI to = -1 by unfold stuckI; rw [if_neg (by rw [hr]; simp)])
    clear hr
    go_enter Try.func66, Try.ntmps66
    go_wp2_with (go_at_call 25; refine (rightG_any _ to _ HV.out HX.out).mono ?_; rintro e w' ⟨rfl, hB⟩; have HB := Lib.hid hB; clear hB; rw [HR.out])
    go_ret2
    exact ⟨by rw [HE.out]; exact foundE_none.symm, HB.out⟩
  · have HR := Lib.hid hr
    have hlen := GG.right_len hr
    have HBE := Lib.hid (show backE to = GG.backG to by unfold backE; rw [if_pos hr])
    have HE := Lib.hid (stuckI_yes hr)
    have hz := fun (w : World) => run_zero46 w
    have HWK := Lib.hid (fun v u W1 h1 h2 => walk_exits (v := v) (to := to) u W1 hr h1 h2)
    clear hr
    generalize GG.runG (GG.adjOf (GG.backG to)) (GG.exitsL to to.length) = s at HWK HE
    go_enter Try.func66, Try.ntmps66
    go_wp2_with (first
      | (go_at_call 25; refine (rightG_any _ to _ HV.out HX.out).mono ?_; rintro e w' ⟨rfl, hB⟩; have HB := Lib.hid hB; clear hB; rw [HR.out])
      | (go_at_call 40
         refine (back_any _ (HV.out.on HB.out HB.out.size) HX.out).mono ?_
         rintro e w2 ⟨bv, rfl, hg2, hB2⟩
         rw [HBE.out] at hg2
         have HG2 := Lib.hid hg2
         have HB2 := Lib.hid (bstep HB.out hB2)
         clear hg2 hB2)
      | (go_at_call 71
         refine (exits_any _ (HV.out.on HB2.out HB2.out.size) HX.out hlen.2).mono ?_
         rintro e w3 ⟨xv, rfl, hx3, hB3⟩
         have HX3 := Lib.hid hx3
         have HG3 := Lib.hid (HG2.out.on hB3 hB3.size)
         have HB3 := Lib.hid (bstep HB2.out hB3)
         clear hx3 hB3)
      | (go_at_call 53
         refine (HWK.out _ _ _ HG3.out HX3.out).mono ?_
         rintro e w' ⟨cs, bv, rfl, hn, hc, ho, hs, hB4⟩
         have HCN := Lib.hid hn
         have HCI := Lib.hid hc
         have HB4 := Lib.hid (bstep HB3.out hB4)
         have HONE := Lib.hid (one_of hn hc)
         clear hn hc ho hs hB4)
      | (refine wpList_store_row rfl 53 (.tmp 4) (.tmp 15) rfl _ cs rfl rfl 53 falses (heap_alloc_new _ _) (by rw [HCN.out]; kernel_rfl) (by rw [HCN.out]; simp [falses]) HONE.out ?_
         rw [setRow_new])
      | (refine wpList_load_row rfl 53 (.tmp 4) rfl _ rfl 53 cs (0, 0) _ (heap_alloc_new _ _) Try.underlying53 rfl (by rw [HCN.out]; kernel_rfl) ?_)
      | (go_at_call 54
         refine (least_any cs s.1 to.length _ HCN.out HCI.out hlen.2).mono ?_
         rintro e w5 ⟨rfl, hB5⟩
         have HB5 := Lib.hid (bstep (HB4.out.alloc HB4.out.size _) hB5)
         clear hB5
         unfold foundE))
    go_ret2
    exact ⟨by rw [HE.out]; rfl, HB5.out⟩

/-- does a node end? (the reference) -/
theorem ends_hit {to : List (List Int)} {i k : Nat} (hk : k < to.length) (h1 : GG.reachB to (-1) i k = true) (h2 : GG.exitB to k = true) : GG.endsB to i = true :=
  List.any_eq_true.2 ⟨k, List.mem_range.2 hk, by rw [h1, h2]; rfl⟩
theorem ends_no {to : List (List Int)} {i m : Nat} (hm : to.length ≤ m) (h : ∀ k, k < m → (GG.reachB to (-1) i k && GG.exitB to k) = false) : GG.endsB to i = false := by
  unfold GG.endsB
  rw [List.any_eq_false]
  intro k hk
  rw [h k (by have := List.mem_range.1 hk; omega)]; simp
set_option maxRecDepth 100000 in
set_option maxHeartbeats 1600000 in
theorem ends_any {v : Value} {to : List (List Int)} (i : Nat) (W : World) (hv : GraphM W.heap.size W v to) (hr : GG.rightG to = true) (hi : i < to.length) :
    Calls Try.prog 72 #[v, .int .i64 i] W fun e W' => e = .returned (.bool (GG.endsB to i)) ∧ Below W.heap.size W W' := by
  have hlen := GG.right_len hr
  have HV := Lib.hid hv
  have HR := Lib.hid hr
  obtain ⟨va, vo, vc, rfl⟩ := hv.addr (by omega)
  clear hv hr
  go_enter Try.func72, Try.ntmps72
  go_wp2_with (go_at_call 48
               refine (without_any i (-1) _ HV.out HR.out hi (by omega)).mono ?_
               rintro e w1 ⟨bv, rfl, hb, hB⟩
               have HBR := Lib.hid hb
               have HB := Lib.hid hB
               clear hb hB
               obtain ⟨ba, bc, hbf⟩ := HBR.out.form
               rw [flagsL_len] at hbf
               subst hbf)
  go_loop [6] (fun k => ∃ q : Nat, q ≤ to.length ∧ k = .int .i64 (q : Int) ∧ RowKit.Hid (∀ k, k < q → (GG.reachB to (-1) i k && GG.exitB to k) = false)) (fun k => to.length - (intOf k).toNat)
  case atStart => exact ⟨0, Nat.zero_le _, rfl, Lib.hid (fun j hj => absurd hj (Nat.not_lt_zero _))⟩
  case round =>
    obtain ⟨q, hq, rfl, HN⟩ := hrel
    by_cases hqt : q < to.length
    · obtain ⟨bb, bo, rfl, hcb⟩ := HBR.out.cellAt (show q < (flagsL to.length (GG.reachB to (-1) i)).length by rw [flagsL_len]; exact hqt)
      rw [flagsL_at hqt, Option.getD_some] at hcb
      have i1 : (0 : Int) ≤ q ∧ (q : Int) < to.length := by omega
      cases hb : GG.reachB to (-1) i q
      · rw [hb] at hcb
        have HS := Lib.hid (show ∀ k, k < q + 1 → (GG.reachB to (-1) i k && GG.exitB to k) = false from fun k hk => (Nat.lt_succ_iff_lt_or_eq.1 hk).elim (HN.out k) (fun e => by rw [e, hb]; rfl))
        clear hb
        go_wp2_with fail
        go_round
        case rel => exact ⟨q + 1, by omega, by go_num, HS⟩
        case measure => simp [intOf]; omega
      · rw [hb] at hcb
        obtain ⟨ra, rac, hx1, hrx⟩ := (HV.out.below HB.out).at hqt
        have b1 : (to[q]?.getD []).length ≤ 17592186044416 := by have := GG.row_len (GG.right_at HR.out hqt); omega
        cases hx : GG.exitB to q
        · have HS := Lib.hid (show ∀ k, k < q + 1 → (GG.reachB to (-1) i k && GG.exitB to k) = false from fun k hk => (Nat.lt_succ_iff_lt_or_eq.1 hk).elim (HN.out k) (fun e => by rw [e, hx]; simp))
          have hne : ((((to[q]?.getD []).length : Nat) : Int) == 0) = false := by
            rw [beq_eq_false_iff_ne]
            intro e
            unfold GG.exitB at hx
            rw [List.isEmpty_eq_false_iff] at hx
            exact hx (List.length_eq_zero_iff.1 (by omega))
          generalize to[q]?.getD [] = r at hx1 b1 hne
          clear hrx hb hx
          go_wp2_with fail
          go_round
          case rel => exact ⟨q + 1, by omega, by go_num, HS⟩
          case measure => simp [intOf]; omega
        · have HS := Lib.hid (ends_hit hqt hb hx)
          have hne : ((((to[q]?.getD []).length : Nat) : Int) == 0) = true := by
            rw [beq_iff_eq]
            unfold GG.exitB at hx
            rw [List.isEmpty_iff] at hx
            rw [hx]; rfl
          generalize to[q]?.getD [] = r at hx1 b1 hne
          clear hrx hb hx
          go_wp2_with fail
          go_ret
          exact ⟨ret_bool HS.out.symm, HB.out⟩
    · have HS := Lib.hid (ends_no (m := q) (by omega) HN.out)
      go_wp2_with fail
      go_ret
      exact ⟨ret_bool HS.out.symm, HB.out⟩

set_option maxRecDepth 100000 in
set_option maxHeartbeats 1600000 in
theorem rlost_any {v : Value} {to : List (List Int)} (W : World) (hv : GraphM W.heap.size W v to) (hr : GG.rightG to = true) :
    Calls Try.prog 47 #[v] W fun e W' => e = .returned (.int .i64 (lostI to)) ∧ Below W.heap.size W W' := by
  have hlen := GG.right_len hr
  have HV := Lib.hid hv
  have HR := Lib.hid hr
  have HE := Lib.hid (show lostI to = GG.firstN to.length (fun x => !GG.reachB to (-1) 0 x) by unfold lostI; rw [if_pos hr])
  obtain ⟨va, vo, vc, rfl⟩ := hv.addr (by omega)
  clear hv hr
  go_enter Try.func47, Try.ntmps47
  go_wp2_with (go_at_call 48
               refine (without_any 0 (-1) _ HV.out HR.out (by omega) (by omega)).mono ?_
               rintro e w1 ⟨bv, rfl, hb, hB⟩
               have HBR := Lib.hid hb
               have HB := Lib.hid hB
               clear hb hB
               obtain ⟨ba, bc, hbf⟩ := HBR.out.form
               rw [flagsL_len] at hbf
               subst hbf)
  go_loop [4] (fun k => ∃ q : Nat, q ≤ to.length ∧ k = .int .i64 (q : Int) ∧ RowKit.Hid (∀ k, k < q → (fun x => !GG.reachB to (-1) 0 x) k = false)) (fun k => to.length - (intOf k).toNat)
  case atStart => exact ⟨0, Nat.zero_le _, rfl, Lib.hid (fun j hj => absurd hj (Nat.not_lt_zero _))⟩
  case round =>
    obtain ⟨q, hq, rfl, HN⟩ := hrel
    by_cases hqt : q < to.length
    · obtain ⟨bb, bo, rfl, hcb⟩ := HBR.out.cellAt (show q < (flagsL to.length (GG.reachB to (-1) 0)).length by rw [flagsL_len]; exact hqt)
      rw [flagsL_at hqt, Option.getD_some] at hcb
      have i1 : (0 : Int) ≤ q ∧ (q : Int) < to.length := by omega
      cases hb : GG.reachB to (-1) 0 q
      · rw [hb] at hcb
        have HS := Lib.hid (HE.out.trans (GG.firstN_hit (p := fun x => !GG.reachB to (-1) 0 x) hqt (by show (!GG.reachB to (-1) 0 q) = true; rw [hb]; rfl) HN.out))
        clear hb
        go_wp2_with fail
        go_ret
        exact ⟨ret_int HS.out.symm, HB.out⟩
      · rw [hb] at hcb
        have HS := Lib.hid (show ∀ k, k < q + 1 → (fun x => !GG.reachB to (-1) 0 x) k = false from fun k hk => (Nat.lt_succ_iff_lt_or_eq.1 hk).elim (HN.out k) (fun e => by rw [e]; show (!GG.reachB to (-1) 0 q) = false; rw [hb]; rfl))
        clear hb
        go_wp2_with fail
        go_round
        case rel => exact ⟨q + 1, by omega, by go_num, HS⟩
        case measure => simp [intOf]; omega
    · have HS := Lib.hid (HE.out.trans (GG.firstN_none (n := to.length) (p := fun x => !GG.reachB to (-1) 0 x) (fun j hj => HN.out j (by omega))))
      go_wp2_with fail
      go_ret
      exact ⟨ret_int HS.out.symm, HB.out⟩

set_option maxRecDepth 100000 in
set_option maxHeartbeats 1600000 in
theorem rstuck_any {v : Value} {to : List (List Int)} (W : World) (hv : GraphM W.heap.size W v to) (hr : GG.rightG to = true) :
    Calls Try.prog 67 #[v] W fun e W' => e = .returned (.int .i64 (stuckI to)) ∧ Below W.heap.size W W' := by
  have hlen := GG.right_len hr
  have HV := Lib.hid hv
  have HR := Lib.hid hr
  have HE := Lib.hid (show stuckI to = GG.firstN to.length (fun x => !GG.endsB to x) by unfold stuckI; rw [if_pos hr])
  obtain ⟨va, vo, vc, rfl⟩ := hv.addr (by omega)
  clear hv hr
  go_enter Try.func67, Try.ntmps67
  go_wp2_with fail
  go_loopw [3] (fun k wr => ∃ q : Nat, q ≤ to.length ∧ k = .int .i64 (q : Int) ∧ Below W.heap.size W wr ∧ RowKit.Hid (∀ k, k < q → (fun x => !GG.endsB to x) k = false)) (fun k _ => to.length - (intOf k).toNat)
  case atStart => exact ⟨0, Nat.zero_le _, rfl, Below.refl _ _, Lib.hid (fun j hj => absurd hj (Nat.not_lt_zero _))⟩
  case round =>
    obtain ⟨q, hq, rfl, hB, HN⟩ := hrel
    have HB := Lib.hid hB
    clear hB
    by_cases hqt : q < to.length
    · cases hb : GG.endsB to q
      · have HBL := Lib.hid hb
        have HS := Lib.hid (HE.out.trans (GG.firstN_hit (p := fun x => !GG.endsB to x) hqt (by show (!GG.endsB to q) = true; rw [hb]; rfl) HN.out))
        clear hb
        go_wp2_with (go_at_call 72; refine (ends_any q _ (HV.out.on HB.out HB.out.size) HR.out hqt).mono ?_; rintro e w2 ⟨rfl, hB2⟩; have HB2 := Lib.hid (bstep HB.out hB2); clear hB2; rw [HBL.out])
        go_ret
        exact ⟨ret_int HS.out.symm, HB2.out⟩
      · have HBL := Lib.hid hb
        have HS := Lib.hid (show ∀ k, k < q + 1 → (fun x => !GG.endsB to x) k = false from fun k hk => (Nat.lt_succ_iff_lt_or_eq.1 hk).elim (HN.out k) (fun e => by rw [e]; show (!GG.endsB to q) = false; rw [hb]; rfl))
        clear hb
        go_wp2_with (go_at_call 72; refine (ends_any q _ (HV.out.on HB.out HB.out.size) HR.out hqt).mono ?_; rintro e w2 ⟨rfl, hB2⟩; have HB2 := Lib.hid (bstep HB.out hB2); clear hB2; rw [HBL.out])
        go_roundw
        case rel => exact ⟨q + 1, by omega, by go_num, HB2.out, HS⟩
        case measure => simp [intOf]; omega
    · have HS := Lib.hid (HE.out.trans (GG.firstN_none (n := to.length) (p := fun x => !GG.endsB to x) (fun j hj => HN.out j (by omega))))
      go_wp2_with fail
      go_ret
      exact ⟨ret_int HS.out.symm, HB.out⟩
end Go.Proofs.Ytbdmpilaeoclgaa
