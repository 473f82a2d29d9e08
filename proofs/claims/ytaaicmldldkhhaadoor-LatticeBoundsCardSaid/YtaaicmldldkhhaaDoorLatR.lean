import Derived.Test.YtaaicmldldkhhaaDoorLatJ
import Derived.Deep.QuietTactic
import Derived.BigQuiet
/-! the walks of layer 5's reference: End, Far, Order, Right -/
namespace Go.Proofs.YtaaicmldldkhhaaDoor
set_option linter.unusedVariables false
open Go.RowKit
set_option maxRecDepth 100000 in
set_option maxHeartbeats 1600000 in
theorem rend_any (v : Value) (xs : List Int) (n₀ : Nat) (w : World) (hv : Nums .u64 n₀ w v xs) (hx : Wide xs) (hl : xs.length ≤ 9223372036854775807) :
    Calls Tryd.prog 27 #[v] w fun e w' => e = .returned (.int .i64 (LL.endI xs)) ∧ w = w' := by
  have HV := Lib.hid hv
  have HX := Lib.hid hx
  obtain ⟨_, cap, rfl⟩ := hv.form
  clear hv hx
  go_enter Tryd.func27, Tryd.ntmps27
  go_wp2_with fail
  go_loop [3] (fun k => ∃ j : Nat, j ≤ xs.length ∧ k = .int .i64 (j : Int) ∧ RowKit.Hid (∀ i, i < j → LL.isEnd xs i = false)) (fun k => xs.length - (intOf k).toNat)
  case atStart => exact ⟨0, Nat.zero_le _, rfl, Lib.hid (fun i hi => absurd hi (Nat.not_lt_zero _))⟩
  case round =>
    obtain ⟨j, hj, rfl, HN⟩ := hrel
    by_cases hlt : j < xs.length
    · go_wp2_with fail
      go_loop [4, 5] (fun s m => ∃ (q : Nat) (t : Bool), q ≤ xs.length ∧ m = .int .i64 (q : Int) ∧ s = .bool t ∧ RowKit.Hid ((t = true ∧ ∀ i, i < q → LL.ab xs j i = true) ∨ (t = false ∧ ∃ i, i < xs.length ∧ LL.ab xs j i = false))) (fun _ m => xs.length - (intOf m).toNat)
      case atStart => exact ⟨0, true, Nat.zero_le _, rfl, rfl, Lib.hid (.inl ⟨rfl, fun i hi => absurd hi (Nat.not_lt_zero _)⟩)⟩
      case round =>
        obtain ⟨q, t, hq, rfl, rfl, HT⟩ := hrel
        cases t
        · have HS := Lib.hid (LL.none_step HN.out (show LL.isEnd xs j = false by
            rcases HT.out with ⟨h, _⟩ | ⟨_, i, hi, hf⟩
            · cases h
            · unfold LL.isEnd; exact LL.all_no hi hf))
          by_cases hq1 : q < xs.length
          · go_wp2_with fail
            go_round
            case rel => exact ⟨j + 1, by omega, by go_num, HS⟩
            case measure => simp [intOf]; omega
          · go_wp2_with fail
            go_round
            case rel => exact ⟨j + 1, by omega, by go_num, HS⟩
            case measure => simp [intOf]; omega
        · have HA := Lib.hid (show ∀ i, i < q → LL.ab xs j i = true by
            rcases HT.out with ⟨_, h⟩ | ⟨h, _⟩
            · exact h
            · cases h)
          by_cases hq1 : q < xs.length
          · cases h3 : LL.ab xs j q
            · have H3 := Lib.hid h3
              go_wp2_with (go_at_call 23; refine (abv_any HV HX _ _ (by omega)).mono ?_; rintro e w' ⟨rfl, rfl⟩; first | rw [H3.out])
              go_round
              case rel => exact ⟨q + 1, false, by omega, by go_num, rfl, Lib.hid (.inr ⟨rfl, q, hq1, H3.out⟩)⟩
              case measure => simp [intOf]; omega
            · have H3 := Lib.hid h3
              have HW := Lib.hid (LL.all_step HA.out h3)
              go_wp2_with (go_at_call 23; refine (abv_any HV HX _ _ (by omega)).mono ?_; rintro e w' ⟨rfl, rfl⟩; first | rw [H3.out])
              go_round
              case rel => exact ⟨q + 1, true, by omega, by go_num, rfl, Lib.hid (.inl ⟨rfl, HW.out⟩)⟩
              case measure => simp [intOf]; omega
          · have HR := Lib.hid (LL.firstI_hit hlt (show LL.isEnd xs j = true by
              unfold LL.isEnd; exact LL.all_yes (fun i hi => HA.out i (by omega))) HN.out)
            go_wp2_with fail
            go_ret
            exact ⟨ret_int HR.out.symm, rfl⟩
    · have HR := Lib.hid (show LL.endI xs = -1 from LL.firstI_none (fun i hi => HN.out i (by omega)))
      go_wp2_with fail
      go_ret
      exact ⟨ret_int HR.out.symm, rfl⟩
set_option maxRecDepth 100000 in
set_option maxHeartbeats 1600000 in
theorem rfar_any (v : Value) (xs : List Int) (n₀ : Nat) (w : World) (hv : Nums .u64 n₀ w v xs) (hx : Wide xs) (hl : xs.length ≤ 9223372036854775807) :
    Calls Tryd.prog 28 #[v] w fun e w' => e = .returned (.int .i64 (LL.farI xs)) ∧ w = w' := by
  have HV := Lib.hid hv
  have HX := Lib.hid hx
  obtain ⟨_, cap, rfl⟩ := hv.form
  clear hv hx
  go_enter Tryd.func28, Tryd.ntmps28
  go_wp2_with fail
  go_loop [3] (fun k => ∃ j : Nat, j ≤ xs.length ∧ k = .int .i64 (j : Int) ∧ RowKit.Hid (∀ i, i < j → LL.isFar xs i = false)) (fun k => xs.length - (intOf k).toNat)
  case atStart => exact ⟨0, Nat.zero_le _, rfl, Lib.hid (fun i hi => absurd hi (Nat.not_lt_zero _))⟩
  case round =>
    obtain ⟨j, hj, rfl, HN⟩ := hrel
    by_cases hlt : j < xs.length
    · go_wp2_with fail
      go_loop [4, 5] (fun s m => ∃ (q : Nat) (t : Bool), q ≤ xs.length ∧ m = .int .i64 (q : Int) ∧ s = .bool t ∧ RowKit.Hid ((t = true ∧ ∀ i, i < q → LL.ab xs i j = true) ∨ (t = false ∧ ∃ i, i < xs.length ∧ LL.ab xs i j = false))) (fun _ m => xs.length - (intOf m).toNat)
      case atStart => exact ⟨0, true, Nat.zero_le _, rfl, rfl, Lib.hid (.inl ⟨rfl, fun i hi => absurd hi (Nat.not_lt_zero _)⟩)⟩
      case round =>
        obtain ⟨q, t, hq, rfl, rfl, HT⟩ := hrel
        cases t
        · have HS := Lib.hid (LL.none_step HN.out (show LL.isFar xs j = false by
            rcases HT.out with ⟨h, _⟩ | ⟨_, i, hi, hf⟩
            · cases h
            · unfold LL.isFar; exact LL.all_no hi hf))
          by_cases hq1 : q < xs.length
          · go_wp2_with fail
            go_round
            case rel => exact ⟨j + 1, by omega, by go_num, HS⟩
            case measure => simp [intOf]; omega
          · go_wp2_with fail
            go_round
            case rel => exact ⟨j + 1, by omega, by go_num, HS⟩
            case measure => simp [intOf]; omega
        · have HA := Lib.hid (show ∀ i, i < q → LL.ab xs i j = true by
            rcases HT.out with ⟨_, h⟩ | ⟨h, _⟩
            · exact h
            · cases h)
          by_cases hq1 : q < xs.length
          · cases h3 : LL.ab xs q j
            · have H3 := Lib.hid h3
              go_wp2_with (go_at_call 23; refine (abv_any HV HX _ _ (by omega)).mono ?_; rintro e w' ⟨rfl, rfl⟩; first | rw [H3.out])
              go_round
              case rel => exact ⟨q + 1, false, by omega, by go_num, rfl, Lib.hid (.inr ⟨rfl, q, hq1, H3.out⟩)⟩
              case measure => simp [intOf]; omega
            · have H3 := Lib.hid h3
              have HW := Lib.hid (LL.all_step HA.out h3)
              go_wp2_with (go_at_call 23; refine (abv_any HV HX _ _ (by omega)).mono ?_; rintro e w' ⟨rfl, rfl⟩; first | rw [H3.out])
              go_round
              case rel => exact ⟨q + 1, true, by omega, by go_num, rfl, Lib.hid (.inl ⟨rfl, HW.out⟩)⟩
              case measure => simp [intOf]; omega
          · have HR := Lib.hid (LL.firstI_hit hlt (show LL.isFar xs j = true by
              unfold LL.isFar; exact LL.all_yes (fun i hi => HA.out i (by omega))) HN.out)
            go_wp2_with fail
            go_ret
            exact ⟨ret_int HR.out.symm, rfl⟩
    · have HR := Lib.hid (show LL.farI xs = -1 from LL.firstI_none (fun i hi => HN.out i (by omega)))
      go_wp2_with fail
      go_ret
      exact ⟨ret_int HR.out.symm, rfl⟩
set_option maxRecDepth 100000 in
set_option maxHeartbeats 1600000 in
theorem rorder_any (v : Value) (xs : List Int) (n₀ : Nat) (w : World) (hv : Nums .u64 n₀ w v xs) (hx : Wide xs) (hl : xs.length ≤ 9223372036854775807) :
    Calls Tryd.prog 41 #[v] w fun e w' => e = .returned (.bool (LL.ordB xs)) ∧ ∃ d, w' = w.drewN d := by
  by_cases h0 : 1 ≤ xs.length ∧ xs.length ≤ 64
  · have HV := Lib.hid hv
    have HX := Lib.hid hx
    obtain ⟨bk, off, cap, rfl, hbk, hc⟩ := hv.at (by omega)
    have HC := Lib.hid hc
    have l1 : 1 ≤ (xs.length : Int) := by omega
    have l2 : (xs.length : Int) ≤ 64 := by omega
    have HB := Lib.hid h0
    clear hv hx hc hbk
    go_enter Tryd.func41, Tryd.ntmps41
    go_wp2_with fail
    go_loopw [3] (fun k wr => ∃ i m : Nat, i ≤ xs.length ∧ k = .int .i64 (i : Int) ∧ wr = w.drewN m ∧ RowKit.Hid (∀ j, j < i → LL.ordRow xs j = true)) (fun k _ => xs.length - (intOf k).toNat)
    case atStart => exact ⟨0, 0, Nat.zero_le _, rfl, rfl, Lib.hid (fun i hi => absurd hi (Nat.not_lt_zero _))⟩
    case round =>
      obtain ⟨i, m, hi, rfl, rfl, HN⟩ := hrel
      have HV1 := Lib.hid (HV.out.drewN m)
      by_cases hlt : i < xs.length
      · have HNO := Lib.hid (show LL.ordRow xs i = false → LL.ordB xs = false from fun h => by unfold LL.ordB; rw [LL.all_no hlt h, Bool.and_false])
        cases h1 : LL.ab xs i i
        · have H1 := Lib.hid h1
          have HR := Lib.hid (HNO.out (by unfold LL.ordRow; rw [h1]; rfl))
          go_wp2_with (go_at_call 23; refine (abv_any HV1 HX _ _ (by omega)).mono ?_; rintro e w' ⟨rfl, rfl⟩; first | rw [H1.out])
          go_ret
          exact ⟨ret_bool HR.out.symm, _, rfl⟩
        · have H1 := Lib.hid h1
          clear h1
          go_wp2_with (go_at_call 23; refine (abv_any HV1 HX _ _ (by omega)).mono ?_; rintro e w' ⟨rfl, rfl⟩; first | rw [H1.out])
          go_loopw [4] (fun k wr => ∃ q m : Nat, q ≤ 64 ∧ k = .int .i64 (q : Int) ∧ wr = w.drewN m ∧ RowKit.Hid (∀ j, j < q → LL.ordAt xs i j = true)) (fun k _ => 64 - (intOf k).toNat)
          case atStart => exact ⟨0, _, Nat.zero_le _, rfl, rfl, Lib.hid (fun i hi => absurd hi (Nat.not_lt_zero _))⟩
          case round =>
            obtain ⟨q, m2, hq, rfl, rfl, HQ⟩ := hrel
            have HV2 := Lib.hid (HV.out.drewN m2)
            by_cases hq1 : q < 64
            · have HNQ := Lib.hid (show LL.ordAt xs i q = false → LL.ordB xs = false from fun h => HNO.out (by unfold LL.ordRow; rw [LL.all_no hq1 h, Bool.and_false]))
              cases h2 : LL.ab xs i q
              · have H2 := Lib.hid h2
                have HW := Lib.hid (LL.all_step HQ.out (show LL.ordAt xs i q = true by unfold LL.ordAt; rw [h2]; rfl))
                go_wp2_with (go_at_call 23; refine (abv_any HV2 HX _ _ (by omega)).mono ?_; rintro e w' ⟨rfl, rfl⟩; first | rw [H2.out])
                go_roundw
                case rel => exact ⟨q + 1, _, by omega, by go_num, rfl, HW⟩
                case measure => simp [intOf]; omega
              · have H2 := Lib.hid h2
                clear h2
                by_cases hqn : q < xs.length
                · have hcq := HC.out q hqn
                  have hci := HC.out i hlt
                  obtain ⟨t5, h5⟩ : ∃ t : Bool, (bits .or .u64 (xs[q]?.getD 0) (xs[i]?.getD 0) == xs[i]?.getD 0) = t := ⟨_, rfl⟩
                  have H5 := Lib.hid h5
                  have HD := Lib.hid (show decide (q < xs.length) = true from decide_eq_true hqn)
                  generalize hmq : xs[q]?.getD 0 = mq at hcq h5
                  generalize hmi : xs[i]?.getD 0 = mi at hci h5
                  clear hmq hmi
                  have i1 : (0 : Int) ≤ q ∧ (q : Int) < xs.length := by omega
                  have hg1 : decide ((xs.length : Int) ≤ (q : Int)) = false := decide_eq_false (by omega)
                  have hg2 : decide (xs.length ≤ q) = false := decide_eq_false (by omega)
                  have i2 : (0 : Int) ≤ i ∧ (i : Int) < xs.length := by omega
                  by_cases hqi : q = i
                  · have hne : ((q : Int) != (i : Int)) = false := by rw [hqi]; simp
                    have HK := Lib.hid (show (q == i) = true by rw [beq_iff_eq]; exact hqi)
                    clear hqi
                    cases t5
                    · have HR := Lib.hid (HNQ.out (show LL.ordAt xs i q = false by unfold LL.ordAt; rw [H2.out, HD.out, HK.out, H5.out]; rfl))
                      have h5' : (bits .or .u64 mq mi != mi) = true := by rw [bne, h5]; rfl
                      go_wp2_with (go_at_call 23; refine (abv_any HV2 HX _ _ (by omega)).mono ?_; rintro e w' ⟨rfl, rfl⟩; first | rw [H2.out])
                      go_quiet (fail)
                      go_wp2_with fail
                      go_ret
                      exact ⟨ret_bool HR.out.symm, m2 + nq, World.drewN_drewN _ _ _⟩
                    · have HW := Lib.hid (LL.all_step HQ.out (show LL.ordAt xs i q = true by unfold LL.ordAt; rw [H2.out, HD.out, HK.out, H5.out]; rfl))
                      have h5' : (bits .or .u64 mq mi != mi) = false := by rw [bne, h5]; rfl
                      go_wp2_with (go_at_call 23; refine (abv_any HV2 HX _ _ (by omega)).mono ?_; rintro e w' ⟨rfl, rfl⟩; first | rw [H2.out])
                      go_quiet (fail)
                      go_wp2_with fail
                      go_roundw
                      case rel => exact ⟨q + 1, m2 + nq, by omega, by go_num, rfl, HW⟩
                      case measure => simp [intOf]; omega
                  · have hne : ((q : Int) != (i : Int)) = true := by rw [bne_iff_ne]; omega
                    have HK := Lib.hid (show (q == i) = false by rw [beq_eq_false_iff_ne]; exact hqi)
                    clear hqi
                    cases h3 : LL.ab xs q i
                    · have H3 := Lib.hid h3
                      cases t5
                      · have HR := Lib.hid (HNQ.out (show LL.ordAt xs i q = false by unfold LL.ordAt; rw [H2.out, HD.out, HK.out, H3.out, H5.out]; rfl))
                        have h5' : (bits .or .u64 mq mi != mi) = true := by rw [bne, h5]; rfl
                        clear h3
                        go_wp2_with (go_at_call 23; refine (abv_any HV2 HX _ _ (by omega)).mono ?_; rintro e w' ⟨rfl, rfl⟩; rw [H2.out])
                        go_quiet ((go_at_call 23; exact abv_q HV HX H3 (by omega) _ _))
                        go_wp2_with fail
                        go_ret
                        exact ⟨ret_bool HR.out.symm, m2 + nq, World.drewN_drewN _ _ _⟩
                      · have HW := Lib.hid (LL.all_step HQ.out (show LL.ordAt xs i q = true by unfold LL.ordAt; rw [H2.out, HD.out, HK.out, H3.out, H5.out]; rfl))
                        have h5' : (bits .or .u64 mq mi != mi) = false := by rw [bne, h5]; rfl
                        clear h3
                        go_wp2_with (go_at_call 23; refine (abv_any HV2 HX _ _ (by omega)).mono ?_; rintro e w' ⟨rfl, rfl⟩; rw [H2.out])
                        go_quiet ((go_at_call 23; exact abv_q HV HX H3 (by omega) _ _))
                        go_wp2_with fail
                        go_roundw
                        case rel => exact ⟨q + 1, m2 + nq, by omega, by go_num, rfl, HW⟩
                        case measure => simp [intOf]; omega
                    · have H3 := Lib.hid h3
                      clear hcq hci h5 i1 i2
                      have HR := Lib.hid (HNQ.out (show LL.ordAt xs i q = false by unfold LL.ordAt; rw [H2.out, HD.out, HK.out, H3.out]; rfl))
                      clear h3
                      go_wp2_with (go_at_call 23; refine (abv_any HV2 HX _ _ (by omega)).mono ?_; rintro e w' ⟨rfl, rfl⟩; rw [H2.out])
                      go_quiet ((go_at_call 23; exact abv_q HV HX H3 (by omega) _ _))
                      go_wp2_with fail
                      go_ret
                      exact ⟨ret_bool HR.out.symm, m2 + nq, World.drewN_drewN _ _ _⟩
                · have HR := Lib.hid (HNQ.out (show LL.ordAt xs i q = false by unfold LL.ordAt; rw [H2.out, decide_eq_false hqn]; rfl))
                  have hqn' : (xs.length : Int) ≤ q := by omega
                  go_wp2_with (go_at_call 23; refine (abv_any HV2 HX _ _ (by omega)).mono ?_; rintro e w' ⟨rfl, rfl⟩; first | rw [H2.out])
                  go_quiet (fail)
                  go_wp2_with fail
                  go_ret
                  exact ⟨ret_bool HR.out.symm, m2 + nq, World.drewN_drewN _ _ _⟩
            · have HW := Lib.hid (LL.all_step HN.out (show LL.ordRow xs i = true by unfold LL.ordRow; rw [H1.out, LL.all_yes (fun j hj => HQ.out j (by omega))]; rfl))
              go_wp2_with fail
              go_roundw
              case rel => exact ⟨i + 1, _, by omega, by go_num, rfl, HW⟩
              case measure => simp [intOf]; omega
      · have HR := Lib.hid (show LL.ordB xs = true by unfold LL.ordB; rw [decide_eq_true HB.out, LL.all_yes (fun j hj => HN.out j (by omega))]; rfl)
        go_wp2_with fail
        go_ret
        exact ⟨ret_bool HR.out.symm, _, rfl⟩
  · have HR := Lib.hid (show LL.ordB xs = false by unfold LL.ordB; rw [decide_eq_false h0]; rfl)
    obtain ⟨_, cap, rfl⟩ := hv.form
    clear hv hx
    by_cases h1 : (xs.length : Int) < 1
    · clear h0
      go_enter Tryd.func41, Tryd.ntmps41
      go_wp2_with fail
      go_ret
      exact ⟨ret_bool HR.out.symm, 0, rfl⟩
    · have h2 : (64 : Int) < xs.length := by omega
      clear h0
      go_enter Tryd.func41, Tryd.ntmps41
      go_wp2_with fail
      go_ret
      exact ⟨ret_bool HR.out.symm, 0, rfl⟩
end Go.Proofs.YtaaicmldldkhhaaDoor
