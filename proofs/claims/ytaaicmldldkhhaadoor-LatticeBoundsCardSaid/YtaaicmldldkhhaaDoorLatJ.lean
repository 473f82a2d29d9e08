import Derived.Test.YtaaicmldldkhhaaDoorLatA
/-! the walks of layer 5's reference: Join, Meet -/
namespace Go.Proofs.YtaaicmldldkhhaaDoor
set_option linter.unusedVariables false
open Go.RowKit

set_option maxRecDepth 100000 in
set_option maxHeartbeats 1600000 in
theorem rjoin_any (v : Value) (xs : List Int) (n₀ : Nat) (w : World) (hv : Nums .u64 n₀ w v xs) (hx : Wide xs) (hl : xs.length ≤ 9223372036854775807) (a b : Nat) (ha : a < xs.length) (hb : b < xs.length) :
    Calls Tryd.prog 21 #[v, .int .i64 a, .int .i64 b] w fun e w' => e = .returned (.int .i64 (LL.joinI xs a b)) ∧ w = w' := by
  have HV := Lib.hid hv
  have HX := Lib.hid hx
  obtain ⟨_, cap, rfl⟩ := hv.form
  clear hv hx
  go_enter Tryd.func21, Tryd.ntmps21
  go_wp2_with fail
  go_loop [7] (fun k => ∃ j : Nat, j ≤ xs.length ∧ k = .int .i64 (j : Int) ∧ RowKit.Hid (∀ i, i < j → LL.isJoin xs a b i = false)) (fun k => xs.length - (intOf k).toNat)
  case atStart => exact ⟨0, Nat.zero_le _, rfl, Lib.hid (fun i hi => absurd hi (Nat.not_lt_zero _))⟩
  case round =>
    obtain ⟨j, hj, rfl, HN⟩ := hrel
    by_cases hlt : j < xs.length
    · cases h1 : LL.ab xs a j
      · have H1 := Lib.hid h1
        have HS := Lib.hid (LL.none_step HN.out (show LL.isJoin xs a b j = false by unfold LL.isJoin; rw [h1]; rfl))
        go_wp2_with (go_at_call 23; refine (abv_any HV HX _ _ (by omega)).mono ?_; rintro e w' ⟨rfl, rfl⟩; first | rw [H1.out])
        go_loop [8, 9] (fun s m => s = .bool false ∧ m = .int .i64 0) (fun _ _ => 0)
        case atStart => exact ⟨rfl, rfl⟩
        case round =>
          obtain ⟨rfl, rfl⟩ := hrel
          have hn0 : (0 : Int) < xs.length := by omega
          go_wp2_with fail
          go_round
          case rel => exact ⟨j + 1, by omega, by go_num, HS⟩
          case measure => simp [intOf]; omega
      · cases h2 : LL.ab xs b j
        · have H1 := Lib.hid h1
          have H2 := Lib.hid h2
          have HS := Lib.hid (LL.none_step HN.out (show LL.isJoin xs a b j = false by unfold LL.isJoin; rw [h1, h2]; rfl))
          go_wp2_with (go_at_call 23; refine (abv_any HV HX _ _ (by omega)).mono ?_; rintro e w' ⟨rfl, rfl⟩; first | rw [H1.out] | rw [H2.out])
          go_loop [8, 9] (fun s m => s = .bool false ∧ m = .int .i64 0) (fun _ _ => 0)
          case atStart => exact ⟨rfl, rfl⟩
          case round =>
            obtain ⟨rfl, rfl⟩ := hrel
            have hn0 : (0 : Int) < xs.length := by omega
            go_wp2_with fail
            go_round
            case rel => exact ⟨j + 1, by omega, by go_num, HS⟩
            case measure => simp [intOf]; omega
        · have H1 := Lib.hid h1
          have H2 := Lib.hid h2
          clear h1 h2
          go_wp2_with (go_at_call 23; refine (abv_any HV HX _ _ (by omega)).mono ?_; rintro e w' ⟨rfl, rfl⟩; first | rw [H1.out] | rw [H2.out])
          go_loop [8, 9] (fun s m => ∃ (q : Nat) (t : Bool), q ≤ xs.length ∧ m = .int .i64 (q : Int) ∧ s = .bool t ∧ RowKit.Hid ((t = true ∧ ∀ i, i < q → LL.joinAt xs a b j i = true) ∨ (t = false ∧ ∃ i, i < xs.length ∧ LL.joinAt xs a b j i = false))) (fun _ m => xs.length - (intOf m).toNat)
          case atStart => exact ⟨0, true, Nat.zero_le _, rfl, rfl, Lib.hid (.inl ⟨rfl, fun i hi => absurd hi (Nat.not_lt_zero _)⟩)⟩
          case round =>
            obtain ⟨q, t, hq, rfl, rfl, HT⟩ := hrel
            cases t
            · have HS := Lib.hid (LL.none_step HN.out (show LL.isJoin xs a b j = false by
                rcases HT.out with ⟨h, _⟩ | ⟨_, i, hi, hf⟩
                · cases h
                · unfold LL.isJoin; rw [H1.out, H2.out, LL.all_no hi hf]; rfl))
              by_cases hq1 : q < xs.length
              · go_wp2_with fail
                go_round
                case rel => exact ⟨j + 1, by omega, by go_num, HS⟩
                case measure => simp [intOf]; omega
              · go_wp2_with fail
                go_round
                case rel => exact ⟨j + 1, by omega, by go_num, HS⟩
                case measure => simp [intOf]; omega
            · have HA := Lib.hid (show ∀ i, i < q → LL.joinAt xs a b j i = true by
                rcases HT.out with ⟨_, h⟩ | ⟨h, _⟩
                · exact h
                · cases h)
              by_cases hq1 : q < xs.length
              · cases h3 : LL.ab xs a q
                · have H3 := Lib.hid h3
                  have HW := Lib.hid (LL.all_step HA.out (show LL.joinAt xs a b j q = true by unfold LL.joinAt; rw [h3]; rfl))
                  go_wp2_with (go_at_call 23; refine (abv_any HV HX _ _ (by omega)).mono ?_; rintro e w' ⟨rfl, rfl⟩; first | rw [H3.out])
                  go_round
                  case rel => exact ⟨q + 1, true, by omega, by go_num, rfl, Lib.hid (.inl ⟨rfl, HW.out⟩)⟩
                  case measure => simp [intOf]; omega
                · cases h4 : LL.ab xs b q
                  · have H3 := Lib.hid h3
                    have H4 := Lib.hid h4
                    have HW := Lib.hid (LL.all_step HA.out (show LL.joinAt xs a b j q = true by unfold LL.joinAt; rw [h3, h4]; rfl))
                    go_wp2_with (go_at_call 23; refine (abv_any HV HX _ _ (by omega)).mono ?_; rintro e w' ⟨rfl, rfl⟩; first | rw [H3.out] | rw [H4.out])
                    go_round
                    case rel => exact ⟨q + 1, true, by omega, by go_num, rfl, Lib.hid (.inl ⟨rfl, HW.out⟩)⟩
                    case measure => simp [intOf]; omega
                  · cases h5 : LL.ab xs j q
                    · have H3 := Lib.hid h3
                      have H4 := Lib.hid h4
                      have H5 := Lib.hid h5
                      have HW := Lib.hid (show LL.joinAt xs a b j q = false by unfold LL.joinAt; rw [h3, h4, h5]; rfl)
                      go_wp2_with (go_at_call 23; refine (abv_any HV HX _ _ (by omega)).mono ?_; rintro e w' ⟨rfl, rfl⟩; first | rw [H3.out] | rw [H4.out] | rw [H5.out])
                      go_round
                      case rel => exact ⟨q + 1, false, by omega, by go_num, rfl, Lib.hid (.inr ⟨rfl, q, hq1, HW.out⟩)⟩
                      case measure => simp [intOf]; omega
                    · have H3 := Lib.hid h3
                      have H4 := Lib.hid h4
                      have H5 := Lib.hid h5
                      have HW := Lib.hid (LL.all_step HA.out (show LL.joinAt xs a b j q = true by unfold LL.joinAt; rw [h3, h4, h5]; rfl))
                      go_wp2_with (go_at_call 23; refine (abv_any HV HX _ _ (by omega)).mono ?_; rintro e w' ⟨rfl, rfl⟩; first | rw [H3.out] | rw [H4.out] | rw [H5.out])
                      go_round
                      case rel => exact ⟨q + 1, true, by omega, by go_num, rfl, Lib.hid (.inl ⟨rfl, HW.out⟩)⟩
                      case measure => simp [intOf]; omega
              · have HR := Lib.hid (LL.firstI_hit hlt (show LL.isJoin xs a b j = true by
                  unfold LL.isJoin; rw [H1.out, H2.out, LL.all_yes (fun i hi => HA.out i (by omega))]; rfl) HN.out)
                go_wp2_with fail
                go_ret
                exact ⟨ret_int HR.out.symm, rfl⟩
    · have HR := Lib.hid (show LL.joinI xs a b = -1 from LL.firstI_none (fun i hi => HN.out i (by omega)))
      go_wp2_with fail
      go_ret
      exact ⟨ret_int HR.out.symm, rfl⟩

set_option maxRecDepth 100000 in
set_option maxHeartbeats 1600000 in
theorem rmeet_any (v : Value) (xs : List Int) (n₀ : Nat) (w : World) (hv : Nums .u64 n₀ w v xs) (hx : Wide xs) (hl : xs.length ≤ 9223372036854775807) (a b : Nat) (ha : a < xs.length) (hb : b < xs.length) :
    Calls Tryd.prog 22 #[v, .int .i64 a, .int .i64 b] w fun e w' => e = .returned (.int .i64 (LL.meetI xs a b)) ∧ w = w' := by
  have HV := Lib.hid hv
  have HX := Lib.hid hx
  obtain ⟨_, cap, rfl⟩ := hv.form
  clear hv hx
  go_enter Tryd.func22, Tryd.ntmps22
  go_wp2_with fail
  go_loop [7] (fun k => ∃ j : Nat, j ≤ xs.length ∧ k = .int .i64 (j : Int) ∧ RowKit.Hid (∀ i, i < j → LL.isMeet xs a b i = false)) (fun k => xs.length - (intOf k).toNat)
  case atStart => exact ⟨0, Nat.zero_le _, rfl, Lib.hid (fun i hi => absurd hi (Nat.not_lt_zero _))⟩
  case round =>
    obtain ⟨j, hj, rfl, HN⟩ := hrel
    by_cases hlt : j < xs.length
    · cases h1 : LL.ab xs j a
      · have H1 := Lib.hid h1
        have HS := Lib.hid (LL.none_step HN.out (show LL.isMeet xs a b j = false by unfold LL.isMeet; rw [h1]; rfl))
        go_wp2_with (go_at_call 23; refine (abv_any HV HX _ _ (by omega)).mono ?_; rintro e w' ⟨rfl, rfl⟩; first | rw [H1.out])
        go_loop [8, 9] (fun s m => s = .bool false ∧ m = .int .i64 0) (fun _ _ => 0)
        case atStart => exact ⟨rfl, rfl⟩
        case round =>
          obtain ⟨rfl, rfl⟩ := hrel
          have hn0 : (0 : Int) < xs.length := by omega
          go_wp2_with fail
          go_round
          case rel => exact ⟨j + 1, by omega, by go_num, HS⟩
          case measure => simp [intOf]; omega
      · cases h2 : LL.ab xs j b
        · have H1 := Lib.hid h1
          have H2 := Lib.hid h2
          have HS := Lib.hid (LL.none_step HN.out (show LL.isMeet xs a b j = false by unfold LL.isMeet; rw [h1, h2]; rfl))
          go_wp2_with (go_at_call 23; refine (abv_any HV HX _ _ (by omega)).mono ?_; rintro e w' ⟨rfl, rfl⟩; first | rw [H1.out] | rw [H2.out])
          go_loop [8, 9] (fun s m => s = .bool false ∧ m = .int .i64 0) (fun _ _ => 0)
          case atStart => exact ⟨rfl, rfl⟩
          case round =>
            obtain ⟨rfl, rfl⟩ := hrel
            have hn0 : (0 : Int) < xs.length := by omega
            go_wp2_with fail
            go_round
            case rel => exact ⟨j + 1, by omega, by go_num, HS⟩
            case measure => simp [intOf]; omega
        · have H1 := Lib.hid h1
          have H2 := Lib.hid h2
          clear h1 h2
          go_wp2_with (go_at_call 23; refine (abv_any HV HX _ _ (by omega)).mono ?_; rintro e w' ⟨rfl, rfl⟩; first | rw [H1.out] | rw [H2.out])
          go_loop [8, 9] (fun s m => ∃ (q : Nat) (t : Bool), q ≤ xs.length ∧ m = .int .i64 (q : Int) ∧ s = .bool t ∧ RowKit.Hid ((t = true ∧ ∀ i, i < q → LL.meetAt xs a b j i = true) ∨ (t = false ∧ ∃ i, i < xs.length ∧ LL.meetAt xs a b j i = false))) (fun _ m => xs.length - (intOf m).toNat)
          case atStart => exact ⟨0, true, Nat.zero_le _, rfl, rfl, Lib.hid (.inl ⟨rfl, fun i hi => absurd hi (Nat.not_lt_zero _)⟩)⟩
          case round =>
            obtain ⟨q, t, hq, rfl, rfl, HT⟩ := hrel
            cases t
            · have HS := Lib.hid (LL.none_step HN.out (show LL.isMeet xs a b j = false by
                rcases HT.out with ⟨h, _⟩ | ⟨_, i, hi, hf⟩
                · cases h
                · unfold LL.isMeet; rw [H1.out, H2.out, LL.all_no hi hf]; rfl))
              by_cases hq1 : q < xs.length
              · go_wp2_with fail
                go_round
                case rel => exact ⟨j + 1, by omega, by go_num, HS⟩
                case measure => simp [intOf]; omega
              · go_wp2_with fail
                go_round
                case rel => exact ⟨j + 1, by omega, by go_num, HS⟩
                case measure => simp [intOf]; omega
            · have HA := Lib.hid (show ∀ i, i < q → LL.meetAt xs a b j i = true by
                rcases HT.out with ⟨_, h⟩ | ⟨h, _⟩
                · exact h
                · cases h)
              by_cases hq1 : q < xs.length
              · cases h3 : LL.ab xs q a
                · have H3 := Lib.hid h3
                  have HW := Lib.hid (LL.all_step HA.out (show LL.meetAt xs a b j q = true by unfold LL.meetAt; rw [h3]; rfl))
                  go_wp2_with (go_at_call 23; refine (abv_any HV HX _ _ (by omega)).mono ?_; rintro e w' ⟨rfl, rfl⟩; first | rw [H3.out])
                  go_round
                  case rel => exact ⟨q + 1, true, by omega, by go_num, rfl, Lib.hid (.inl ⟨rfl, HW.out⟩)⟩
                  case measure => simp [intOf]; omega
                · cases h4 : LL.ab xs q b
                  · have H3 := Lib.hid h3
                    have H4 := Lib.hid h4
                    have HW := Lib.hid (LL.all_step HA.out (show LL.meetAt xs a b j q = true by unfold LL.meetAt; rw [h3, h4]; rfl))
                    go_wp2_with (go_at_call 23; refine (abv_any HV HX _ _ (by omega)).mono ?_; rintro e w' ⟨rfl, rfl⟩; first | rw [H3.out] | rw [H4.out])
                    go_round
                    case rel => exact ⟨q + 1, true, by omega, by go_num, rfl, Lib.hid (.inl ⟨rfl, HW.out⟩)⟩
                    case measure => simp [intOf]; omega
                  · cases h5 : LL.ab xs q j
                    · have H3 := Lib.hid h3
                      have H4 := Lib.hid h4
                      have H5 := Lib.hid h5
                      have HW := Lib.hid (show LL.meetAt xs a b j q = false by unfold LL.meetAt; rw [h3, h4, h5]; rfl)
                      go_wp2_with (go_at_call 23; refine (abv_any HV HX _ _ (by omega)).mono ?_; rintro e w' ⟨rfl, rfl⟩; first | rw [H3.out] | rw [H4.out] | rw [H5.out])
                      go_round
                      case rel => exact ⟨q + 1, false, by omega, by go_num, rfl, Lib.hid (.inr ⟨rfl, q, hq1, HW.out⟩)⟩
                      case measure => simp [intOf]; omega
                    · have H3 := Lib.hid h3
                      have H4 := Lib.hid h4
                      have H5 := Lib.hid h5
                      have HW := Lib.hid (LL.all_step HA.out (show LL.meetAt xs a b j q = true by unfold LL.meetAt; rw [h3, h4, h5]; rfl))
                      go_wp2_with (go_at_call 23; refine (abv_any HV HX _ _ (by omega)).mono ?_; rintro e w' ⟨rfl, rfl⟩; first | rw [H3.out] | rw [H4.out] | rw [H5.out])
                      go_round
                      case rel => exact ⟨q + 1, true, by omega, by go_num, rfl, Lib.hid (.inl ⟨rfl, HW.out⟩)⟩
                      case measure => simp [intOf]; omega
              · have HR := Lib.hid (LL.firstI_hit hlt (show LL.isMeet xs a b j = true by
                  unfold LL.isMeet; rw [H1.out, H2.out, LL.all_yes (fun i hi => HA.out i (by omega))]; rfl) HN.out)
                go_wp2_with fail
                go_ret
                exact ⟨ret_int HR.out.symm, rfl⟩
    · have HR := Lib.hid (show LL.meetI xs a b = -1 from LL.firstI_none (fun i hi => HN.out i (by omega)))
      go_wp2_with fail
      go_ret
      exact ⟨ret_int HR.out.symm, rfl⟩

end Go.Proofs.YtaaicmldldkhhaaDoor
