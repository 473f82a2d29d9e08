import Derived.Test.YtaaicmldldkhhaaDoorLatR
/-! the walks of layer 5's reference: Right, Same -/
namespace Go.Proofs.YtaaicmldldkhhaaDoor
set_option linter.unusedVariables false
open Go.RowKit

set_option maxRecDepth 100000 in
set_option maxHeartbeats 1600000 in
theorem rright_any (v : Value) (xs : List Int) (n₀ : Nat) (w : World) (hv : Nums .u64 n₀ w v xs) (hx : Wide xs) (hl : xs.length ≤ 9223372036854775807) :
    Calls Tryd.prog 17 #[v] w fun e w' => e = .returned (.bool (LL.rightB xs)) ∧ ∃ d, w' = w.drewN d := by
  have HV := Lib.hid hv
  have HX := Lib.hid hx
  have HL := Lib.hid hl
  obtain ⟨_, cap, rfl⟩ := hv.form
  clear hv hx
  cases ho : LL.ordB xs
  · have HO := Lib.hid ho
    have HR := Lib.hid (show LL.rightB xs = false by unfold LL.rightB; rw [ho]; rfl)
    clear ho
    go_enter Tryd.func17, Tryd.ntmps17
    go_wp2_with fail
    refine (rorder_any _ xs n₀ _ HV.out HX.out HL.out).mono ?_
    rintro e w1 ⟨rfl, d, rfl⟩
    rw [HO.out]
    go_wp2_with fail
    go_ret
    exact ⟨ret_bool HR.out.symm, d, rfl⟩
  · have HO := Lib.hid ho
    clear ho
    go_enter Tryd.func17, Tryd.ntmps17
    go_wp2_with fail
    refine (rorder_any _ xs n₀ _ HV.out HX.out HL.out).mono ?_
    rintro e w1 ⟨rfl, d, rfl⟩
    rw [HO.out]
    have HV1 := Lib.hid (HV.out.drewN d)
    go_wp2_with fail
    go_loop [3] (fun k => ∃ i : Nat, i ≤ xs.length ∧ k = .int .i64 (i : Int) ∧ RowKit.Hid (∀ j, j < i → (List.range j).all (LL.pairB xs j) = true)) (fun k => xs.length - (intOf k).toNat)
    case atStart => exact ⟨0, Nat.zero_le _, rfl, Lib.hid (fun i hi => absurd hi (Nat.not_lt_zero _))⟩
    case round =>
      obtain ⟨i, hi, rfl, HN⟩ := hrel
      by_cases hlt : i < xs.length
      · have HNO := Lib.hid (show (List.range i).all (LL.pairB xs i) = false → LL.rightB xs = false from fun h => by
          unfold LL.rightB; rw [LL.all_no (p := fun a => (List.range a).all (LL.pairB xs a)) hlt h, Bool.and_false])
        go_wp2_with fail
        go_loop [4] (fun k => ∃ q : Nat, q ≤ i ∧ k = .int .i64 (q : Int) ∧ RowKit.Hid (∀ j, j < q → LL.pairB xs i j = true)) (fun k => i - (intOf k).toNat)
        case atStart => exact ⟨0, Nat.zero_le _, rfl, Lib.hid (fun i hi => absurd hi (Nat.not_lt_zero _))⟩
        case round =>
          obtain ⟨q, hq, rfl, HQ⟩ := hrel
          by_cases hq1 : q < i
          · have hqn : q < xs.length := by omega
            have bj := LL.firstI_bd xs.length (LL.isJoin xs i q)
            have bm := LL.firstI_bd xs.length (LL.isMeet xs i q)
            have HNQ := Lib.hid (show LL.pairB xs i q = false → LL.rightB xs = false from fun h => HNO.out (LL.all_no hq1 h))
            obtain ⟨j, hj⟩ : ∃ j, LL.joinI xs i q = j := ⟨_, rfl⟩
            obtain ⟨m, hm⟩ : ∃ m, LL.meetI xs i q = m := ⟨_, rfl⟩
            have HJ := Lib.hid hj
            have HM := Lib.hid hm
            have bj : -1 ≤ j := by rw [← hj]; exact bj.1
            have bm : -1 ≤ m := by rw [← hm]; exact bm.1
            clear hj hm
            by_cases hjn : j < 0
            · have HR := Lib.hid (HNQ.out (show LL.pairB xs i q = false by unfold LL.pairB; rw [HJ.out, decide_eq_false (by omega)]; rfl))
              have hj' : decide (j < 0) = true := decide_eq_true hjn
              clear hjn
              go_wp2_with fail
              refine (rjoin_any _ xs n₀ _ HV1.out HX.out HL.out i q hlt hqn).mono ?_
              rintro e w2 ⟨rfl, rfl⟩
              rw [HJ.out]
              go_wp2_with fail
              go_ret
              exact ⟨ret_bool HR.out.symm, d, rfl⟩
            · have hj' : decide (j < 0) = false := decide_eq_false hjn
              by_cases hmn : m < 0
              · have HR := Lib.hid (HNQ.out (show LL.pairB xs i q = false by unfold LL.pairB; rw [HM.out, decide_eq_false (show ¬ 0 ≤ m by omega), Bool.and_false]))
                have hm' : decide (m < 0) = true := decide_eq_true hmn
                clear hjn hmn
                go_wp2_with fail
                refine (rjoin_any _ xs n₀ _ HV1.out HX.out HL.out i q hlt hqn).mono ?_
                rintro e w2 ⟨rfl, rfl⟩
                rw [HJ.out]
                go_wp2_with fail
                refine (rmeet_any _ xs n₀ _ HV1.out HX.out HL.out i q hlt hqn).mono ?_
                rintro e w2 ⟨rfl, rfl⟩
                rw [HM.out]
                go_wp2_with fail
                go_ret
                exact ⟨ret_bool HR.out.symm, d, rfl⟩
              · have hm' : decide (m < 0) = false := decide_eq_false hmn
                have HW := Lib.hid (LL.all_step HQ.out (show LL.pairB xs i q = true by unfold LL.pairB; rw [HJ.out, HM.out, decide_eq_true (show 0 ≤ j by omega), decide_eq_true (show 0 ≤ m by omega)]; rfl))
                clear hjn hmn
                go_wp2_with fail
                refine (rjoin_any _ xs n₀ _ HV1.out HX.out HL.out i q hlt hqn).mono ?_
                rintro e w2 ⟨rfl, rfl⟩
                rw [HJ.out]
                go_wp2_with fail
                refine (rmeet_any _ xs n₀ _ HV1.out HX.out HL.out i q hlt hqn).mono ?_
                rintro e w2 ⟨rfl, rfl⟩
                rw [HM.out]
                go_wp2_with fail
                go_round
                case rel => exact ⟨q + 1, by omega, by go_num, HW⟩
                case measure => simp [intOf]; omega
          · have HW := Lib.hid (LL.all_step HN.out (LL.all_yes (fun j hj => HQ.out j (by omega))))
            go_wp2_with fail
            go_round
            case rel => exact ⟨i + 1, by omega, by go_num, HW⟩
            case measure => simp [intOf]; omega
      · have HR := Lib.hid (show LL.rightB xs = true by unfold LL.rightB; rw [HO.out, LL.all_yes (fun j hj => HN.out j (by omega))]; rfl)
        go_wp2_with fail
        go_ret
        exact ⟨ret_bool HR.out.symm, d, rfl⟩

theorem take_snoc_num (l : List Int) (k : Nat) (h : k < l.length) : l.take (k + 1) = l.take k ++ [l[k]?.getD 0] := by
  rw [List.take_succ_eq_append_getElem h, List.getElem?_eq_getElem h]; rfl
set_option maxHeartbeats 400000 in
theorem rsame5_any (a b : Value) (xs ys : List Int) (n : Nat) (w : World) (ha : Nums .u64 n w a xs) (hb : Nums .u64 n w b ys) (hx : xs.length ≤ 9223372036854775807) (hy : ys.length ≤ 9223372036854775807) :
    Calls Tryd.prog 14 #[a, b] w fun e w' => e = .returned (.bool (xs == ys)) ∧ Below w.heap.size w w' := by
  by_cases hl : xs.length = ys.length
  · by_cases h0 : xs.length = 0
    · have ex : xs = [] := List.length_eq_zero_iff.1 h0
      have ey : ys = [] := List.length_eq_zero_iff.1 (hl ▸ h0)
      subst ex ey
      obtain ⟨a1, c1, rfl⟩ := ha.form
      obtain ⟨b1, d1, rfl⟩ := hb.form
      go_enter Tryd.func14, Tryd.ntmps14
      go_wp2
      go_loop [5] (fun k => k = .int .i64 0) (fun _ => 0)
      case atStart => exact rfl
      case round =>
        obtain rfl := hrel
        go_wp2
        go_ret
        exact ⟨rfl, Below.refl _ _⟩
    · rcases ha with ⟨_, h⟩ | ⟨ba, oa, ca, rfl, hba, _, hca⟩
      · exact absurd (by rw [h]; rfl) h0
      rcases hb with ⟨_, h⟩ | ⟨bb, ob, cb, rfl, hbb, _, hcb⟩
      · exact absurd (hl.trans (by rw [h]; rfl)) h0
      have hne : ((xs.length : Int) != (ys.length : Int)) = false := by rw [bne_eq_false_iff_eq]; omega
      have hl1 : xs.length ≤ ys.length := by omega
      have hl2 : ys.length ≤ xs.length := by omega
      have HL := Lib.hid hl
      clear hl
      go_enter Tryd.func14, Tryd.ntmps14
      go_wp2
      go_loopw [5] (fun k wr => ∃ j d : Nat, j ≤ xs.length ∧ k = .int .i64 j ∧ wr = w.drewN d ∧ Hid (xs.take j = ys.take j)) (fun k _ => xs.length - (intOf k).toNat)
      case atStart => exact ⟨0, 0, by omega, rfl, rfl, Lib.hid rfl⟩
      case round =>
        obtain ⟨j, d, hj, rfl, rfl, HT⟩ := hrel
        by_cases hlt : j < xs.length
        · have hx1 : w.cell? ⟨ba, oa + j, none⟩ = some (.int .u64 (xs[j]?.getD 0)) := hca j hlt
          have hy1 : w.cell? ⟨bb, ob + j, none⟩ = some (.int .u64 (ys[j]?.getD 0)) := hcb j (by omega)
          have i1 : (0 : Int) ≤ j ∧ (j : Int) < xs.length := by omega
          have i2 : (0 : Int) ≤ j ∧ (j : Int) < ys.length := by omega
          have ht := take_snoc_num xs j hlt
          have hu := take_snoc_num ys j (by omega)
          clear hca hcb
          generalize xs[j]?.getD 0 = x at hx1 ht
          generalize ys[j]?.getD 0 = y at hy1 hu
          by_cases hxy : x = y
          · subst hxy
            have HT' := Lib.hid (show xs.take (j + 1) = ys.take (j + 1) by rw [ht, hu, HT.out])
            have hb : (x != x) = false := by simp
            clear ht hu
            go_wp2
            go_quiet (fail)
            go_wp2
            go_roundw
            case rel => exact ⟨j + 1, d + nq, by omega, by go_num, rfl, HT'⟩
            case measure => simp [intOf]; omega
          · have hb : (x != y) = true := by simpa using hxy
            have HN := Lib.hid (show (xs == ys) = false by
              rw [beq_eq_false_iff_ne]; intro h; apply hxy
              have : xs.take (j + 1) = ys.take (j + 1) := by rw [h]
              rw [ht, hu, HT.out] at this
              simpa using this)
            clear ht hu
            go_wp2
            go_quiet (fail)
            go_wp2
            go_ret
            exact ⟨ret_bool HN.out.symm, below_drewN (below_drewN (Below.refl _ _) _) _⟩
        · obtain rfl : j = xs.length := by omega
          have HE := Lib.hid (show (xs == ys) = true by
            have := HT.out
            rw [List.take_of_length_le (Nat.le_refl _), List.take_of_length_le hl2] at this
            rw [this]; simp)
          go_wp2
          go_ret
          exact ⟨ret_bool HE.out.symm, below_drewN (Below.refl _ _) _⟩
  · have hne : ((xs.length : Int) != (ys.length : Int)) = true := by rw [bne_iff_ne]; omega
    have hr := Lib.hid (show (xs == ys) = false by rw [beq_eq_false_iff_ne]; intro h; exact hl (by rw [h]))
    obtain ⟨a1, c1, rfl⟩ := ha.form
    obtain ⟨b1, d1, rfl⟩ := hb.form
    go_enter Tryd.func14, Tryd.ntmps14
    go_wp2
    go_ret
    exact ⟨ret_bool hr.out.symm, Below.refl _ _⟩
end Go.Proofs.YtaaicmldldkhhaaDoor
