import Derived.Test.YtgfjdnmnjabbbaaDoorPlatF
import Derived.Test.YtgfjdnmnjabbbaaDoorPlatQ
set_option linter.unusedSimpArgs false
set_option linter.unusedVariables false
/-! the walks of layer 5's Right, Leq, Join, Meet, Bottom, Top -/
namespace Go.Proofs.YtgfjdnmnjabbbaaDoor
open Go.RowKit

theorem near_cases {n : Nat} {p : Nat → Bool} : (∃ j : Nat, LL.firstI n p = (j : Int) ∧ j < n) ∨ LL.firstI n p = -1 := by
  by_cases h : 0 ≤ LL.firstI n p
  · obtain ⟨j, e, hj, _⟩ := LL.firstI_at h
    exact .inl ⟨j, e, hj⟩
  · have := LL.firstI_bd n p
    exact .inr (by omega)
theorem near_end (xs : List Int) : (∃ j : Nat, LL.endI xs = (j : Int)) ∨ LL.endI xs = -1 := near_cases.imp (fun ⟨j, h, _⟩ => ⟨j, h⟩) id
theorem near_join (xs : List Int) (a b : Nat) : (∃ j : Nat, LL.joinI xs a b = (j : Int)) ∨ LL.joinI xs a b = -1 := near_cases.imp (fun ⟨j, h, _⟩ => ⟨j, h⟩) id

set_option maxRecDepth 100000 in
set_option maxHeartbeats 1600000 in
theorem right5_any (v : Value) (xs : List Int) (n₀ : Nat) (w : World) (hv : Nums .u64 n₀ w v xs) (hn : n₀ ≤ w.heap.size) (hx : Wide xs) (hl : xs.length ≤ big5) (hT : Tz w) :
    Calls Tryd.prog 43 #[v] w fun e w' => e = .returned (.bool (LL.rightB xs)) ∧ Below w.heap.size w w' := by
  have HV := Lib.hid hv
  have HX := Lib.hid hx
  have HL := Lib.hid hl
  have HRP := Lib.hid (LL.right_p hx)
  obtain ⟨a, cap, rfl⟩ := hv.form
  clear hv hx hl
  cases ho : LL.ordB xs
  · have HO := Lib.hid ho
    have HR := Lib.hid (show LL.rightB xs = false by unfold LL.rightB; rw [ho]; rfl)
    clear ho
    go_enter Tryd.func43, Tryd.ntmps43
    go_wp2_with fail
    refine (order_any _ xs n₀ _ HV.out hn HX.out HL.out hT).mono ?_
    rintro e w1 ⟨rfl, hb1⟩
    rw [HO.out]
    go_wp2_with fail
    go_ret
    exact ⟨ret_bool HR.out.symm, hb1⟩
  · have HO := Lib.hid ho
    have hl64 := (LL.ord_len ho).2
    clear ho
    go_enter Tryd.func43, Tryd.ntmps43
    go_wp2_with fail
    refine (order_any _ xs n₀ _ HV.out hn HX.out HL.out hT).mono ?_
    rintro e w1 ⟨rfl, hb1⟩
    rw [HO.out]
    go_wp2_with fail
    refine (way_any a xs.length cap false w1).mono ?_
    rintro e w2 ⟨rfl, rfl⟩
    have hB2 : Below w.heap.size w (wayBoxes w1 (.slice a xs.length cap) false) := ((hb1.alloc hb1.size _).alloc (by have := hb1.size; simp; omega) _)
    have HW := Lib.hid (Way.made false (HV.out.below (hb1.mono hn)) (Nat.le_trans hn hb1.size))
    have hsz : (wayBoxes w1 (.slice a xs.length cap) false).heap.size = w1.heap.size + 2 := by unfold wayBoxes; simp
    have hT2 := hT.on hB2
    have HB2 := Lib.hid hB2
    generalize hw2 : wayBoxes w1 (.slice a xs.length cap) false = w2 at HW hsz hT2 HB2 ⊢
    clear hB2 hw2
    go_wp2_with fail
    refine (end_any _ _ xs.length _ xs false _ HW.out HX.out HO.out rfl).mono ?_
    rintro e w3 ⟨rfl, rfl⟩
    have hn2 : n₀ ≤ w1.heap.size + 2 := by have := hb1.size; omega
    clear hb1
    rcases near_end (beyL xs false) with ⟨j, hj⟩ | hj
    · have HJ := Lib.hid hj
      rw [hj, ← nearE_yes]
      clear hj
      go_wp2_with fail
      go_loopw [26] (fun k wr => ∃ i : Nat, i ≤ xs.length ∧ k = .int .i64 (i : Int) ∧ Below w3.heap.size w3 wr ∧ RowKit.Hid (∀ j, j < i → ((List.range j).all fun b => decide (0 ≤ LL.joinI xs j b)) = true)) (fun k _ => xs.length - (intOf k).toNat)
      case atStart => exact ⟨0, Nat.zero_le _, rfl, Below.refl _ _, Lib.hid (fun i hi => absurd hi (Nat.not_lt_zero _))⟩
      case round =>
        obtain ⟨i, hi, rfl, hB, HN⟩ := hrel
        by_cases hlt : i < xs.length
        · have HNO := Lib.hid (show ((List.range i).all fun b => decide (0 ≤ LL.joinI xs i b)) = false → LL.rightB xs = false from fun h => by
            rw [HRP.out]; unfold LL.pRight
            rw [LL.all_no (p := fun a => (List.range a).all fun b => decide (0 ≤ LL.joinI xs a b)) hlt h, Bool.and_false, Bool.and_false])
          go_wp2_with fail
          go_loopw [30] (fun k wr => ∃ q : Nat, q ≤ i ∧ k = .int .i64 (q : Int) ∧ Below w3.heap.size w3 wr ∧ RowKit.Hid (∀ j, j < q → decide (0 ≤ LL.joinI xs i j) = true)) (fun k _ => i - (intOf k).toNat)
          case atStart => exact ⟨0, Nat.zero_le _, rfl, hB, Lib.hid (fun i hi => absurd hi (Nat.not_lt_zero _))⟩
          case round =>
            obtain ⟨q, hq, rfl, hB, HQ⟩ := hrel
            by_cases hq1 : q < i
            · go_wp2_with fail
              refine (nearest_any _ _ i q _ xs false wr (HW.out.below (hB.mono (by omega))) (by have := hB.size; omega) HX.out HO.out hlt (by omega) (hT2.on hB)).mono ?_
              rintro e w4 ⟨rfl, hb4⟩
              have hB4 := bstep hB hb4
              rcases near_join (beyL xs false) i q with ⟨j, hj⟩ | hj
              · have HS := Lib.hid (LL.all_step HQ.out (show decide (0 ≤ LL.joinI xs i q) = true by rw [show LL.joinI xs i q = _ from hj]; exact decide_eq_true (by omega)))
                rw [hj, ← nearE_yes]
                clear hj hb4
                go_wp2_with fail
                go_roundw
                case rel => exact ⟨q + 1, by omega, by go_num, hB4, HS⟩
                case measure => simp [intOf]; omega
              · have HR := Lib.hid (HNO.out (LL.all_no hq1 (show decide (0 ≤ LL.joinI xs i q) = false by rw [show LL.joinI xs i q = _ from hj]; rfl)))
                rw [hj, ← nearE_no]
                clear hj hb4
                go_wp2_with fail
                go_ret
                exact ⟨ret_bool HR.out.symm, bstep HB2.out hB4⟩
            · have HS := Lib.hid (LL.all_step HN.out (LL.all_yes (p := fun b => decide (0 ≤ LL.joinI xs i b)) fun j hj => HQ.out j (by omega)))
              go_wp2_with fail
              go_roundw
              case rel => exact ⟨i + 1, by omega, by go_num, hB, HS⟩
              case measure => simp [intOf]; omega
        · have HR := Lib.hid (show LL.rightB xs = true by
            rw [HRP.out]; unfold LL.pRight
            rw [HO.out, show LL.endI xs = (j : Int) from HJ.out, decide_eq_true (show (0 : Int) ≤ (j : Int) by omega), Bool.true_and, Bool.true_and]
            exact LL.all_yes fun j hj => HN.out j (by omega))
          go_wp2_with fail
          go_ret
          exact ⟨ret_bool HR.out.symm, bstep HB2.out hB⟩
    · have HR := Lib.hid (show LL.rightB xs = false by
        rw [HRP.out]; unfold LL.pRight
        rw [show LL.endI xs = -1 from hj]; simp)
      rw [hj, ← nearE_no]
      clear hj
      go_wp2_with fail
      go_ret
      exact ⟨ret_bool HR.out.symm, HB2.out⟩
end Go.Proofs.YtgfjdnmnjabbbaaDoor
