import Derived.Test.YtkoofibhddkpiaaDoorPlatO
import Derived.Test.YtkoofibhddkpiaaDoorLatAll
import Derived.Test.YtkoofibhddkpiaaDoorPlatF
set_option linter.unusedSimpArgs false
set_option linter.unusedVariables false
/-! layer 5's order, of any masks -/
namespace Go.Proofs.YtkoofibhddkpiaaDoor
open Go.RowKit Go.Shelf
attribute [local go_sem] Oper.semAt_some

set_option maxRecDepth 100000 in
set_option maxHeartbeats 1600000 in
theorem order_any (v : Value) (xs : List Int) (n₀ : Nat) (w : World) (hv : Nums .u64 n₀ w v xs) (hn : n₀ ≤ w.heap.size) (hx : Wide xs) (hl : xs.length ≤ big5) (hT : Tz w) :
    Calls Tryd.prog 24 #[v] w fun e w' => e = .returned (.bool (LL.ordB xs)) ∧ Below w.heap.size w w' := by
  by_cases h0 : 1 ≤ xs.length ∧ xs.length ≤ 64
  · exact order_in v xs n₀ w hv hn hx h0 hT
  · have HR := Lib.hid (show LL.ordB xs = false by unfold LL.ordB; rw [decide_eq_false h0]; rfl)
    have hl2 : xs.length ≤ 17592186044416 := hl
    obtain ⟨a, cap, rfl⟩ := hv.form
    clear hv hx hl
    have hs1 := cell_new_l (w.alloc (.cells #[.slice a xs.length cap] 22)) (.bool false) 4
    rw [World.size_alloc] at hs1
    have hB0 := ((Below.refl w.heap.size w).alloc (Nat.le_refl _) (.cells #[.slice a xs.length cap] 22)).alloc (by simp) (.cells #[.bool false] 4)
    refine (callsIn_wide (n := 5)).1 ?_
    refine callsIn_of_wp_marks Tryd.func24 rfl trivial ?_ rfl
    simp only [Tryd.ntmps24, List.size_toArray, List.length_cons, List.length_nil, Nat.reduceAdd, Nat.reduceSub, Array.replicate_succ, Array.replicate_zero, List.push_toArray, List.append_toArray, List.nil_append, List.cons_append]
    by_cases h1 : (xs.length : Int) < 1
    · clear h0
      gi_wp2
      refine ⟨.bool false, ?_, by rw [HR.out], hB0⟩
      simp [results, Tryd.f24, go_sem, hs1.1]
    · have h2 : (64 : Int) < xs.length := by omega
      clear h0
      gi_wp2
      refine ⟨.bool false, ?_, by rw [HR.out], hB0⟩
      simp [results, Tryd.f24, go_sem, hs1.1]
end Go.Proofs.YtkoofibhddkpiaaDoor

/-! the walks of layer 5's Right, Leq, Join, Meet, Bottom, Top -/
namespace Go.Proofs.YtkoofibhddkpiaaDoor
open Go.RowKit

theorem near_cases {n : Nat} {p : Nat → Bool} : (∃ j : Nat, LL.firstI n p = (j : Int) ∧ j < n) ∨ LL.firstI n p = -1 := by
  by_cases h : 0 ≤ LL.firstI n p
  · obtain ⟨j, e, hj, _⟩ := LL.firstI_at h
    exact .inl ⟨j, e, hj⟩
  · have := LL.firstI_bd n p
    exact .inr (by omega)
theorem near_end (xs : List Int) : (∃ j : Nat, LL.endI xs = (j : Int)) ∨ LL.endI xs = -1 := near_cases.imp (fun ⟨j, h, _⟩ => ⟨j, h⟩) id
theorem near_join (xs : List Int) (a b : Nat) : (∃ j : Nat, LL.joinI xs a b = (j : Int)) ∨ LL.joinI xs a b = -1 := near_cases.imp (fun ⟨j, h, _⟩ => ⟨j, h⟩) id

set_option maxRecDepth 100000 in
set_option maxHeartbeats 1600000 in
theorem right5_any (v : Value) (xs : List Int) (n₀ : Nat) (w : World) (hv : Nums .u64 n₀ w v xs) (hn : n₀ ≤ w.heap.size) (hx : Wide xs) (hl : xs.length ≤ big5) (hT : Tz w) :
    Calls Tryd.prog 15 #[v] w fun e w' => e = .returned (.bool (LL.rightB xs)) ∧ Below w.heap.size w w' := by
  have HV := Lib.hid hv
  have HX := Lib.hid hx
  have HL := Lib.hid hl
  have HRP := Lib.hid (LL.right_p hx)
  obtain ⟨a, cap, rfl⟩ := hv.form
  clear hv hx hl
  cases ho : LL.ordB xs
  · have HO := Lib.hid ho
    have HR := Lib.hid (show LL.rightB xs = false by unfold LL.rightB; rw [ho]; rfl)
    clear ho
    go_enter Tryd.func15, Tryd.ntmps15
    go_wp2_with fail
    refine (order_any _ xs n₀ _ HV.out hn HX.out HL.out hT).mono ?_
    rintro e w1 ⟨rfl, hb1⟩
    rw [HO.out]
    go_wp2_with fail
    go_ret
    exact ⟨ret_bool HR.out.symm, hb1⟩
  · have HO := Lib.hid ho
    have hl64 := (LL.ord_len ho).2
    clear ho
    go_enter Tryd.func15, Tryd.ntmps15
    go_wp2_with fail
    refine (order_any _ xs n₀ _ HV.out hn HX.out HL.out hT).mono ?_
    rintro e w1 ⟨rfl, hb1⟩
    rw [HO.out]
    go_wp2_with fail
    refine (way_any a xs.length cap false w1).mono ?_
    rintro e w2 ⟨rfl, rfl⟩
    have hB2 : Below w.heap.size w (wayBoxes w1 (.slice a xs.length cap) false) := ((hb1.alloc hb1.size _).alloc (by have := hb1.size; simp; omega) _)
    have HW := Lib.hid (Way.made false (HV.out.below (hb1.mono hn)) (Nat.le_trans hn hb1.size))
    have hsz : (wayBoxes w1 (.slice a xs.length cap) false).heap.size = w1.heap.size + 2 := by unfold wayBoxes; simp
    have hT2 := hT.on hB2
    have HB2 := Lib.hid hB2
    generalize hw2 : wayBoxes w1 (.slice a xs.length cap) false = w2 at HW hsz hT2 HB2 ⊢
    clear hB2 hw2
    go_wp2_with fail
    refine (end_any _ _ xs.length _ xs false _ HW.out HX.out HO.out rfl).mono ?_
    rintro e w3 ⟨rfl, rfl⟩
    have hn2 : n₀ ≤ w1.heap.size + 2 := by have := hb1.size; omega
    clear hb1
    rcases near_end (beyL xs false) with ⟨j, hj⟩ | hj
    · have HJ := Lib.hid hj
      rw [hj, ← nearE_yes]
      clear hj
      go_wp2_with fail
      go_loopw [26] (fun k wr => ∃ i : Nat, i ≤ xs.length ∧ k = .int .i64 (i : Int) ∧ Below w3.heap.size w3 wr ∧ RowKit.Hid (∀ j, j < i → ((List.range j).all fun b => decide (0 ≤ LL.joinI xs j b)) = true)) (fun k _ => xs.length - (intOf k).toNat)
      case atStart => exact ⟨0, Nat.zero_le _, rfl, Below.refl _ _, Lib.hid (fun i hi => absurd hi (Nat.not_lt_zero _))⟩
      case round =>
        obtain ⟨i, hi, rfl, hB, HN⟩ := hrel
        by_cases hlt : i < xs.length
        · have HNO := Lib.hid (show ((List.range i).all fun b => decide (0 ≤ LL.joinI xs i b)) = false → LL.rightB xs = false from fun h => by
            rw [HRP.out]; unfold LL.pRight
            rw [LL.all_no (p := fun a => (List.range a).all fun b => decide (0 ≤ LL.joinI xs a b)) hlt h, Bool.and_false, Bool.and_false])
          go_wp2_with fail
          go_loopw [30] (fun k wr => ∃ q : Nat, q ≤ i ∧ k = .int .i64 (q : Int) ∧ Below w3.heap.size w3 wr ∧ RowKit.Hid (∀ j, j < q → decide (0 ≤ LL.joinI xs i j) = true)) (fun k _ => i - (intOf k).toNat)
          case atStart => exact ⟨0, Nat.zero_le _, rfl, hB, Lib.hid (fun i hi => absurd hi (Nat.not_lt_zero _))⟩
          case round =>
            obtain ⟨q, hq, rfl, hB, HQ⟩ := hrel
            by_cases hq1 : q < i
            · go_wp2_with fail
              refine (nearest_any _ _ i q _ xs false wr (HW.out.below (hB.mono (by omega))) (by have := hB.size; omega) HX.out HO.out hlt (by omega) (hT2.on hB)).mono ?_
              rintro e w4 ⟨rfl, hb4⟩
              have hB4 := bstep hB hb4
              rcases near_join (beyL xs false) i q with ⟨j, hj⟩ | hj
              · have HS := Lib.hid (LL.all_step HQ.out (show decide (0 ≤ LL.joinI xs i q) = true by rw [show LL.joinI xs i q = _ from hj]; exact decide_eq_true (by omega)))
                rw [hj, ← nearE_yes]
                clear hj hb4
                go_wp2_with fail
                go_roundw
                case rel => exact ⟨q + 1, by omega, by go_num, hB4, HS⟩
                case measure => simp [intOf]; omega
              · have HR := Lib.hid (HNO.out (LL.all_no hq1 (show decide (0 ≤ LL.joinI xs i q) = false by rw [show LL.joinI xs i q = _ from hj]; rfl)))
                rw [hj, ← nearE_no]
                clear hj hb4
                go_wp2_with fail
                go_ret
                exact ⟨ret_bool HR.out.symm, bstep HB2.out hB4⟩
            · have HS := Lib.hid (LL.all_step HN.out (LL.all_yes (p := fun b => decide (0 ≤ LL.joinI xs i b)) fun j hj => HQ.out j (by omega)))
              go_wp2_with fail
              go_roundw
              case rel => exact ⟨i + 1, by omega, by go_num, hB, HS⟩
              case measure => simp [intOf]; omega
        · have HR := Lib.hid (show LL.rightB xs = true by
            rw [HRP.out]; unfold LL.pRight
            rw [HO.out, show LL.endI xs = (j : Int) from HJ.out, decide_eq_true (show (0 : Int) ≤ (j : Int) by omega), Bool.true_and, Bool.true_and]
            exact LL.all_yes fun j hj => HN.out j (by omega))
          go_wp2_with fail
          go_ret
          exact ⟨ret_bool HR.out.symm, bstep HB2.out hB⟩
    · have HR := Lib.hid (show LL.rightB xs = false by
        rw [HRP.out]; unfold LL.pRight
        rw [show LL.endI xs = -1 from hj]; simp)
      rw [hj, ← nearE_no]
      clear hj
      go_wp2_with fail
      go_ret
      exact ⟨ret_bool HR.out.symm, HB2.out⟩
end Go.Proofs.YtkoofibhddkpiaaDoor

/-! the walks of layer 5's Leq, Join, Meet, Bottom, Top, Height -/
namespace Go.Proofs.YtkoofibhddkpiaaDoor
open Go.RowKit

theorem lev_nat {a : Int} {n : Nat} (h : (decide (0 ≤ a) && decide (a < n)) = true) : ∃ k : Nat, a = (k : Int) ∧ k < n := by
  rw [Bool.and_eq_true, decide_eq_true_eq, decide_eq_true_eq] at h
  exact ⟨a.toNat, by omega, by omega⟩
theorem inB_a {xs : List Int} {a b : Int} (h : (decide (0 ≤ a) && decide (a < xs.length)) = false) : inB5 xs a b = false := by unfold inB5; rw [h]; rfl
theorem inB_b {xs : List Int} {a b : Int} (h : (decide (0 ≤ b) && decide (b < xs.length)) = false) : inB5 xs a b = false := by unfold inB5; rw [h, Bool.false_and, Bool.and_false]
theorem inB_r {xs : List Int} {a b : Int} (h : LL.rightB xs = false) : inB5 xs a b = false := by unfold inB5; rw [h, Bool.and_false, Bool.and_false]
theorem leq_is {xs : List Int} (hr : LL.rightB xs = true) {a : Nat} (ha : a < xs.length) (b : Int) : (inB5 xs a b && LL.ab xs (a : Int).toNat b.toNat) = MM.hasB (xs[a]?.getD 0) b := by
  have hl := (LL.ord_len (LL.right_ord hr)).2
  by_cases hb : 0 ≤ b ∧ b < xs.length
  · obtain ⟨k, rfl⟩ : ∃ k : Nat, b = k := ⟨b.toNat, by omega⟩
    rw [inB_yes hr ha (by omega), Bool.true_and, Int.toNat_natCast, Int.toNat_natCast]; rfl
  · rw [inB_b (by rw [Bool.and_eq_false_iff, decide_eq_false_iff_not, decide_eq_false_iff_not]; omega), Bool.false_and]
    cases h : MM.hasB (xs[a]?.getD 0) b
    · rfl
    · exfalso
      have h64 : 0 ≤ b ∧ b < 64 := by
        unfold MM.hasB at h
        rw [Bool.and_eq_true, decide_eq_true_eq] at h
        exact h.1
      obtain ⟨k, rfl⟩ : ∃ k : Nat, b = k := ⟨b.toNat, by omega⟩
      have := (LL.ord_at (LL.right_ord hr) ha (show LL.ab xs a k = true from h)).1
      omega

/-- what is told of two levels, the order taken one way round -/
def bndE (xs : List Int) (t : Bool) (a b : Int) : Ending := .returned (.tuple #[.int .i64 (if inB5 xs a b = true then LL.joinI (beyL xs t) a.toNat b.toNat else 0), .bool (inB5 xs a b)])
theorem bndE_no {xs : List Int} {t : Bool} {a b : Int} (h : inB5 xs a b = false) : bndE xs t a b = .returned (.tuple #[.int .i64 0, .bool false]) := by
  unfold bndE; rw [h]; rfl
theorem bnd_yes {xs : List Int} (hr : LL.rightB xs = true) {a b : Nat} (t : Bool) (ha : a < xs.length) (hb : b < xs.length) : ∃ j : Nat, LL.joinI (beyL xs t) a b = (j : Int) ∧ bndE xs t a b = nearE (LL.joinI (beyL xs t) a b) := by
  have key : ∃ j : Nat, LL.joinI (beyL xs t) a b = (j : Int) := by
    cases t
    · exact ⟨_, (LL.joinN_is hr ha hb).2⟩
    · exact ⟨_, (LL.dual_join (LL.right_ord hr) ha hb).trans (LL.meetN_is hr ha hb).2⟩
  obtain ⟨j, hj⟩ := key
  refine ⟨j, hj, ?_⟩
  unfold bndE nearE
  rw [inB_yes hr ha hb, if_pos rfl, Int.toNat_natCast, Int.toNat_natCast, hj, if_pos (by omega), decide_eq_true (by omega)]

theorem meet_if {xs : List Int} {a b : Int} : (if inB5 xs a b = true then LL.joinI (beyL xs true) a.toNat b.toNat else 0) = (if inB5 xs a b = true then LL.meetI xs a.toNat b.toNat else 0) := by
  by_cases h : inB5 xs a b = true
  · rw [if_pos h, if_pos h]
    unfold inB5 at h
    simp only [Bool.and_eq_true, decide_eq_true_eq] at h
    exact LL.dual_join (LL.right_ord h.2.2) (by omega) (by omega)
  · rw [if_neg h, if_neg h]
end Go.Proofs.YtkoofibhddkpiaaDoor

/-! the walks of layer 5's Bottom, Top, Height -/
namespace Go.Proofs.YtkoofibhddkpiaaDoor
open Go.RowKit

/-- the end of a lattice, one way round -/
def endE (xs : List Int) (t : Bool) : Ending := .returned (.tuple #[.int .i64 (if LL.rightB xs = true then LL.endI (beyL xs t) else 0), .bool (LL.rightB xs)])
theorem end_yes {xs : List Int} (hr : LL.rightB xs = true) (hx : Wide xs) (t : Bool) : ∃ j : Nat, LL.endI (beyL xs t) = (j : Int) ∧ endE xs t = nearE (LL.endI (beyL xs t)) := by
  have key : ∃ j : Nat, LL.endI (beyL xs t) = (j : Int) := by
    cases t
    · obtain ⟨k, hk, h⟩ := LL.ex_end hr hx
      exact ⟨k, LL.endI_is hr hk h⟩
    · obtain ⟨k, hk, h⟩ := LL.ex_far hr hx
      exact ⟨k, (LL.dual_end (LL.right_ord hr)).trans (LL.farI_is hr hk h)⟩
  obtain ⟨j, hj⟩ := key
  refine ⟨j, hj, ?_⟩
  unfold endE nearE
  rw [hr, if_pos rfl, hj, if_pos (by omega), decide_eq_true (by omega)]
theorem far_if {xs : List Int} : (if LL.rightB xs = true then LL.endI (beyL xs true) else 0) = (if LL.rightB xs = true then LL.farI xs else 0) := by
  by_cases h : LL.rightB xs = true
  · rw [if_pos h, if_pos h]; exact LL.dual_end (LL.right_ord h)
  · rw [if_neg h, if_neg h]
theorem right5_c : RightC := fun v xs n₀ w hv hn hx hl hT => right5_any v xs n₀ w hv hn hx hl hT

end Go.Proofs.YtkoofibhddkpiaaDoor
