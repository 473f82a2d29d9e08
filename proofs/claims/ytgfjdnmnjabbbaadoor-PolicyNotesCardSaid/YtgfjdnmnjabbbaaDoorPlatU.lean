import Derived.Test.YtgfjdnmnjabbbaaDoorPlatR
import Derived.Test.YtgfjdnmnjabbbaaDoorLatAll
set_option linter.unusedSimpArgs false
set_option linter.unusedVariables false
/-! the walks of layer 5's Leq, Join, Meet, Bottom, Top, Height -/
namespace Go.Proofs.YtgfjdnmnjabbbaaDoor
open Go.RowKit

theorem lev_nat {a : Int} {n : Nat} (h : (decide (0 ≤ a) && decide (a < n)) = true) : ∃ k : Nat, a = (k : Int) ∧ k < n := by
  rw [Bool.and_eq_true, decide_eq_true_eq, decide_eq_true_eq] at h
  exact ⟨a.toNat, by omega, by omega⟩
theorem inB_a {xs : List Int} {a b : Int} (h : (decide (0 ≤ a) && decide (a < xs.length)) = false) : inB5 xs a b = false := by unfold inB5; rw [h]; rfl
theorem inB_b {xs : List Int} {a b : Int} (h : (decide (0 ≤ b) && decide (b < xs.length)) = false) : inB5 xs a b = false := by unfold inB5; rw [h, Bool.false_and, Bool.and_false]
theorem inB_r {xs : List Int} {a b : Int} (h : LL.rightB xs = false) : inB5 xs a b = false := by unfold inB5; rw [h, Bool.and_false, Bool.and_false]
theorem leq_is {xs : List Int} (hr : LL.rightB xs = true) {a : Nat} (ha : a < xs.length) (b : Int) : (inB5 xs a b && LL.ab xs (a : Int).toNat b.toNat) = MM.hasB (xs[a]?.getD 0) b := by
  have hl := (LL.ord_len (LL.right_ord hr)).2
  by_cases hb : 0 ≤ b ∧ b < xs.length
  · obtain ⟨k, rfl⟩ : ∃ k : Nat, b = k := ⟨b.toNat, by omega⟩
    rw [inB_yes hr ha (by omega), Bool.true_and, Int.toNat_natCast, Int.toNat_natCast]; rfl
  · rw [inB_b (by rw [Bool.and_eq_false_iff, decide_eq_false_iff_not, decide_eq_false_iff_not]; omega), Bool.false_and]
    cases h : MM.hasB (xs[a]?.getD 0) b
    · rfl
    · exfalso
      have h64 : 0 ≤ b ∧ b < 64 := by
        unfold MM.hasB at h
        rw [Bool.and_eq_true, decide_eq_true_eq] at h
        exact h.1
      obtain ⟨k, rfl⟩ : ∃ k : Nat, b = k := ⟨b.toNat, by omega⟩
      have := (LL.ord_at (LL.right_ord hr) ha (show LL.ab xs a k = true from h)).1
      omega

/-- what is told of two levels, the order taken one way round -/
def bndE (xs : List Int) (t : Bool) (a b : Int) : Ending := .returned (.tuple #[.int .i64 (if inB5 xs a b = true then LL.joinI (beyL xs t) a.toNat b.toNat else 0), .bool (inB5 xs a b)])
theorem bndE_no {xs : List Int} {t : Bool} {a b : Int} (h : inB5 xs a b = false) : bndE xs t a b = .returned (.tuple #[.int .i64 0, .bool false]) := by
  unfold bndE; rw [h]; rfl
theorem bnd_yes {xs : List Int} (hr : LL.rightB xs = true) {a b : Nat} (t : Bool) (ha : a < xs.length) (hb : b < xs.length) : ∃ j : Nat, LL.joinI (beyL xs t) a b = (j : Int) ∧ bndE xs t a b = nearE (LL.joinI (beyL xs t) a b) := by
  have key : ∃ j : Nat, LL.joinI (beyL xs t) a b = (j : Int) := by
    cases t
    · exact ⟨_, (LL.joinN_is hr ha hb).2⟩
    · exact ⟨_, (LL.dual_join (LL.right_ord hr) ha hb).trans (LL.meetN_is hr ha hb).2⟩
  obtain ⟨j, hj⟩ := key
  refine ⟨j, hj, ?_⟩
  unfold bndE nearE
  rw [inB_yes hr ha hb, if_pos rfl, Int.toNat_natCast, Int.toNat_natCast, hj, if_pos (by omega), decide_eq_true (by omega)]

theorem meet_if {xs : List Int} {a b : Int} : (if inB5 xs a b = true then LL.joinI (beyL xs true) a.toNat b.toNat else 0) = (if inB5 xs a b = true then LL.meetI xs a.toNat b.toNat else 0) := by
  by_cases h : inB5 xs a b = true
  · rw [if_pos h, if_pos h]
    unfold inB5 at h
    simp only [Bool.and_eq_true, decide_eq_true_eq] at h
    exact LL.dual_join (LL.right_ord h.2.2) (by omega) (by omega)
  · rw [if_neg h, if_neg h]
end Go.Proofs.YtgfjdnmnjabbbaaDoor
