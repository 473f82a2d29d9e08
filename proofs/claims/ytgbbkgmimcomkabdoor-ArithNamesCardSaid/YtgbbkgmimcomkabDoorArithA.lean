import Derived.Test.YtgbbkgmimcomkabDoorArithQ
/-! layer 4's statements: awake, do; what the laws say, on numbers -/
namespace Go.Proofs.YtgbbkgmimcomkabDoor
set_option linter.unusedVariables false
open Go.RowKit

theorem wfC {a : Int} (h0 : -9223372036854775808 ≤ a) (h1 : a ≤ 9223372036854775807) : (Lit.int .i64 a).wf = true := wf_i64_mk h0 h1
set_option maxHeartbeats 800000 in
theorem awake_any (w : World) :
    Calls Tryd.prog 10 #[] w fun e w' => e = .returned (.bool true) ∧ Below w.heap.size w w' := by
  have e4 : doI 4 (-7) 2 = (-3, 0) := by decide +kernel
  have e5 : doI 5 (-7) 2 = (-1, 0) := by decide +kernel
  have H4 := Lib.hid e4
  have H5 := Lib.hid e5
  clear e4 e5
  go_enter Tryd.func10, Tryd.ntmps10
  go_wp2_with fail
  refine (do_any 4 (-7) 2 (by decide) (by decide) (by decide) (by decide) _).mono ?_
  rintro e w1 ⟨rfl, hb1⟩
  rw [H4.out]
  go_wp2_with fail
  refine (do_any 5 (-7) 2 (by decide) (by decide) (by decide) (by decide) _).mono ?_
  rintro e w2 ⟨rfl, hb2⟩
  rw [H5.out]
  go_wp2_with fail
  go_ret
  exact ⟨rfl, bstep hb1 hb2⟩

/-- an operator's answer, or 0 -/
def dA (op a b : Int) : Int := (doI op a b).1
theorem wrap_bd (x : Int) : -9223372036854775808 ≤ wrap64 x ∧ wrap64 x ≤ 9223372036854775807 := by unfold wrap64; omega
theorem bd_ite {c : Prop} [Decidable c] {x y : Int × Int} (hx : -9223372036854775808 ≤ x.1 ∧ x.1 ≤ 9223372036854775807) (hy : -9223372036854775808 ≤ y.1 ∧ y.1 ≤ 9223372036854775807) :
    -9223372036854775808 ≤ (if c then x else y).1 ∧ (if c then x else y).1 ≤ 9223372036854775807 := by split <;> assumption
theorem dA_bd (op a b : Int) (ha : (Lit.int .i64 a).wf = true) : -9223372036854775808 ≤ dA op a b ∧ dA op a b ≤ 9223372036854775807 := by
  have h := wf_i64_bd ha
  have z : -9223372036854775808 ≤ ((0 : Int), (1 : Int)).1 ∧ ((0 : Int), (1 : Int)).1 ≤ 9223372036854775807 := by decide
  have hw : ∀ x : Int, -9223372036854775808 ≤ (wrap64 x, (0 : Int)).1 ∧ (wrap64 x, (0 : Int)).1 ≤ 9223372036854775807 := fun x => wrap_bd x
  unfold dA doI
  refine bd_ite z (bd_ite (by decide) (bd_ite (hw _) (bd_ite (hw _) (bd_ite (hw _) (bd_ite (hw _) (bd_ite (hw _) (bd_ite (hw _) (bd_ite (hw _) (bd_ite (hw _) (bd_ite (hw _) (bd_ite (shr_bd a _ h.1 h.2) (bd_ite ?_ ?_))))))))))))
  · show -9223372036854775808 ≤ (if a = b then (1 : Int) else 0) ∧ (if a = b then (1 : Int) else 0) ≤ 9223372036854775807
    split <;> decide
  · show -9223372036854775808 ≤ (if a < b then (1 : Int) else 0) ∧ (if a < b then (1 : Int) else 0) ≤ 9223372036854775807
    split <;> decide
theorem dA_wf (op a b : Int) (ha : (Lit.int .i64 a).wf = true) : (Lit.int .i64 (dA op a b)).wf = true := wfC (dA_bd op a b ha).1 (dA_bd op a b ha).2

set_option maxHeartbeats 800000 in
theorem ldo_any (op a b : Int) (h0 : 0 ≤ op) (h1 : op ≤ 255) (ha : (Lit.int .i64 a).wf = true) (hb : (Lit.int .i64 b).wf = true) (w : World) :
    Calls Tryd.prog 11 #[.int .u8 op, .int .i64 a, .int .i64 b] w fun e w' => e = .returned (.int .i64 (dA op a b)) ∧ Below w.heap.size w w' := by
  have HA := Lib.hid ha
  have HB := Lib.hid hb
  have H0 := Lib.hid h0
  have H1 := Lib.hid h1
  clear ha hb h0 h1
  go_enter Tryd.func11, Tryd.ntmps11
  go_wp2_with fail
  refine (do_any op a b H0.out H1.out HA.out HB.out _).mono ?_
  rintro e w1 ⟨rfl, hb1⟩
  go_wp2_with fail
  go_ret
  exact ⟨rfl, hb1⟩

/-! on numbers -/
theorem w_add (x y : Int) : wrap64 (wrap64 x + y) = wrap64 (x + y) := by unfold wrap64; omega
theorem w_add' (x y : Int) : wrap64 (x + wrap64 y) = wrap64 (x + y) := by unfold wrap64; omega
theorem w_ex (x : Int) : ∃ k : Int, wrap64 x = x + 18446744073709551616 * k := ⟨-((x + 9223372036854775808) / 18446744073709551616), by unfold wrap64; omega⟩
theorem w_mul (x y : Int) : wrap64 (wrap64 x * y) = wrap64 (x * y) := by
  obtain ⟨k, hk⟩ := w_ex x
  rw [hk, Int.add_mul, Int.mul_assoc]
  generalize k * y = z
  generalize x * y = u
  unfold wrap64; omega
theorem w_mul' (x y : Int) : wrap64 (x * wrap64 y) = wrap64 (x * y) := by rw [Int.mul_comm, w_mul, Int.mul_comm]
theorem w_id {x : Int} (h : (Lit.int .i64 x).wf = true) : wrap64 x = x := IntWalk.wrap64_in _ (wf_i64_bd h)

theorem d1 (a b : Int) : dA 1 a b = wrap64 (a + b) := rfl
theorem d2 (a b : Int) : dA 2 a b = wrap64 (a - b) := rfl
theorem d3 (a b : Int) : dA 3 a b = wrap64 (a * b) := rfl
theorem d4 (a b : Int) (hz : b ≠ 0) : dA 4 a b = wrap64 (a.tdiv b) := by unfold dA doI; rw [if_neg (by decide), if_neg (fun e => hz e.2)]; rfl
theorem d5 (a b : Int) (ha : (Lit.int .i64 a).wf = true) (hb : (Lit.int .i64 b).wf = true) (hz : b ≠ 0) : dA 5 a b = a.tmod b := by
  rw [← tmod_in a b ha hb hz]; unfold dA doI; rw [if_neg (by decide), if_neg (fun e => hz e.2)]; rfl
theorem d6 (a b : Int) : dA 6 a b = wrap64 (opN 6 (U a) (U b) : Int) := rfl
theorem d7 (a b : Int) : dA 7 a b = wrap64 (opN 7 (U a) (U b) : Int) := rfl
theorem d8 (a b : Int) : dA 8 a b = wrap64 (opN 8 (U a) (U b) : Int) := rfl
theorem d9 (a b : Int) : dA 9 a b = wrap64 (a * 2 ^ (U b % 64)) := rfl
theorem d10 (a b : Int) : dA 10 a b = a / 2 ^ (U b % 64) := rfl
theorem d11 (a b : Int) : dA 11 a b = eqI a b := rfl
theorem d12 (a b : Int) : dA 12 a b = lessI a b := rfl

theorem parts_sum (a b : Int) (ha : (Lit.int .i64 a).wf = true) (hb : (Lit.int .i64 b).wf = true) (hz : b ≠ 0) : dA 1 (dA 3 (dA 4 a b) b) (dA 5 a b) = a := by
  rw [d1, d3, d4 a b hz, d5 a b ha hb hz, w_mul, w_add, Int.mul_comm]
  rw [Int.mul_tdiv_add_tmod]
  exact w_id ha
theorem rest_sign (a b : Int) (h : a.tmod b ≠ 0) : (decide (a.tmod b < 0) != decide (a < 0)) = false := by
  have e : decide (a.tmod b < 0) = decide (a < 0) := by
    by_cases h0 : 0 ≤ a
    · have := Int.tmod_nonneg b h0
      rw [decide_eq_false (by omega), decide_eq_false (by omega)]
    · have h1 : 0 ≤ (-a).tmod b := Int.tmod_nonneg b (by omega)
      rw [Int.neg_tmod] at h1
      rw [decide_eq_true (by omega), decide_eq_true (by omega)]
  rw [e]; cases decide (a < 0) <;> rfl
theorem rest_small (a b : Int) (hz : b ≠ 0) : (a.tmod b < b ∨ a.tmod b < -b) ∧ (b < a.tmod b ∨ -b < a.tmod b) := by
  have e : (a.tmod b).natAbs < b.natAbs := by rw [Int.natAbs_tmod]; exact Nat.mod_lt _ (by omega)
  omega
theorem ring_add (a b : Int) : dA 1 a b = dA 1 b a := by rw [d1, d1, Int.add_comm]
theorem ring_mul (a b : Int) : dA 3 a b = dA 3 b a := by rw [d3, d3, Int.mul_comm]
theorem ring_sub (a b : Int) (ha : (Lit.int .i64 a).wf = true) : dA 1 (dA 2 a b) b = a := by
  rw [d1, d2, w_add, Int.sub_add_cancel, w_id ha]
theorem ring_dist (a b c : Int) : dA 3 a (dA 1 b c) = dA 1 (dA 3 a b) (dA 3 a c) := by
  rw [d3, d1, d1, d3, d3, w_mul', w_add, w_add', Int.mul_add]
theorem U_wrap (n : Nat) (h : n < 18446744073709551616) : U (wrap64 (n : Int)) = n := by
  unfold U; rw [IntKind.wrap_u64]; unfold wrap64; omega
theorem and_lt (x y : Nat) (h : x < 18446744073709551616) : x &&& y < 18446744073709551616 := Nat.lt_of_le_of_lt Nat.and_le_left h
theorem xor_lt (x y : Nat) (h : x < 18446744073709551616) (h' : y < 18446744073709551616) : x ^^^ y < 18446744073709551616 := Nat.xor_lt_two_pow (n := 64) h h'
theorem opN_6 (x y : Nat) : opN 6 x y = x &&& y := by unfold opN; rw [if_neg (by decide), if_neg (by decide)]
theorem opN_7 (x y : Nat) : opN 7 x y = x ||| y := by unfold opN; rw [if_pos rfl]
theorem opN_8 (x y : Nat) : opN 8 x y = x ^^^ y := by unfold opN; rw [if_neg (by decide), if_pos rfl]
theorem bit_or (a b : Int) : dA 7 a b = dA 8 (dA 6 a b) (dA 8 a b) := by
  have hx := (U_eq a).2
  have hy := (U_eq b).2
  rw [d7, d8, d6, d8]
  simp only [opN_7, opN_6, opN_8]
  rw [U_wrap _ (and_lt _ _ hx), U_wrap _ (xor_lt _ _ hx hy)]
  have e : (U a ||| U b) = (U a &&& U b) ^^^ (U a ^^^ U b) := by
    apply Nat.eq_of_testBit_eq
    intro j
    rw [Nat.testBit_or, Nat.testBit_xor, Nat.testBit_and, Nat.testBit_xor]
    cases (U a).testBit j <;> cases (U b).testBit j <;> rfl
  rw [e]
theorem bit_and (a b : Int) : dA 6 (dA 6 a b) a = dA 6 a b := by
  have hx := (U_eq a).2
  rw [d6, d6]
  simp only [opN_6]
  rw [U_wrap _ (and_lt _ _ hx)]
  have e : (U a &&& U b) &&& U a = U a &&& U b := by
    apply Nat.eq_of_testBit_eq
    intro j
    rw [Nat.testBit_and, Nat.testBit_and]
    cases (U a).testBit j <;> cases (U b).testBit j <;> rfl
  rw [e]
theorem U_63b (b : Int) : U (bits .and .i64 b 63) % 64 = U b % 64 := by
  rw [and63i]
  have h : U b % 64 < 64 := Nat.mod_lt _ (by decide)
  have e : U ((U b % 64 : Nat) : Int) = U b % 64 := by
    unfold U; rw [IntKind.wrap_u64]; omega
  rw [e]; omega
theorem bit_shl (a b : Int) : dA 9 a b = dA 3 a (dA 9 1 (bits .and .i64 b 63)) := by
  rw [d9, d3, d9, U_63b, w_mul', Int.one_mul]
theorem bit_shr (a b : Int) : dA 10 a b = dA 10 a (bits .and .i64 b 63) := by rw [d10, d10, U_63b]
theorem wf_63 (b : Int) : (Lit.int .i64 (bits .and .i64 b 63)).wf = true := by
  rw [and63i]; exact wfC (by omega) (by have : U b % 64 < 64 := Nat.mod_lt _ (by decide); omega)
theorem ord_one (a b : Int) : lessI a b + eqI a b + lessI b a = 1 := by
  unfold lessI eqI
  by_cases h1 : a < b
  · rw [if_pos h1, if_neg (by omega), if_neg (by omega)]; rfl
  · by_cases h2 : a = b
    · rw [if_neg h1, if_pos h2, if_neg (by omega)]; rfl
    · rw [if_neg h1, if_neg h2, if_pos (by omega)]; rfl
end Go.Proofs.YtgbbkgmimcomkabDoor
