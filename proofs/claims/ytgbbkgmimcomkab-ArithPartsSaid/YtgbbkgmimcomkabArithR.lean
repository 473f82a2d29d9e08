import Derived.Test.YtgbbkgmimcomkabBase
/-! the walks of layer 4's reference: size, quotient, rest -/
namespace Go.Proofs.Ytgbbkgmimcomkab
set_option linter.unusedVariables false
open Go.RowKit

theorem wrap_u (x : Int) : wrap64 (IntKind.u64.wrap x) = wrap64 x := by rw [IntKind.wrap_u64]; unfold wrap64; omega
theorem wrap_nu (x : Int) : wrap64 (IntKind.u64.wrap (-IntKind.u64.wrap x)) = wrap64 (-x) := by rw [IntKind.wrap_u64, IntKind.wrap_u64]; unfold wrap64; omega
theorem size_neg (a : Int) (h0 : -9223372036854775808 ≤ a) (hn : a < 0) : IntKind.u64.wrap (-IntKind.u64.wrap a) = (a.natAbs : Int) := by
  rw [IntKind.wrap_u64, IntKind.wrap_u64]; omega
/-- the quotient cut towards 0, by sizes -/
theorem tdiv_same (a b : Int) (h : a < 0 ↔ b < 0) : a.tdiv b = (a.natAbs : Int) / (b.natAbs : Int) := by
  by_cases ha : a < 0
  · have hb := h.1 ha
    obtain ⟨A, rfl⟩ : ∃ A : Nat, a = -(A : Int) := ⟨a.natAbs, by omega⟩
    obtain ⟨B, rfl⟩ : ∃ B : Nat, b = -(B : Int) := ⟨b.natAbs, by omega⟩
    rw [Int.neg_tdiv, Int.tdiv_neg, Int.neg_neg]; simp
  · have hb : ¬ b < 0 := fun e => ha (h.2 e)
    obtain ⟨A, rfl⟩ : ∃ A : Nat, a = (A : Int) := ⟨a.natAbs, by omega⟩
    obtain ⟨B, rfl⟩ : ∃ B : Nat, b = (B : Int) := ⟨b.natAbs, by omega⟩
    simp
theorem tdiv_other (a b : Int) (h : ¬ (a < 0 ↔ b < 0)) : a.tdiv b = -((a.natAbs : Int) / (b.natAbs : Int)) := by
  by_cases ha : a < 0
  · have hb : ¬ b < 0 := fun e => h ⟨fun _ => e, fun _ => ha⟩
    obtain ⟨A, rfl⟩ : ∃ A : Nat, a = -(A : Int) := ⟨a.natAbs, by omega⟩
    obtain ⟨B, rfl⟩ : ∃ B : Nat, b = (B : Int) := ⟨b.natAbs, by omega⟩
    rw [Int.neg_tdiv]; simp
  · have hb : b < 0 := by
      rcases Int.lt_or_le b 0 with e | e
      · exact e
      · exact absurd ⟨fun x => absurd x ha, fun x => absurd x (by omega)⟩ h
    obtain ⟨A, rfl⟩ : ∃ A : Nat, a = (A : Int) := ⟨a.natAbs, by omega⟩
    obtain ⟨B, rfl⟩ : ∃ B : Nat, b = -(B : Int) := ⟨b.natAbs, by omega⟩
    rw [Int.tdiv_neg]; simp
theorem tmod_pos (a b : Int) (h : ¬ a < 0) : a.tmod b = (a.natAbs : Int) % (b.natAbs : Int) := by
  obtain ⟨A, rfl⟩ : ∃ A : Nat, a = (A : Int) := ⟨a.natAbs, by omega⟩
  by_cases hb : b < 0
  · obtain ⟨B, rfl⟩ : ∃ B : Nat, b = -(B : Int) := ⟨b.natAbs, by omega⟩
    rw [Int.tmod_neg, Int.tmod_eq_emod_of_nonneg (by omega)]; simp
  · obtain ⟨B, rfl⟩ : ∃ B : Nat, b = (B : Int) := ⟨b.natAbs, by omega⟩
    rw [Int.tmod_eq_emod_of_nonneg (by omega)]; simp
theorem tmod_neg' (a b : Int) (h : a < 0) : a.tmod b = -((a.natAbs : Int) % (b.natAbs : Int)) := by
  obtain ⟨A, rfl⟩ : ∃ A : Nat, a = -(A : Int) := ⟨a.natAbs, by omega⟩
  rw [Int.neg_tmod, tmod_pos (A : Int) b (by omega)]; simp

set_option maxHeartbeats 400000 in
theorem rsize_any (a : Int) (ha : (Lit.int .i64 a).wf = true) (w : World) :
    Calls Try.prog 30 #[.int .i64 a] w fun e w' => e = .returned (.int .u64 (a.natAbs : Int)) ∧ w' = w := by
  have ⟨h0, h1⟩ := wf_i64_bd ha
  clear ha
  by_cases hn : a < 0
  · have HS := Lib.hid (size_neg a h0 hn)
    go_enter Try.func30, Try.ntmps30
    go_wp2
    go_ret
    exact ⟨ret_int HS.out, rfl⟩
  · go_enter Try.func30, Try.ntmps30
    go_wp2
    go_ret
    exact ⟨ret_int (by omega), rfl⟩

set_option maxHeartbeats 800000 in
theorem rquot_any (a b : Int) (ha : (Lit.int .i64 a).wf = true) (hb : (Lit.int .i64 b).wf = true) (hz : b ≠ 0) (w : World) :
    Calls Try.prog 13 #[.int .i64 a, .int .i64 b] w fun e w' => e = .returned (.int .i64 (wrap64 (a.tdiv b))) ∧ w' = w := by
  have HA := Lib.hid ha
  have HB := Lib.hid hb
  have hz' : ((b.natAbs : Int) == 0) = false := by rw [beq_eq_false_iff_ne]; omega
  have hz2 : 1 ≤ b.natAbs := by omega
  clear ha hb
  by_cases hs : a < 0 ↔ b < 0
  · have HV := Lib.hid (tdiv_same a b hs)
    have hq : (decide (a < 0) == decide (b < 0)) = true := by rw [beq_iff_eq]; exact decide_eq_decide.2 hs
    clear hs
    go_enter Try.func13, Try.ntmps13
    go_wp2_with fail
    refine (rsize_any a HA.out _).mono ?_
    rintro e w1 ⟨rfl, rfl⟩
    go_wp2_with fail
    refine (rsize_any b HB.out _).mono ?_
    rintro e w1 ⟨rfl, rfl⟩
    go_wp2_with fail
    go_ret
    exact ⟨ret_int (by rw [HV.out, wrap_u]), rfl⟩
  · have HV := Lib.hid (tdiv_other a b hs)
    have hq : (decide (a < 0) == decide (b < 0)) = false := by rw [beq_eq_false_iff_ne]; exact fun e => hs (decide_eq_decide.1 e)
    clear hs
    go_enter Try.func13, Try.ntmps13
    go_wp2_with fail
    refine (rsize_any a HA.out _).mono ?_
    rintro e w1 ⟨rfl, rfl⟩
    go_wp2_with fail
    refine (rsize_any b HB.out _).mono ?_
    rintro e w1 ⟨rfl, rfl⟩
    go_wp2_with fail
    go_ret
    exact ⟨ret_int (by rw [HV.out, wrap_nu]), rfl⟩

set_option maxHeartbeats 800000 in
theorem rrest_any (a b : Int) (ha : (Lit.int .i64 a).wf = true) (hb : (Lit.int .i64 b).wf = true) (hz : b ≠ 0) (w : World) :
    Calls Try.prog 14 #[.int .i64 a, .int .i64 b] w fun e w' => e = .returned (.int .i64 (wrap64 (a.tmod b))) ∧ w' = w := by
  have HA := Lib.hid ha
  have HB := Lib.hid hb
  have hz' : ((b.natAbs : Int) == 0) = false := by rw [beq_eq_false_iff_ne]; omega
  have hz2 : 1 ≤ b.natAbs := by omega
  clear ha hb
  by_cases hs : a < 0
  · have HV := Lib.hid (tmod_neg' a b hs)
    go_enter Try.func14, Try.ntmps14
    go_wp2_with fail
    refine (rsize_any a HA.out _).mono ?_
    rintro e w1 ⟨rfl, rfl⟩
    go_wp2_with fail
    refine (rsize_any b HB.out _).mono ?_
    rintro e w1 ⟨rfl, rfl⟩
    go_wp2_with fail
    go_ret
    exact ⟨ret_int (by rw [HV.out, wrap_u]), rfl⟩
  · have HV := Lib.hid (tmod_pos a b hs)
    go_enter Try.func14, Try.ntmps14
    go_wp2_with fail
    refine (rsize_any a HA.out _).mono ?_
    rintro e w1 ⟨rfl, rfl⟩
    go_wp2_with fail
    refine (rsize_any b HB.out _).mono ?_
    rintro e w1 ⟨rfl, rfl⟩
    go_wp2_with fail
    go_ret
    exact ⟨ret_int (by rw [HV.out]), rfl⟩
end Go.Proofs.Ytgbbkgmimcomkab
