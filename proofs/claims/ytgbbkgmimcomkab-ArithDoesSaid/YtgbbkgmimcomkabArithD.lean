import Derived.Test.YtgbbkgmimcomkabArithB
/-! the walk of layer 4's reference: Do -/
namespace Go.Proofs.Ytgbbkgmimcomkab
set_option linter.unusedVariables false
open Go.RowKit

/-- what an operator makes of two numbers, and the number of an error -/
def doI (op a b : Int) : Int × Int :=
  if op < 1 ∨ 12 < op then (0, 1) else
  if (op = 4 ∨ op = 5) ∧ b = 0 then (0, 20) else
  if op = 1 then (wrap64 (a + b), 0) else if op = 2 then (wrap64 (a - b), 0) else if op = 3 then (wrap64 (a * b), 0) else
  if op = 4 then (wrap64 (a.tdiv b), 0) else if op = 5 then (wrap64 (a.tmod b), 0) else
  if op = 6 then (wrap64 (opN 6 (U a) (U b) : Int), 0) else if op = 7 then (wrap64 (opN 7 (U a) (U b) : Int), 0) else if op = 8 then (wrap64 (opN 8 (U a) (U b) : Int), 0) else
  if op = 9 then (wrap64 (a * 2 ^ (U b % 64)), 0) else if op = 10 then (a / 2 ^ (U b % 64), 0) else
  if op = 11 then (if a = b then 1 else 0, 0) else (if a < b then 1 else 0, 0)

theorem add_u (a b : Int) : wrap64 (IntKind.u64.wrap (IntKind.u64.wrap a + IntKind.u64.wrap b)) = wrap64 (a + b) := by
  rw [IntKind.wrap_u64, IntKind.wrap_u64, IntKind.wrap_u64]; unfold wrap64; omega
theorem sub_u (a b : Int) : wrap64 (IntKind.u64.wrap (IntKind.u64.wrap a - IntKind.u64.wrap b)) = wrap64 (a - b) := by
  rw [IntKind.wrap_u64, IntKind.wrap_u64, IntKind.wrap_u64]; unfold wrap64; omega
theorem mul_u (a b : Int) : wrap64 (IntKind.u64.wrap (IntKind.u64.wrap a * IntKind.u64.wrap b)) = wrap64 (a * b) := by
  rw [wrap_u, IntKind.wrap_u64, IntKind.wrap_u64]
  have h : (a % 18446744073709551616 * (b % 18446744073709551616)) % 18446744073709551616 = (a * b) % 18446744073709551616 := (Int.mul_emod a b _).symm
  unfold wrap64
  rw [← Int.emod_add_emod, h, Int.emod_add_emod]
theorem six_bits (b : Int) : wrap64 ((IntKind.u64.wrap b).tmod 64) = ((U b % 64 : Nat) : Int) := by
  rw [(U_eq b).1, Int.tmod_eq_emod_of_nonneg (by omega), IntWalk.wrap64_in _ (by omega)]; rfl
theorem ret_do {op a b x y : Int} (h : doI op a b = (x, y)) : Ending.returned (.tuple #[.int .i64 x, .int .i64 y]) = .returned (.tuple #[.int .i64 (doI op a b).1, .int .i64 (doI op a b).2]) := by rw [h]

set_option maxRecDepth 100000 in
set_option maxHeartbeats 1600000 in
theorem rdo_1 (a b : Int) (ha : (Lit.int .i64 a).wf = true) (hb : (Lit.int .i64 b).wf = true) (w : World) :
    Calls Try.prog 8 #[.int .u8 1, .int .i64 a, .int .i64 b] w fun e w' => e = .returned (.tuple #[.int .i64 (doI 1 a b).1, .int .i64 (doI 1 a b).2]) ∧ ∃ n, w' = w.drewN n := by
  have HV := Lib.hid (show doI 1 a b = (wrap64 (IntKind.u64.wrap (IntKind.u64.wrap a + IntKind.u64.wrap b)), 0) by rw [add_u]; rfl)
  clear ha hb
  go_enter Try.func8, Try.ntmps8
  go_wp2_with fail
  go_ret2
  exact ⟨ret_do HV.out, 0, rfl⟩

set_option maxRecDepth 100000 in
set_option maxHeartbeats 1600000 in
theorem rdo_2 (a b : Int) (ha : (Lit.int .i64 a).wf = true) (hb : (Lit.int .i64 b).wf = true) (w : World) :
    Calls Try.prog 8 #[.int .u8 2, .int .i64 a, .int .i64 b] w fun e w' => e = .returned (.tuple #[.int .i64 (doI 2 a b).1, .int .i64 (doI 2 a b).2]) ∧ ∃ n, w' = w.drewN n := by
  have HV := Lib.hid (show doI 2 a b = (wrap64 (IntKind.u64.wrap (IntKind.u64.wrap a - IntKind.u64.wrap b)), 0) by rw [sub_u]; rfl)
  clear ha hb
  go_enter Try.func8, Try.ntmps8
  go_wp2_with fail
  go_ret2
  exact ⟨ret_do HV.out, 0, rfl⟩

set_option maxRecDepth 100000 in
set_option maxHeartbeats 1600000 in
theorem rdo_3 (a b : Int) (ha : (Lit.int .i64 a).wf = true) (hb : (Lit.int .i64 b).wf = true) (w : World) :
    Calls Try.prog 8 #[.int .u8 3, .int .i64 a, .int .i64 b] w fun e w' => e = .returned (.tuple #[.int .i64 (doI 3 a b).1, .int .i64 (doI 3 a b).2]) ∧ ∃ n, w' = w.drewN n := by
  have HV := Lib.hid (show doI 3 a b = (wrap64 (IntKind.u64.wrap (IntKind.u64.wrap a * IntKind.u64.wrap b)), 0) by rw [mul_u]; rfl)
  clear ha hb
  go_enter Try.func8, Try.ntmps8
  go_wp2_with fail
  go_ret2
  exact ⟨ret_do HV.out, 0, rfl⟩

set_option maxRecDepth 100000 in
set_option maxHeartbeats 1600000 in
theorem rdo_4 (a b : Int) (ha : (Lit.int .i64 a).wf = true) (hb : (Lit.int .i64 b).wf = true) (hz : b ≠ 0) (w : World) :
    Calls Try.prog 8 #[.int .u8 4, .int .i64 a, .int .i64 b] w fun e w' => e = .returned (.tuple #[.int .i64 (doI 4 a b).1, .int .i64 (doI 4 a b).2]) ∧ ∃ n, w' = w.drewN n := by
  have HA := Lib.hid ha
  have HB := Lib.hid hb
  have HZ := Lib.hid hz
  have HV := Lib.hid (show doI 4 a b = (wrap64 (a.tdiv b), 0) by unfold doI; rw [if_neg (by decide), if_neg (fun e => hz e.2)]; rfl)
  have hq : (b == 0) = false := by rw [beq_eq_false_iff_ne]; exact hz
  clear ha hb hz
  go_enter Try.func8, Try.ntmps8
  go_wp2_with fail
  refine (rquot_any a b HA.out HB.out HZ.out _).mono ?_
  rintro e w1 ⟨rfl, rfl⟩
  go_wp2_with fail
  go_ret2
  exact ⟨ret_do HV.out, 0, rfl⟩

set_option maxRecDepth 100000 in
set_option maxHeartbeats 1600000 in
theorem rdo_4z (a b : Int) (ha : (Lit.int .i64 a).wf = true) (hb : (Lit.int .i64 b).wf = true) (hz : b = 0) (w : World) :
    Calls Try.prog 8 #[.int .u8 4, .int .i64 a, .int .i64 b] w fun e w' => e = .returned (.tuple #[.int .i64 (doI 4 a b).1, .int .i64 (doI 4 a b).2]) ∧ ∃ n, w' = w.drewN n := by
  have HV := Lib.hid (show doI 4 a b = (0, 20) by unfold doI; rw [if_neg (by decide), if_pos ⟨by decide, hz⟩])
  have hq : (b == 0) = true := by rw [beq_iff_eq]; exact hz
  clear ha hb hz
  go_enter Try.func8, Try.ntmps8
  go_wp2_with fail
  go_ret2
  exact ⟨ret_do HV.out, 0, rfl⟩

set_option maxRecDepth 100000 in
set_option maxHeartbeats 1600000 in
theorem rdo_5 (a b : Int) (ha : (Lit.int .i64 a).wf = true) (hb : (Lit.int .i64 b).wf = true) (hz : b ≠ 0) (w : World) :
    Calls Try.prog 8 #[.int .u8 5, .int .i64 a, .int .i64 b] w fun e w' => e = .returned (.tuple #[.int .i64 (doI 5 a b).1, .int .i64 (doI 5 a b).2]) ∧ ∃ n, w' = w.drewN n := by
  have HA := Lib.hid ha
  have HB := Lib.hid hb
  have HZ := Lib.hid hz
  have HV := Lib.hid (show doI 5 a b = (wrap64 (a.tmod b), 0) by unfold doI; rw [if_neg (by decide), if_neg (fun e => hz e.2)]; rfl)
  have hq : (b == 0) = false := by rw [beq_eq_false_iff_ne]; exact hz
  clear ha hb hz
  go_enter Try.func8, Try.ntmps8
  go_wp2_with fail
  refine (rrest_any a b HA.out HB.out HZ.out _).mono ?_
  rintro e w1 ⟨rfl, rfl⟩
  go_wp2_with fail
  go_ret2
  exact ⟨ret_do HV.out, 0, rfl⟩

set_option maxRecDepth 100000 in
set_option maxHeartbeats 1600000 in
theorem rdo_5z (a b : Int) (ha : (Lit.int .i64 a).wf = true) (hb : (Lit.int .i64 b).wf = true) (hz : b = 0) (w : World) :
    Calls Try.prog 8 #[.int .u8 5, .int .i64 a, .int .i64 b] w fun e w' => e = .returned (.tuple #[.int .i64 (doI 5 a b).1, .int .i64 (doI 5 a b).2]) ∧ ∃ n, w' = w.drewN n := by
  have HV := Lib.hid (show doI 5 a b = (0, 20) by unfold doI; rw [if_neg (by decide), if_pos ⟨by decide, hz⟩])
  have hq : (b == 0) = true := by rw [beq_iff_eq]; exact hz
  clear ha hb hz
  go_enter Try.func8, Try.ntmps8
  go_wp2_with fail
  go_ret2
  exact ⟨ret_do HV.out, 0, rfl⟩

set_option maxRecDepth 100000 in
set_option maxHeartbeats 1600000 in
theorem rdo_6 (a b : Int) (ha : (Lit.int .i64 a).wf = true) (hb : (Lit.int .i64 b).wf = true) (w : World) :
    Calls Try.prog 8 #[.int .u8 6, .int .i64 a, .int .i64 b] w fun e w' => e = .returned (.tuple #[.int .i64 (doI 6 a b).1, .int .i64 (doI 6 a b).2]) ∧ ∃ n, w' = w.drewN n := by
  have HV := Lib.hid (show doI 6 a b = (wrap64 (opN 6 (U a) (U b) : Int), 0) from rfl)
  clear ha hb
  go_enter Try.func8, Try.ntmps8
  go_wp2_with fail
  refine (rbits_and a b _).mono ?_
  rintro e w1 ⟨rfl, n, rfl⟩
  go_wp2_with fail
  go_ret2
  exact ⟨ret_do HV.out, _, rfl⟩

set_option maxRecDepth 100000 in
set_option maxHeartbeats 1600000 in
theorem rdo_7 (a b : Int) (ha : (Lit.int .i64 a).wf = true) (hb : (Lit.int .i64 b).wf = true) (w : World) :
    Calls Try.prog 8 #[.int .u8 7, .int .i64 a, .int .i64 b] w fun e w' => e = .returned (.tuple #[.int .i64 (doI 7 a b).1, .int .i64 (doI 7 a b).2]) ∧ ∃ n, w' = w.drewN n := by
  have HV := Lib.hid (show doI 7 a b = (wrap64 (opN 7 (U a) (U b) : Int), 0) from rfl)
  clear ha hb
  go_enter Try.func8, Try.ntmps8
  go_wp2_with fail
  refine (rbits_or a b _).mono ?_
  rintro e w1 ⟨rfl, n, rfl⟩
  go_wp2_with fail
  go_ret2
  exact ⟨ret_do HV.out, _, rfl⟩

set_option maxRecDepth 100000 in
set_option maxHeartbeats 1600000 in
theorem rdo_8 (a b : Int) (ha : (Lit.int .i64 a).wf = true) (hb : (Lit.int .i64 b).wf = true) (w : World) :
    Calls Try.prog 8 #[.int .u8 8, .int .i64 a, .int .i64 b] w fun e w' => e = .returned (.tuple #[.int .i64 (doI 8 a b).1, .int .i64 (doI 8 a b).2]) ∧ ∃ n, w' = w.drewN n := by
  have HV := Lib.hid (show doI 8 a b = (wrap64 (opN 8 (U a) (U b) : Int), 0) from rfl)
  clear ha hb
  go_enter Try.func8, Try.ntmps8
  go_wp2_with fail
  refine (rbits_xor a b _).mono ?_
  rintro e w1 ⟨rfl, n, rfl⟩
  go_wp2_with fail
  go_ret2
  exact ⟨ret_do HV.out, _, rfl⟩

set_option maxRecDepth 100000 in
set_option maxHeartbeats 1600000 in
theorem rdo_9 (a b : Int) (ha : (Lit.int .i64 a).wf = true) (hb : (Lit.int .i64 b).wf = true) (w : World) :
    Calls Try.prog 8 #[.int .u8 9, .int .i64 a, .int .i64 b] w fun e w' => e = .returned (.tuple #[.int .i64 (doI 9 a b).1, .int .i64 (doI 9 a b).2]) ∧ ∃ n, w' = w.drewN n := by
  have HA := Lib.hid ha
  have HV := Lib.hid (show doI 9 a b = (wrap64 (a * 2 ^ (U b % 64)), 0) from rfl)
  have HS := Lib.hid (six_bits b)
  have HB := Lib.hid (show 0 ≤ IntKind.u64.wrap b ∧ IntKind.u64.wrap b ≤ 18446744073709551615 by have := U_eq b; omega)
  clear ha hb
  go_enter Try.func8, Try.ntmps8
  go_wp2_with fail
  rw [HS.out]
  refine (rshl_any a (U b % 64) HA.out (Nat.mod_lt _ (by decide)) _).mono ?_
  rintro e w1 ⟨rfl, rfl⟩
  go_wp2_with fail
  go_ret2
  exact ⟨ret_do HV.out, 0, rfl⟩

set_option maxRecDepth 100000 in
set_option maxHeartbeats 1600000 in
theorem rdo_10 (a b : Int) (ha : (Lit.int .i64 a).wf = true) (hb : (Lit.int .i64 b).wf = true) (w : World) :
    Calls Try.prog 8 #[.int .u8 10, .int .i64 a, .int .i64 b] w fun e w' => e = .returned (.tuple #[.int .i64 (doI 10 a b).1, .int .i64 (doI 10 a b).2]) ∧ ∃ n, w' = w.drewN n := by
  have HA := Lib.hid ha
  have HV := Lib.hid (show doI 10 a b = (a / 2 ^ (U b % 64), 0) from rfl)
  have HS := Lib.hid (six_bits b)
  have HB := Lib.hid (show 0 ≤ IntKind.u64.wrap b ∧ IntKind.u64.wrap b ≤ 18446744073709551615 by have := U_eq b; omega)
  clear ha hb
  go_enter Try.func8, Try.ntmps8
  go_wp2_with fail
  rw [HS.out]
  refine (rshr_any a (U b % 64) HA.out (Nat.mod_lt _ (by decide)) _).mono ?_
  rintro e w1 ⟨rfl, rfl⟩
  go_wp2_with fail
  go_ret2
  exact ⟨ret_do HV.out, 0, rfl⟩

set_option maxRecDepth 100000 in
set_option maxHeartbeats 1600000 in
theorem rdo_11y (a b : Int) (ha : (Lit.int .i64 a).wf = true) (hb : (Lit.int .i64 b).wf = true) (hr : (a == b) = true) (w : World) :
    Calls Try.prog 8 #[.int .u8 11, .int .i64 a, .int .i64 b] w fun e w' => e = .returned (.tuple #[.int .i64 (doI 11 a b).1, .int .i64 (doI 11 a b).2]) ∧ ∃ n, w' = w.drewN n := by
  have HV := Lib.hid (show doI 11 a b = (1, 0) by show (if a = b then (1 : Int) else 0, (0 : Int)) = _; exact by rw [if_pos (beq_iff_eq.1 hr)])
  clear ha hb
  go_enter Try.func8, Try.ntmps8
  go_wp2_with fail
  go_ret2
  exact ⟨ret_do HV.out, 0, rfl⟩

set_option maxRecDepth 100000 in
set_option maxHeartbeats 1600000 in
theorem rdo_11n (a b : Int) (ha : (Lit.int .i64 a).wf = true) (hb : (Lit.int .i64 b).wf = true) (hr : (a == b) = false) (w : World) :
    Calls Try.prog 8 #[.int .u8 11, .int .i64 a, .int .i64 b] w fun e w' => e = .returned (.tuple #[.int .i64 (doI 11 a b).1, .int .i64 (doI 11 a b).2]) ∧ ∃ n, w' = w.drewN n := by
  have HV := Lib.hid (show doI 11 a b = (0, 0) by show (if a = b then (1 : Int) else 0, (0 : Int)) = _; exact by rw [if_neg (beq_eq_false_iff_ne.1 hr)])
  clear ha hb
  go_enter Try.func8, Try.ntmps8
  go_wp2_with fail
  go_ret2
  exact ⟨ret_do HV.out, 0, rfl⟩

set_option maxRecDepth 100000 in
set_option maxHeartbeats 1600000 in
theorem rdo_12y (a b : Int) (ha : (Lit.int .i64 a).wf = true) (hb : (Lit.int .i64 b).wf = true) (hr : a < b) (w : World) :
    Calls Try.prog 8 #[.int .u8 12, .int .i64 a, .int .i64 b] w fun e w' => e = .returned (.tuple #[.int .i64 (doI 12 a b).1, .int .i64 (doI 12 a b).2]) ∧ ∃ n, w' = w.drewN n := by
  have HV := Lib.hid (show doI 12 a b = (1, 0) by show (if a < b then (1 : Int) else 0, (0 : Int)) = _; exact by rw [if_pos hr])
  clear ha hb
  go_enter Try.func8, Try.ntmps8
  go_wp2_with fail
  go_ret2
  exact ⟨ret_do HV.out, 0, rfl⟩

set_option maxRecDepth 100000 in
set_option maxHeartbeats 1600000 in
theorem rdo_12n (a b : Int) (ha : (Lit.int .i64 a).wf = true) (hb : (Lit.int .i64 b).wf = true) (hr : ¬ a < b) (w : World) :
    Calls Try.prog 8 #[.int .u8 12, .int .i64 a, .int .i64 b] w fun e w' => e = .returned (.tuple #[.int .i64 (doI 12 a b).1, .int .i64 (doI 12 a b).2]) ∧ ∃ n, w' = w.drewN n := by
  have HV := Lib.hid (show doI 12 a b = (0, 0) by show (if a < b then (1 : Int) else 0, (0 : Int)) = _; exact by rw [if_neg hr])
  clear ha hb
  go_enter Try.func8, Try.ntmps8
  go_wp2_with fail
  go_ret2
  exact ⟨ret_do HV.out, 0, rfl⟩

set_option maxRecDepth 100000 in
set_option maxHeartbeats 1600000 in
theorem rdo_out (op a b : Int) (ho : op < 1 ∨ 12 < op) (h0 : 0 ≤ op) (h1 : op ≤ 255) (ha : (Lit.int .i64 a).wf = true) (hb : (Lit.int .i64 b).wf = true)  (w : World) :
    Calls Try.prog 8 #[.int .u8 op, .int .i64 a, .int .i64 b] w fun e w' => e = .returned (.tuple #[.int .i64 (doI op a b).1, .int .i64 (doI op a b).2]) ∧ ∃ n, w' = w.drewN n := by
  have HV := Lib.hid (show doI op a b = (0, 1) by unfold doI; rw [if_pos ho])
  clear ha hb
  rcases ho with ho | ho
  · go_enter Try.func8, Try.ntmps8
    go_wp2_with fail
    go_ret2
    exact ⟨ret_do HV.out, 0, rfl⟩
  · have h2 : 1 ≤ op := by omega
    go_enter Try.func8, Try.ntmps8
    go_wp2_with fail
    go_ret2
    exact ⟨ret_do HV.out, 0, rfl⟩

/-- the reference's Do, whatever its arguments -/
theorem rdo_any (op a b : Int) (h0 : 0 ≤ op) (h1 : op ≤ 255) (ha : (Lit.int .i64 a).wf = true) (hb : (Lit.int .i64 b).wf = true) (w : World) :
    Calls Try.prog 8 #[.int .u8 op, .int .i64 a, .int .i64 b] w fun e w' => e = .returned (.tuple #[.int .i64 (doI op a b).1, .int .i64 (doI op a b).2]) ∧ ∃ n, w' = w.drewN n := by
  by_cases ho : op < 1 ∨ 12 < op
  · exact rdo_out op a b ho h0 h1 ha hb w
  · rcases (show op = 1 ∨ op = 2 ∨ op = 3 ∨ op = 4 ∨ op = 5 ∨ op = 6 ∨ op = 7 ∨ op = 8 ∨ op = 9 ∨ op = 10 ∨ op = 11 ∨ op = 12 by omega) with rfl | rfl | rfl | rfl | rfl | rfl | rfl | rfl | rfl | rfl | rfl | rfl
    · exact rdo_1 a b ha hb w
    · exact rdo_2 a b ha hb w
    · exact rdo_3 a b ha hb w
    · by_cases hz : b = 0
      · exact rdo_4z a b ha hb hz w
      · exact rdo_4 a b ha hb hz w
    · by_cases hz : b = 0
      · exact rdo_5z a b ha hb hz w
      · exact rdo_5 a b ha hb hz w
    · exact rdo_6 a b ha hb w
    · exact rdo_7 a b ha hb w
    · exact rdo_8 a b ha hb w
    · exact rdo_9 a b ha hb w
    · exact rdo_10 a b ha hb w
    · cases hr : (a == b)
      · exact rdo_11n a b ha hb hr w
      · exact rdo_11y a b ha hb hr w
    · by_cases hr : a < b
      · exact rdo_12y a b ha hb hr w
      · exact rdo_12n a b ha hb hr w
end Go.Proofs.Ytgbbkgmimcomkab
