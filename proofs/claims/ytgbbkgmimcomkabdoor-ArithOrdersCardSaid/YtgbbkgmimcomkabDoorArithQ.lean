import Derived.Test.YtgbbkgmimcomkabDoorArithO
/-! layer 4: the project's Do -/
namespace Go.Proofs.YtgbbkgmimcomkabDoor
set_option linter.unusedVariables false
open Go.RowKit
theorem ret_doP {op a b x y : Int} (h : doI op a b = (x, y)) : Ending.returned (.tuple #[.int .i64 x, .int .i64 y]) = .returned (.tuple #[.int .i64 (doI op a b).1, .int .i64 (doI op a b).2]) := by rw [h]
theorem eql_fn (g : Nat) (w : World) : (Go.binOp .eql 37 (.func (.func g) #[] #[]) .nilFunc).run Tryd.prog w = .ok (.bool false) w := by rfl
theorem eql_nil (w : World) : (Go.binOp .eql 37 .nilFunc .nilFunc).run Tryd.prog w = .ok (.bool true) w := by rfl
theorem doesD_out (op : Int) (h : op < 1 ∨ 12 < op) : doesD.atKey (k8 op) (.nil : DataW Unit) = .nil := by
  have hne : ∀ k : Int, 1 ≤ k → k ≤ 12 → k8 op ≠ k8 k := fun k h1 h2 e => by
    have : op = k := by injection e
    omega
  unfold doesD
  rw [Go.Maps.atKey_put_other (hne 12 (by decide) (by decide))]
  rw [Go.Maps.atKey_put_other (hne 11 (by decide) (by decide))]
  rw [Go.Maps.atKey_put_other (hne 10 (by decide) (by decide))]
  rw [Go.Maps.atKey_put_other (hne 9 (by decide) (by decide))]
  rw [Go.Maps.atKey_put_other (hne 8 (by decide) (by decide))]
  rw [Go.Maps.atKey_put_other (hne 7 (by decide) (by decide))]
  rw [Go.Maps.atKey_put_other (hne 6 (by decide) (by decide))]
  rw [Go.Maps.atKey_put_other (hne 5 (by decide) (by decide))]
  rw [Go.Maps.atKey_put_other (hne 4 (by decide) (by decide))]
  rw [Go.Maps.atKey_put_other (hne 3 (by decide) (by decide))]
  rw [Go.Maps.atKey_put_other (hne 2 (by decide) (by decide))]
  rw [Go.Maps.atKey_put_other (hne 1 (by decide) (by decide))]
  rfl

set_option maxRecDepth 100000 in
set_option maxHeartbeats 1600000 in
theorem pdo_1 (a b : Int) (w : World) :
    Calls Tryd.prog 13 #[.int .u8 1, .int .i64 a, .int .i64 b] w fun e w' => e = .returned (.tuple #[.int .i64 (doI 1 a b).1, .int .i64 (doI 1 a b).2]) ∧ Below w.heap.size w w' := by
  have hd : doesD.atKey (k8 1) (.nil : DataW Unit) = fnD 15 := by kernel_rfl
  have HV := Lib.hid (show doI 1 a b = (wrap64 (a + b), 0) by rfl)
  have hnn := eql_fn 15
  go_enter Tryd.func13, Tryd.ntmps13
  go_wp2_with fail
  refine (does_any 1 (by decide) (by decide) _).mono ?_
  rintro e w1 ⟨v, ps, rfl, hv, hb⟩
  rw [hd] at hv
  obtain rfl := fnElem_fn hv
  clear hv
  go_wp2_with fail
  refine (traps_any _ _).mono ?_
  rintro e w2 ⟨rfl, rfl⟩
  rw [show trapsB 1 = false from by decide]
  go_wp2_with fail
  refine (cl_1 a b _).mono ?_
  rintro e w3 ⟨rfl, rfl⟩
  go_wp2_with fail
  go_ret2
  exact ⟨ret_doP HV.out, hb⟩

set_option maxRecDepth 100000 in
set_option maxHeartbeats 1600000 in
theorem pdo_2 (a b : Int) (w : World) :
    Calls Tryd.prog 13 #[.int .u8 2, .int .i64 a, .int .i64 b] w fun e w' => e = .returned (.tuple #[.int .i64 (doI 2 a b).1, .int .i64 (doI 2 a b).2]) ∧ Below w.heap.size w w' := by
  have hd : doesD.atKey (k8 2) (.nil : DataW Unit) = fnD 16 := by kernel_rfl
  have HV := Lib.hid (show doI 2 a b = (wrap64 (a - b), 0) by rfl)
  have hnn := eql_fn 16
  go_enter Tryd.func13, Tryd.ntmps13
  go_wp2_with fail
  refine (does_any 2 (by decide) (by decide) _).mono ?_
  rintro e w1 ⟨v, ps, rfl, hv, hb⟩
  rw [hd] at hv
  obtain rfl := fnElem_fn hv
  clear hv
  go_wp2_with fail
  refine (traps_any _ _).mono ?_
  rintro e w2 ⟨rfl, rfl⟩
  rw [show trapsB 2 = false from by decide]
  go_wp2_with fail
  refine (cl_2 a b _).mono ?_
  rintro e w3 ⟨rfl, rfl⟩
  go_wp2_with fail
  go_ret2
  exact ⟨ret_doP HV.out, hb⟩

set_option maxRecDepth 100000 in
set_option maxHeartbeats 1600000 in
theorem pdo_3 (a b : Int) (w : World) :
    Calls Tryd.prog 13 #[.int .u8 3, .int .i64 a, .int .i64 b] w fun e w' => e = .returned (.tuple #[.int .i64 (doI 3 a b).1, .int .i64 (doI 3 a b).2]) ∧ Below w.heap.size w w' := by
  have hd : doesD.atKey (k8 3) (.nil : DataW Unit) = fnD 17 := by kernel_rfl
  have HV := Lib.hid (show doI 3 a b = (wrap64 (a * b), 0) by rfl)
  have hnn := eql_fn 17
  go_enter Tryd.func13, Tryd.ntmps13
  go_wp2_with fail
  refine (does_any 3 (by decide) (by decide) _).mono ?_
  rintro e w1 ⟨v, ps, rfl, hv, hb⟩
  rw [hd] at hv
  obtain rfl := fnElem_fn hv
  clear hv
  go_wp2_with fail
  refine (traps_any _ _).mono ?_
  rintro e w2 ⟨rfl, rfl⟩
  rw [show trapsB 3 = false from by decide]
  go_wp2_with fail
  refine (cl_3 a b _).mono ?_
  rintro e w3 ⟨rfl, rfl⟩
  go_wp2_with fail
  go_ret2
  exact ⟨ret_doP HV.out, hb⟩

set_option maxRecDepth 100000 in
set_option maxHeartbeats 1600000 in
theorem pdo_4 (a b : Int) (ha : (Lit.int .i64 a).wf = true) (hb0 : (Lit.int .i64 b).wf = true) (hz : b ≠ 0) (w : World) :
    Calls Tryd.prog 13 #[.int .u8 4, .int .i64 a, .int .i64 b] w fun e w' => e = .returned (.tuple #[.int .i64 (doI 4 a b).1, .int .i64 (doI 4 a b).2]) ∧ Below w.heap.size w w' := by
  have hd : doesD.atKey (k8 4) (.nil : DataW Unit) = fnD 18 := by kernel_rfl
  have HV := Lib.hid (show doI 4 a b = (wrap64 (a.tdiv b), 0) by unfold doI; rw [if_neg (by decide), if_neg (fun e => hz e.2)]; rfl)
  have HZ := Lib.hid hz
  have hq : (b == 0) = false := by rw [beq_eq_false_iff_ne]; exact hz
  clear ha hb0 hz
  have hnn := eql_fn 18
  go_enter Tryd.func13, Tryd.ntmps13
  go_wp2_with fail
  refine (does_any 4 (by decide) (by decide) _).mono ?_
  rintro e w1 ⟨v, ps, rfl, hv, hb⟩
  rw [hd] at hv
  obtain rfl := fnElem_fn hv
  clear hv
  go_wp2_with fail
  refine (traps_any _ _).mono ?_
  rintro e w2 ⟨rfl, rfl⟩
  rw [show trapsB 4 = true from by decide]
  go_wp2_with fail
  refine (cl_4 a b HZ.out _).mono ?_
  rintro e w3 ⟨rfl, rfl⟩
  go_wp2_with fail
  go_ret2
  exact ⟨ret_doP HV.out, hb⟩

set_option maxRecDepth 100000 in
set_option maxHeartbeats 1600000 in
theorem pdo_4z (a b : Int) (hz : b = 0) (w : World) :
    Calls Tryd.prog 13 #[.int .u8 4, .int .i64 a, .int .i64 b] w fun e w' => e = .returned (.tuple #[.int .i64 (doI 4 a b).1, .int .i64 (doI 4 a b).2]) ∧ Below w.heap.size w w' := by
  have hd : doesD.atKey (k8 4) (.nil : DataW Unit) = fnD 18 := by kernel_rfl
  have HV := Lib.hid (show doI 4 a b = (0, 20) by unfold doI; rw [if_neg (by decide), if_pos ⟨by decide, hz⟩])
  have hq : (b == 0) = true := by rw [beq_iff_eq]; exact hz
  clear hz
  have hnn := eql_fn 18
  go_enter Tryd.func13, Tryd.ntmps13
  go_wp2_with fail
  refine (does_any 4 (by decide) (by decide) _).mono ?_
  rintro e w1 ⟨v, ps, rfl, hv, hb⟩
  rw [hd] at hv
  obtain rfl := fnElem_fn hv
  clear hv
  go_wp2_with fail
  refine (traps_any _ _).mono ?_
  rintro e w2 ⟨rfl, rfl⟩
  rw [show trapsB 4 = true from by decide]
  go_wp2_with fail
  go_ret2
  exact ⟨ret_doP HV.out, hb⟩

set_option maxRecDepth 100000 in
set_option maxHeartbeats 1600000 in
theorem pdo_5 (a b : Int) (ha : (Lit.int .i64 a).wf = true) (hb0 : (Lit.int .i64 b).wf = true) (hz : b ≠ 0) (w : World) :
    Calls Tryd.prog 13 #[.int .u8 5, .int .i64 a, .int .i64 b] w fun e w' => e = .returned (.tuple #[.int .i64 (doI 5 a b).1, .int .i64 (doI 5 a b).2]) ∧ Below w.heap.size w w' := by
  have hd : doesD.atKey (k8 5) (.nil : DataW Unit) = fnD 19 := by kernel_rfl
  have HV := Lib.hid (show doI 5 a b = (a.tmod b, 0) by rw [← tmod_in a b ha hb0 hz]; unfold doI; rw [if_neg (by decide), if_neg (fun e => hz e.2)]; rfl)
  have HZ := Lib.hid hz
  have hq : (b == 0) = false := by rw [beq_eq_false_iff_ne]; exact hz
  clear ha hb0 hz
  have hnn := eql_fn 19
  go_enter Tryd.func13, Tryd.ntmps13
  go_wp2_with fail
  refine (does_any 5 (by decide) (by decide) _).mono ?_
  rintro e w1 ⟨v, ps, rfl, hv, hb⟩
  rw [hd] at hv
  obtain rfl := fnElem_fn hv
  clear hv
  go_wp2_with fail
  refine (traps_any _ _).mono ?_
  rintro e w2 ⟨rfl, rfl⟩
  rw [show trapsB 5 = true from by decide]
  go_wp2_with fail
  refine (cl_5 a b HZ.out _).mono ?_
  rintro e w3 ⟨rfl, rfl⟩
  go_wp2_with fail
  go_ret2
  exact ⟨ret_doP HV.out, hb⟩

set_option maxRecDepth 100000 in
set_option maxHeartbeats 1600000 in
theorem pdo_5z (a b : Int) (hz : b = 0) (w : World) :
    Calls Tryd.prog 13 #[.int .u8 5, .int .i64 a, .int .i64 b] w fun e w' => e = .returned (.tuple #[.int .i64 (doI 5 a b).1, .int .i64 (doI 5 a b).2]) ∧ Below w.heap.size w w' := by
  have hd : doesD.atKey (k8 5) (.nil : DataW Unit) = fnD 19 := by kernel_rfl
  have HV := Lib.hid (show doI 5 a b = (0, 20) by unfold doI; rw [if_neg (by decide), if_pos ⟨by decide, hz⟩])
  have hq : (b == 0) = true := by rw [beq_iff_eq]; exact hz
  clear hz
  have hnn := eql_fn 19
  go_enter Tryd.func13, Tryd.ntmps13
  go_wp2_with fail
  refine (does_any 5 (by decide) (by decide) _).mono ?_
  rintro e w1 ⟨v, ps, rfl, hv, hb⟩
  rw [hd] at hv
  obtain rfl := fnElem_fn hv
  clear hv
  go_wp2_with fail
  refine (traps_any _ _).mono ?_
  rintro e w2 ⟨rfl, rfl⟩
  rw [show trapsB 5 = true from by decide]
  go_wp2_with fail
  go_ret2
  exact ⟨ret_doP HV.out, hb⟩

set_option maxRecDepth 100000 in
set_option maxHeartbeats 1600000 in
theorem pdo_6 (a b : Int) (w : World) :
    Calls Tryd.prog 13 #[.int .u8 6, .int .i64 a, .int .i64 b] w fun e w' => e = .returned (.tuple #[.int .i64 (doI 6 a b).1, .int .i64 (doI 6 a b).2]) ∧ Below w.heap.size w w' := by
  have hd : doesD.atKey (k8 6) (.nil : DataW Unit) = fnD 20 := by kernel_rfl
  have HV := Lib.hid (show doI 6 a b = (bits .and .i64 a b, 0) by rw [bits_and_U]; rfl)
  have hnn := eql_fn 20
  go_enter Tryd.func13, Tryd.ntmps13
  go_wp2_with fail
  refine (does_any 6 (by decide) (by decide) _).mono ?_
  rintro e w1 ⟨v, ps, rfl, hv, hb⟩
  rw [hd] at hv
  obtain rfl := fnElem_fn hv
  clear hv
  go_wp2_with fail
  refine (traps_any _ _).mono ?_
  rintro e w2 ⟨rfl, rfl⟩
  rw [show trapsB 6 = false from by decide]
  go_wp2_with fail
  refine (cl_6 a b _).mono ?_
  rintro e w3 ⟨rfl, rfl⟩
  go_wp2_with fail
  go_ret2
  exact ⟨ret_doP HV.out, hb⟩

set_option maxRecDepth 100000 in
set_option maxHeartbeats 1600000 in
theorem pdo_7 (a b : Int) (w : World) :
    Calls Tryd.prog 13 #[.int .u8 7, .int .i64 a, .int .i64 b] w fun e w' => e = .returned (.tuple #[.int .i64 (doI 7 a b).1, .int .i64 (doI 7 a b).2]) ∧ Below w.heap.size w w' := by
  have hd : doesD.atKey (k8 7) (.nil : DataW Unit) = fnD 21 := by kernel_rfl
  have HV := Lib.hid (show doI 7 a b = (bits .or .i64 a b, 0) by rw [bits_or_U]; rfl)
  have hnn := eql_fn 21
  go_enter Tryd.func13, Tryd.ntmps13
  go_wp2_with fail
  refine (does_any 7 (by decide) (by decide) _).mono ?_
  rintro e w1 ⟨v, ps, rfl, hv, hb⟩
  rw [hd] at hv
  obtain rfl := fnElem_fn hv
  clear hv
  go_wp2_with fail
  refine (traps_any _ _).mono ?_
  rintro e w2 ⟨rfl, rfl⟩
  rw [show trapsB 7 = false from by decide]
  go_wp2_with fail
  refine (cl_7 a b _).mono ?_
  rintro e w3 ⟨rfl, rfl⟩
  go_wp2_with fail
  go_ret2
  exact ⟨ret_doP HV.out, hb⟩

set_option maxRecDepth 100000 in
set_option maxHeartbeats 1600000 in
theorem pdo_8 (a b : Int) (w : World) :
    Calls Tryd.prog 13 #[.int .u8 8, .int .i64 a, .int .i64 b] w fun e w' => e = .returned (.tuple #[.int .i64 (doI 8 a b).1, .int .i64 (doI 8 a b).2]) ∧ Below w.heap.size w w' := by
  have hd : doesD.atKey (k8 8) (.nil : DataW Unit) = fnD 22 := by kernel_rfl
  have HV := Lib.hid (show doI 8 a b = (bits .xor .i64 a b, 0) by rw [bits_xor_U]; rfl)
  have hnn := eql_fn 22
  go_enter Tryd.func13, Tryd.ntmps13
  go_wp2_with fail
  refine (does_any 8 (by decide) (by decide) _).mono ?_
  rintro e w1 ⟨v, ps, rfl, hv, hb⟩
  rw [hd] at hv
  obtain rfl := fnElem_fn hv
  clear hv
  go_wp2_with fail
  refine (traps_any _ _).mono ?_
  rintro e w2 ⟨rfl, rfl⟩
  rw [show trapsB 8 = false from by decide]
  go_wp2_with fail
  refine (cl_8 a b _).mono ?_
  rintro e w3 ⟨rfl, rfl⟩
  go_wp2_with fail
  go_ret2
  exact ⟨ret_doP HV.out, hb⟩

set_option maxRecDepth 100000 in
set_option maxHeartbeats 1600000 in
theorem pdo_9 (a b : Int) (w : World) :
    Calls Tryd.prog 13 #[.int .u8 9, .int .i64 a, .int .i64 b] w fun e w' => e = .returned (.tuple #[.int .i64 (doI 9 a b).1, .int .i64 (doI 9 a b).2]) ∧ Below w.heap.size w w' := by
  have hd : doesD.atKey (k8 9) (.nil : DataW Unit) = fnD 23 := by kernel_rfl
  have HV := Lib.hid (show doI 9 a b = (wrap64 (a * 2 ^ (U b % 64)), 0) by rfl)
  have hnn := eql_fn 23
  go_enter Tryd.func13, Tryd.ntmps13
  go_wp2_with fail
  refine (does_any 9 (by decide) (by decide) _).mono ?_
  rintro e w1 ⟨v, ps, rfl, hv, hb⟩
  rw [hd] at hv
  obtain rfl := fnElem_fn hv
  clear hv
  go_wp2_with fail
  refine (traps_any _ _).mono ?_
  rintro e w2 ⟨rfl, rfl⟩
  rw [show trapsB 9 = false from by decide]
  go_wp2_with fail
  refine (cl_9 a b _).mono ?_
  rintro e w3 ⟨rfl, rfl⟩
  go_wp2_with fail
  go_ret2
  exact ⟨ret_doP HV.out, hb⟩

set_option maxRecDepth 100000 in
set_option maxHeartbeats 1600000 in
theorem pdo_10 (a b : Int) (w : World) :
    Calls Tryd.prog 13 #[.int .u8 10, .int .i64 a, .int .i64 b] w fun e w' => e = .returned (.tuple #[.int .i64 (doI 10 a b).1, .int .i64 (doI 10 a b).2]) ∧ Below w.heap.size w w' := by
  have hd : doesD.atKey (k8 10) (.nil : DataW Unit) = fnD 24 := by kernel_rfl
  have HV := Lib.hid (show doI 10 a b = (a / 2 ^ (U b % 64), 0) by rfl)
  have hnn := eql_fn 24
  go_enter Tryd.func13, Tryd.ntmps13
  go_wp2_with fail
  refine (does_any 10 (by decide) (by decide) _).mono ?_
  rintro e w1 ⟨v, ps, rfl, hv, hb⟩
  rw [hd] at hv
  obtain rfl := fnElem_fn hv
  clear hv
  go_wp2_with fail
  refine (traps_any _ _).mono ?_
  rintro e w2 ⟨rfl, rfl⟩
  rw [show trapsB 10 = false from by decide]
  go_wp2_with fail
  refine (cl_10 a b _).mono ?_
  rintro e w3 ⟨rfl, rfl⟩
  go_wp2_with fail
  go_ret2
  exact ⟨ret_doP HV.out, hb⟩

set_option maxRecDepth 100000 in
set_option maxHeartbeats 1600000 in
theorem pdo_11 (a b : Int) (w : World) :
    Calls Tryd.prog 13 #[.int .u8 11, .int .i64 a, .int .i64 b] w fun e w' => e = .returned (.tuple #[.int .i64 (doI 11 a b).1, .int .i64 (doI 11 a b).2]) ∧ Below w.heap.size w w' := by
  have hd : doesD.atKey (k8 11) (.nil : DataW Unit) = fnD 25 := by kernel_rfl
  have HV := Lib.hid (show doI 11 a b = (eqI a b, 0) by show ((if a = b then 1 else 0 : Int), (0 : Int)) = _; rfl)
  have hnn := eql_fn 25
  go_enter Tryd.func13, Tryd.ntmps13
  go_wp2_with fail
  refine (does_any 11 (by decide) (by decide) _).mono ?_
  rintro e w1 ⟨v, ps, rfl, hv, hb⟩
  rw [hd] at hv
  obtain rfl := fnElem_fn hv
  clear hv
  go_wp2_with fail
  refine (traps_any _ _).mono ?_
  rintro e w2 ⟨rfl, rfl⟩
  rw [show trapsB 11 = false from by decide]
  go_wp2_with fail
  refine (cl_11 a b _).mono ?_
  rintro e w3 ⟨rfl, rfl⟩
  go_wp2_with fail
  go_ret2
  exact ⟨ret_doP HV.out, hb⟩

set_option maxRecDepth 100000 in
set_option maxHeartbeats 1600000 in
theorem pdo_12 (a b : Int) (w : World) :
    Calls Tryd.prog 13 #[.int .u8 12, .int .i64 a, .int .i64 b] w fun e w' => e = .returned (.tuple #[.int .i64 (doI 12 a b).1, .int .i64 (doI 12 a b).2]) ∧ Below w.heap.size w w' := by
  have hd : doesD.atKey (k8 12) (.nil : DataW Unit) = fnD 27 := by kernel_rfl
  have HV := Lib.hid (show doI 12 a b = (lessI a b, 0) by show ((if a < b then 1 else 0 : Int), (0 : Int)) = _; rfl)
  have hnn := eql_fn 27
  go_enter Tryd.func13, Tryd.ntmps13
  go_wp2_with fail
  refine (does_any 12 (by decide) (by decide) _).mono ?_
  rintro e w1 ⟨v, ps, rfl, hv, hb⟩
  rw [hd] at hv
  obtain rfl := fnElem_fn hv
  clear hv
  go_wp2_with fail
  refine (traps_any _ _).mono ?_
  rintro e w2 ⟨rfl, rfl⟩
  rw [show trapsB 12 = false from by decide]
  go_wp2_with fail
  refine (cl_12 a b _).mono ?_
  rintro e w3 ⟨rfl, rfl⟩
  go_wp2_with fail
  go_ret2
  exact ⟨ret_doP HV.out, hb⟩

set_option maxRecDepth 100000 in
set_option maxHeartbeats 1600000 in
theorem pdo_out (op a b : Int) (ho : op < 1 ∨ 12 < op) (h0 : 0 ≤ op) (h1 : op ≤ 255) (w : World) :
    Calls Tryd.prog 13 #[.int .u8 op, .int .i64 a, .int .i64 b] w fun e w' => e = .returned (.tuple #[.int .i64 (doI op a b).1, .int .i64 (doI op a b).2]) ∧ Below w.heap.size w w' := by
  have HD := Lib.hid (doesD_out op ho)
  have HV := Lib.hid (show doI op a b = (0, 1) by unfold doI; rw [if_pos ho])
  have H0 := Lib.hid h0
  have H1 := Lib.hid h1
  clear ho h0 h1
  have hnn := eql_nil
  go_enter Tryd.func13, Tryd.ntmps13
  go_wp2_with fail
  refine (does_any op H0.out H1.out _).mono ?_
  rintro e w1 ⟨v, ps, rfl, hv, hb⟩
  rw [HD.out] at hv
  obtain rfl := fnElem_nil hv
  clear hv
  go_wp2_with fail
  go_ret2
  exact ⟨ret_doP HV.out, hb⟩

/-- the project's Do, whatever its arguments -/
theorem do_any (op a b : Int) (h0 : 0 ≤ op) (h1 : op ≤ 255) (ha : (Lit.int .i64 a).wf = true) (hb : (Lit.int .i64 b).wf = true) (w : World) :
    Calls Tryd.prog 13 #[.int .u8 op, .int .i64 a, .int .i64 b] w fun e w' => e = .returned (.tuple #[.int .i64 (doI op a b).1, .int .i64 (doI op a b).2]) ∧ Below w.heap.size w w' := by
  by_cases ho : op < 1 ∨ 12 < op
  · exact pdo_out op a b ho h0 h1 w
  · rcases (show op = 1 ∨ op = 2 ∨ op = 3 ∨ op = 4 ∨ op = 5 ∨ op = 6 ∨ op = 7 ∨ op = 8 ∨ op = 9 ∨ op = 10 ∨ op = 11 ∨ op = 12 by omega) with rfl | rfl | rfl | rfl | rfl | rfl | rfl | rfl | rfl | rfl | rfl | rfl
    · exact pdo_1 a b w
    · exact pdo_2 a b w
    · exact pdo_3 a b w
    · by_cases hz : b = 0
      · exact pdo_4z a b hz w
      · exact pdo_4 a b ha hb hz w
    · by_cases hz : b = 0
      · exact pdo_5z a b hz w
      · exact pdo_5 a b ha hb hz w
    · exact pdo_6 a b w
    · exact pdo_7 a b w
    · exact pdo_8 a b w
    · exact pdo_9 a b w
    · exact pdo_10 a b w
    · exact pdo_11 a b w
    · exact pdo_12 a b w
end Go.Proofs.YtgbbkgmimcomkabDoor
