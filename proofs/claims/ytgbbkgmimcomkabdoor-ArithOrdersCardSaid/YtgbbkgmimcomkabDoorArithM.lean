import Derived.Test.YtgbbkgmimcomkabDoorArithD
import Derived.Maps.Own
import Derived.Maps.OwnOps
import Derived.Maps.Views
/-! layer 4: the project's truth, Traps, and its function literals -/
namespace Go.Proofs.YtgbbkgmimcomkabDoor
set_option linter.unusedVariables false
open Go.RowKit

set_option maxHeartbeats 800000 in
theorem truth_any (b : Bool) (w : World) :
    Calls Tryd.prog 26 #[.bool b] w fun e w' => e = .returned (.int .i64 (if b = true then 1 else 0)) ∧ w' = w := by
  cases b
  · go_enter Tryd.func26, Tryd.ntmps26
    go_wp2_with fail
    go_ret
    exact ⟨rfl, rfl⟩
  · go_enter Tryd.func26, Tryd.ntmps26
    go_wp2_with fail
    go_ret
    exact ⟨rfl, rfl⟩

def eqI (a b : Int) : Int := if a = b then 1 else 0
def lessI (a b : Int) : Int := if a < b then 1 else 0
def trapsB (op : Int) : Bool := op == 4 || op == 5
set_option maxHeartbeats 800000 in
theorem traps_any (op : Int) (w : World) :
    Calls Tryd.prog 9 #[.int .u8 op] w fun e w' => e = .returned (.bool (trapsB op)) ∧ w' = w := by
  cases h4 : (op == 4)
  · cases h5 : (op == 5)
    · have HV := Lib.hid (show trapsB op = false by unfold trapsB; rw [h4, h5]; rfl)
      go_enter Tryd.func9, Tryd.ntmps9
      go_wp2_with fail
      go_ret
      exact ⟨ret_bool HV.out.symm, rfl⟩
    · have HV := Lib.hid (show trapsB op = true by unfold trapsB; rw [h4, h5]; rfl)
      go_enter Tryd.func9, Tryd.ntmps9
      go_wp2_with fail
      go_ret
      exact ⟨ret_bool HV.out.symm, rfl⟩
  · have HV := Lib.hid (show trapsB op = true by unfold trapsB; rw [h4]; rfl)
    go_enter Tryd.func9, Tryd.ntmps9
    go_wp2_with fail
    go_ret
    exact ⟨ret_bool HV.out.symm, rfl⟩

set_option maxHeartbeats 800000 in
theorem cl_1 (a b : Int) (w : World) :
    Calls Tryd.prog 15 #[.int .i64 a, .int .i64 b] w fun e w' => e = .returned (.int .i64 (wrap64 (a + b))) ∧ w' = w := by
  go_enter Tryd.func15, Tryd.ntmps15
  go_wp2_with fail
  go_ret
  exact ⟨rfl, rfl⟩
set_option maxHeartbeats 800000 in
theorem cl_2 (a b : Int) (w : World) :
    Calls Tryd.prog 16 #[.int .i64 a, .int .i64 b] w fun e w' => e = .returned (.int .i64 (wrap64 (a - b))) ∧ w' = w := by
  go_enter Tryd.func16, Tryd.ntmps16
  go_wp2_with fail
  go_ret
  exact ⟨rfl, rfl⟩
set_option maxHeartbeats 800000 in
theorem cl_3 (a b : Int) (w : World) :
    Calls Tryd.prog 17 #[.int .i64 a, .int .i64 b] w fun e w' => e = .returned (.int .i64 (wrap64 (a * b))) ∧ w' = w := by
  go_enter Tryd.func17, Tryd.ntmps17
  go_wp2_with fail
  go_ret
  exact ⟨rfl, rfl⟩
set_option maxHeartbeats 800000 in
theorem cl_4 (a b : Int) (hz : b ≠ 0) (w : World) :
    Calls Tryd.prog 18 #[.int .i64 a, .int .i64 b] w fun e w' => e = .returned (.int .i64 (wrap64 (a.tdiv b))) ∧ w' = w := by
  go_enter Tryd.func18, Tryd.ntmps18
  go_wp2_with fail
  go_ret
  exact ⟨rfl, rfl⟩
set_option maxHeartbeats 800000 in
theorem cl_5 (a b : Int) (hz : b ≠ 0) (w : World) :
    Calls Tryd.prog 19 #[.int .i64 a, .int .i64 b] w fun e w' => e = .returned (.int .i64 (a.tmod b)) ∧ w' = w := by
  go_enter Tryd.func19, Tryd.ntmps19
  go_wp2_with fail
  go_ret
  exact ⟨rfl, rfl⟩
theorem wrap_i (n : Nat) : IntKind.i64.wrap (n : Int) = wrap64 (n : Int) := IntWalk.i64_left _
theorem ofInt_U (a : Int) : (BitVec.ofInt IntKind.i64.bits a).toNat = U a := by
  rw [BitVec.toNat_ofInt]; unfold U; rw [IntKind.wrap_u64]; rfl
theorem bits_and_U (a b : Int) : bits .and .i64 a b = wrap64 (opN 6 (U a) (U b) : Int) := by
  have e : bits .and .i64 a b = IntKind.i64.wrap (((BitVec.ofInt IntKind.i64.bits a &&& BitVec.ofInt IntKind.i64.bits b).toNat : Nat) : Int) := rfl
  rw [e, BitVec.toNat_and, ofInt_U, ofInt_U]; exact wrap_i (U a &&& U b)
theorem bits_or_U (a b : Int) : bits .or .i64 a b = wrap64 (opN 7 (U a) (U b) : Int) := by
  have e : bits .or .i64 a b = IntKind.i64.wrap (((BitVec.ofInt IntKind.i64.bits a ||| BitVec.ofInt IntKind.i64.bits b).toNat : Nat) : Int) := rfl
  rw [e, BitVec.toNat_or, ofInt_U, ofInt_U]; exact wrap_i (U a ||| U b)
theorem bits_xor_U (a b : Int) : bits .xor .i64 a b = wrap64 (opN 8 (U a) (U b) : Int) := by
  have e : bits .xor .i64 a b = IntKind.i64.wrap (((BitVec.ofInt IntKind.i64.bits a ^^^ BitVec.ofInt IntKind.i64.bits b).toNat : Nat) : Int) := rfl
  rw [e, BitVec.toNat_xor, ofInt_U, ofInt_U]; exact wrap_i (U a ^^^ U b)
theorem U_63 : U 63 = 63 := by decide
theorem and63i (b : Int) : bits .and .i64 b 63 = ((U b % 64 : Nat) : Int) := by
  rw [bits_and_U, U_63]
  show wrap64 ((U b &&& 63 : Nat) : Int) = _
  rw [show (63 : Nat) = 2 ^ 6 - 1 from rfl, Nat.and_two_pow_sub_one_eq_mod]
  exact IntWalk.wrap64_in _ (by have : U b % 2 ^ 6 < 2 ^ 6 := Nat.mod_lt _ (by decide); omega)
theorem tmod_in (a b : Int) (ha : (Lit.int .i64 a).wf = true) (hb : (Lit.int .i64 b).wf = true) (hz : b ≠ 0) : wrap64 (a.tmod b) = a.tmod b := by
  refine IntWalk.wrap64_in _ ?_
  have := wf_i64_bd hb
  have e : (a.tmod b).natAbs < b.natAbs := by rw [Int.natAbs_tmod]; exact Nat.mod_lt _ (by omega)
  omega
set_option maxHeartbeats 800000 in
theorem cl_6 (a b : Int) (w : World) :
    Calls Tryd.prog 20 #[.int .i64 a, .int .i64 b] w fun e w' => e = .returned (.int .i64 (bits .and .i64 a b)) ∧ w' = w := by
  go_enter Tryd.func20, Tryd.ntmps20
  go_wp2_with fail
  go_ret
  exact ⟨rfl, rfl⟩
theorem cl_7 (a b : Int) (w : World) :
    Calls Tryd.prog 21 #[.int .i64 a, .int .i64 b] w fun e w' => e = .returned (.int .i64 (bits .or .i64 a b)) ∧ w' = w := by
  go_enter Tryd.func21, Tryd.ntmps21
  go_wp2_with fail
  go_ret
  exact ⟨rfl, rfl⟩
theorem cl_8 (a b : Int) (w : World) :
    Calls Tryd.prog 22 #[.int .i64 a, .int .i64 b] w fun e w' => e = .returned (.int .i64 (bits .xor .i64 a b)) ∧ w' = w := by
  go_enter Tryd.func22, Tryd.ntmps22
  go_wp2_with fail
  go_ret
  exact ⟨rfl, rfl⟩
theorem cl_9 (a b : Int) (w : World) :
    Calls Tryd.prog 23 #[.int .i64 a, .int .i64 b] w fun e w' => e = .returned (.int .i64 (wrap64 (a * 2 ^ (U b % 64)))) ∧ w' = w := by
  have HV := and63i b
  have h64 : U b % 64 < 64 := Nat.mod_lt _ (by decide)
  go_enter Tryd.func23, Tryd.ntmps23
  go_wp2_with fail
  go_ret
  exact ⟨rfl, rfl⟩
theorem cl_10 (a b : Int) (w : World) :
    Calls Tryd.prog 24 #[.int .i64 a, .int .i64 b] w fun e w' => e = .returned (.int .i64 (a / 2 ^ (U b % 64))) ∧ w' = w := by
  have HV := and63i b
  have h64 : U b % 64 < 64 := Nat.mod_lt _ (by decide)
  go_enter Tryd.func24, Tryd.ntmps24
  go_wp2_with fail
  go_ret
  exact ⟨rfl, rfl⟩
theorem cl_11 (a b : Int) (w : World) :
    Calls Tryd.prog 25 #[.int .i64 a, .int .i64 b] w fun e w' => e = .returned (.int .i64 (eqI a b)) ∧ w' = w := by
  cases h : (a == b)
  · have HV := Lib.hid (show (0 : Int) = eqI a b by unfold eqI; rw [if_neg (beq_eq_false_iff_ne.1 h)])
    go_enter Tryd.func25, Tryd.ntmps25
    go_wp2_with fail
    refine (truth_any _ _).mono ?_
    rintro e w1 ⟨rfl, rfl⟩
    go_wp2_with fail
    go_ret
    exact ⟨ret_int HV.out, rfl⟩
  · have HV := Lib.hid (show (1 : Int) = eqI a b by unfold eqI; rw [if_pos (beq_iff_eq.1 h)])
    go_enter Tryd.func25, Tryd.ntmps25
    go_wp2_with fail
    refine (truth_any _ _).mono ?_
    rintro e w1 ⟨rfl, rfl⟩
    go_wp2_with fail
    go_ret
    exact ⟨ret_int HV.out, rfl⟩
theorem cl_12 (a b : Int) (w : World) :
    Calls Tryd.prog 27 #[.int .i64 a, .int .i64 b] w fun e w' => e = .returned (.int .i64 (lessI a b)) ∧ w' = w := by
  by_cases h : a < b
  · have HV := Lib.hid (show (1 : Int) = lessI a b by unfold lessI; rw [if_pos h])
    go_enter Tryd.func27, Tryd.ntmps27
    go_wp2_with fail
    refine (truth_any _ _).mono ?_
    rintro e w1 ⟨rfl, rfl⟩
    go_wp2_with fail
    go_ret
    exact ⟨ret_int HV.out, rfl⟩
  · have HV := Lib.hid (show (0 : Int) = lessI a b by unfold lessI; rw [if_neg h])
    go_enter Tryd.func27, Tryd.ntmps27
    go_wp2_with fail
    refine (truth_any _ _).mono ?_
    rintro e w1 ⟨rfl, rfl⟩
    go_wp2_with fail
    go_ret
    exact ⟨ret_int HV.out, rfl⟩
end Go.Proofs.YtgbbkgmimcomkabDoor
