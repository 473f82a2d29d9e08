import Derived.Test.YtopffoklhfpjpaaGreatDoorQueA
import Derived.Test.YtopffoklhfpjpaaGreatDoorQueV
import Derived.Test.YtopffoklhfpjpaaGreatDoorOpenQR
import Derived.Test.YtopffoklhfpjpaaGreatDoorDoorU
import Derived.Test.YtopffoklhfpjpaaGreatDoorDoorN
import Derived.Test.YtopffoklhfpjpaaGreatDoorDoorZ
set_option linter.unusedSimpArgs false
set_option linter.unusedVariables false
/-! QueueNil: the walk -/
namespace Go.Proofs.YtopffoklhfpjpaaGreatDoor
open Go.RowKit
theorem take_nil (i : Int) (w : World) : Calls Tryz.prog 12 #[.pointer none, .int .i64 i] w fun e w' => e = .returned (.tuple #[.int .i64 0, .int .i64 1]) ∧ w = w' := by
  go_enter Tryz.func12, Tryz.ntmps12
  go_wp2_with fail
  go_ret2
  exact ⟨rfl, rfl⟩
theorem left_nil (i : Int) (w : World) : Calls Tryz.prog 14 #[.pointer none, .int .i64 i] w fun e w' => e = .returned (.int .i64 0) ∧ w = w' := by
  go_enter Tryz.func14, Tryz.ntmps14
  go_wp2_with fail
  go_ret
  exact ⟨rfl, rfl⟩
theorem trace_nil (w : World) : Calls Tryz.prog 19 #[.pointer none] w fun e w' => e = .returned (.slice none 0 0) ∧ w = w' := by
  go_enter Tryz.func19, Tryz.ntmps19
  go_wp2_with fail
  go_ret
  exact ⟨rfl, rfl⟩
theorem put_nil (k r v f a : Int) (w : World) : Calls Tryz.prog 16 #[.pointer none, .agg #[.int .u8 k, .int .i64 r, .int .i64 v, .int .i64 f, .int .i64 a]] w fun e w' => e = .returned (.int .i64 1) ∧ Below w.heap.size w w' := by
  go_enter Tryz.func16, Tryz.ntmps16
  go_wp2_with fail
  go_quiet (fail)
  go_wp2_with fail
  go_ret
  exact ⟨rfl, QQ.dN ((Below.refl _ _).alloc (Nat.le_refl _) _) _⟩

set_option maxRecDepth 100000 in
set_option maxHeartbeats 1600000 in
theorem queueNil_walk (k i : Int) (e : Ev) (w : World) (hT : Go.Lib.Utf8Tabs 0 1 w) (hE : Errs w) (hP : Pow w) (hM : MaxL w) (hTz : Tz w) :
    Calls Tryz.prog 6 #[.agg #[.int .i64 k, .int .i64 i, .int .u8 e.k, .int .i64 e.r, .int .i64 e.v, .int .i64 e.f, .int .i64 e.a]] w fun e w' => e = .returned (.bool true) ∧ Below w.heap.size w w' := by
  have HA := Lib.hid (show Below w.heap.size w (w.alloc (.cells #[.int .i64 k, .int .i64 i, .int .u8 e.k, .int .i64 e.r, .int .i64 e.v, .int .i64 e.f, .int .i64 e.a] 46)) from (Below.refl _ _).alloc (Nat.le_refl _) _)
  have HT := Lib.hid (Utf8Tabs_below hT HA.out)
  have HE := Lib.hid (hE.below HA.out)
  have HPw := Lib.hid (hP.below HA.out)
  have HM := Lib.hid (hM.below HA.out)
  have HTz := Lib.hid (hTz.on HA.out)
  clear hT hE hP hM hTz
  go_enter Tryz.func6, Tryz.ntmps6
  go_wp2_with (first
    | (go_at_call 11; refine (awake15_any _ (Utf8Tabs_below HT.out HB2.out) (HE.out.below HB2.out) (HPw.out.below HB2.out) (HM.out.below HB2.out) (HTz.out.on HB2.out)).mono ?_; rintro e w9 ⟨rfl, hb⟩; have HB9 := Lib.hid (QQ.step (HA.out.trans (HB2.out.mono HA.out.size)) hb); clear hb)
    | (go_at_call 19; refine (trace_nil _).mono ?_; rintro e w3 ⟨rfl, rfl⟩)
    | (go_at_call 16; refine (put_nil _ _ _ _ _ _).mono ?_; rintro e w2 ⟨rfl, hb⟩; have HB2 := Lib.hid hb; clear hb)
    | (go_at_call 14; refine (left_nil _ _).mono ?_; rintro e w1 ⟨rfl, rfl⟩)
    | (go_at_call 12; refine (take_nil _ _).mono ?_; rintro e w1 ⟨rfl, rfl⟩))
  go_ret
  exact ⟨rfl, HB9.out⟩
end Go.Proofs.YtopffoklhfpjpaaGreatDoor

/-! QueueNil: the listed variables -/
namespace Go.Proofs.YtopffoklhfpjpaaGreatDoor
open Go.RowKit
theorem queueNilTabs {W : World} (h : laidMetH Tryz.prog Rows.queueNilRow.laid W) : Lib.Utf8Tabs 0 1 W ∧ Errs W ∧ Pow W ∧ Tz W :=
  ⟨utabs_of h (by kernel_rfl), errs_of h (by kernel_rfl) (by kernel_rfl), pow_of (laid_one h (fun x => x.1 == "internal/strconv.uint64pow10") (by kernel_rfl)), tz_of h (by kernel_rfl)⟩
end Go.Proofs.YtopffoklhfpjpaaGreatDoor
