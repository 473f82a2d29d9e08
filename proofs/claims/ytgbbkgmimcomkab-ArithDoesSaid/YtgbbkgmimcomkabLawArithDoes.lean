import Derived.Test.YtgbbkgmimcomkabArithA
/-! ArithDoes: the walk -/
namespace Go.Proofs.Ytgbbkgmimcomkab
set_option linter.unusedVariables false
open Go.RowKit
set_option maxHeartbeats 800000 in
theorem arithDoes_walk (op a b : Int) (w : World) (h0 : 0 ≤ op) (h1 : op ≤ 255) (ha : (Lit.int .i64 a).wf = true) (hb : (Lit.int .i64 b).wf = true) :
    Calls Try.prog 3 #[.int .u8 op, .int .i64 a, .int .i64 b] w fun e w' => e = .returned (.bool true) ∧ Below w.heap.size w w' := by
  have HA := Lib.hid ha
  have HB := Lib.hid hb
  have H0 := Lib.hid h0
  have H1 := Lib.hid h1
  clear ha hb h0 h1
  go_enter Try.func3, Try.ntmps3
  go_wp2_with fail
  refine (do_any op a b H0.out H1.out HA.out HB.out _).mono ?_
  rintro e w1 ⟨rfl, hb1⟩
  go_wp2_with fail
  refine (rdo_any op a b H0.out H1.out HA.out HB.out _).mono ?_
  rintro e w2 ⟨rfl, n, rfl⟩
  have hb2 := below_drewN hb1 n
  clear hb1
  go_wp2_with fail
  refine (awake_any _).mono ?_
  rintro e w3 ⟨rfl, hb3⟩
  go_wp2_with fail
  go_ret
  exact ⟨rfl, bstep hb2 hb3⟩
end Go.Proofs.Ytgbbkgmimcomkab
