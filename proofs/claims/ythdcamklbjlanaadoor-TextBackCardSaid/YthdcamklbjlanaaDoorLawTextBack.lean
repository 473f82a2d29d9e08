import Derived.Test.YthdcamklbjlanaaDoorNumber
import Derived.Test.YthdcamklbjlanaaDoorDoorN
/-! TextBack: the walk -/
namespace Go.Proofs.YthdcamklbjlanaaDoor
set_option linter.unusedVariables false
open Go.RowKit
theorem back_pow {W : World} (h : laidMetH Tryd.prog Rows.textBackRow.laid W) : Pow W := pow_of (laid_one h (fun x => x.1 == "internal/strconv.uint64pow10") (by kernel_rfl))
theorem back_errs {W : World} (h : laidMetH Tryd.prog Rows.textBackRow.laid W) : Errs W := errs_of h (by kernel_rfl) (by kernel_rfl)

set_option maxRecDepth 100000 in
set_option maxHeartbeats 800000 in
theorem textBack_walk (n : Int) (hn : (Lit.int .i64 n).wf = true) (w : World) (hp : Pow w) (he : Errs w) :
    Calls Tryd.prog 6 #[.int .i64 n] w fun e w' => e = .returned (.bool true) ∧ Below w.heap.size w w' := by
  have H := Lib.hid (wf_i64_bd hn)
  have HT := Lib.hid hp
  have HE := Lib.hid he
  have HN := Lib.hid hn
  have HZ := Lib.hid (show (num n).size ≤ 140737488351232 by have := num_size n H.out.1 H.out.2; omega)
  clear hp hn he
  go_enter Tryd.func6, Tryd.ntmps6
  go_wp2_with fail
  refine (show_any n HN.out _ HT.out).mono ?_
  rintro e w1 ⟨rfl, hb1⟩
  have HT1 := Lib.hid (HT.out.below hb1)
  have HE1 := Lib.hid (HE.out.below hb1)
  go_wp2_with fail
  refine (number_any (num n) _ HZ.out HE1.out HT1.out).mono ?_
  rintro e w2 ⟨⟨v, ok, rfl, hr⟩, hb2⟩
  obtain ⟨rfl, rfl⟩ := hr.of_num H.out.1 H.out.2
  clear hr
  go_wp2_with fail
  go_ret
  exact ⟨rfl, bstep hb1 hb2⟩
end Go.Proofs.YthdcamklbjlanaaDoor
