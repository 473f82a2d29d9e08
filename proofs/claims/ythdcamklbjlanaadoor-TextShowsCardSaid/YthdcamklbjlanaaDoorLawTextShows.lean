import Derived.Test.YthdcamklbjlanaaDoorShow
import Derived.Test.YthdcamklbjlanaaDoorDoor
/-! TextShows: the walk -/
namespace Go.Proofs.YthdcamklbjlanaaDoor
set_option linter.unusedVariables false
open Go.RowKit
theorem shows_pow {W : World} (h : laidMetH Tryd.prog Rows.textShowsRow.laid W) : Pow W := pow_of (laid_one h (fun x => x.1 == "internal/strconv.uint64pow10") (by kernel_rfl))

set_option maxRecDepth 100000 in
theorem textShows_walk (n : Int) (hn : (Lit.int .i64 n).wf = true) (w : World) (hp : Pow w) :
    Calls Tryd.prog 5 #[.int .i64 n] w fun e w' => e = .returned (.bool true) ∧ Below w.heap.size w w' := by
  have H := Lib.hid (wf_i64_bd hn)
  have HT := Lib.hid hp
  have HN := Lib.hid hn
  clear hp hn
  go_enter Tryd.func5, Tryd.ntmps5
  go_wp2_with fail
  refine (show_any n HN.out _ HT.out).mono ?_
  rintro e w1 ⟨rfl, hb⟩
  go_wp2_with fail
  refine (rshow_any n H.out.1 H.out.2 _).mono ?_
  rintro e w2 ⟨rfl, k, rfl⟩
  go_wp2_with fail
  go_ret
  exact ⟨rfl, bdrew hb k⟩
end Go.Proofs.YthdcamklbjlanaaDoor
