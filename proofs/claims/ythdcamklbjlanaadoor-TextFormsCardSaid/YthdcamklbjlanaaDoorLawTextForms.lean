import Derived.Test.YthdcamklbjlanaaDoorTextB
import Derived.Test.YthdcamklbjlanaaDoorDoorU
/-! TextForms: the walk -/
namespace Go.Proofs.YthdcamklbjlanaaDoor
set_option linter.unusedVariables false
open Go.RowKit
theorem forms_tabs {W : World} (h : laidMetH Tryd.prog Rows.textFormsRow.laid W) : Lib.Utf8Tabs 0 1 W := utabs_of h (by kernel_rfl)

/-- the string of one byte that begins no form -/
def strFF : ByteArray := ⟨#[255]⟩
theorem bad_ff : badI strFF = 0 := by decide +kernel

set_option maxHeartbeats 800000 in
theorem textForms_walk (s : ByteArray) (w : World) (hs : s.size ≤ 140737488351232) (hT : Lib.Utf8Tabs 0 1 w) :
    Calls Tryd.prog 3 #[.string s] w fun e w' => e = .returned (.bool true) ∧ Below w.heap.size w w' := by
  have HT := Lib.hid hT
  clear hT
  go_enter Tryd.func3, Tryd.ntmps3
  go_wp2_with fail
  refine (bad_any _ _ (by omega) HT.out).mono ?_
  rintro e w1 ⟨rfl, hb1⟩
  go_wp2_with fail
  refine (rbad_any _ _ hs).mono ?_
  rintro e w2 ⟨rfl, n, rfl⟩
  go_wp2_with fail
  refine (runes_any _ _ (by omega)).mono ?_
  rintro e w3 ⟨rfl, hb3⟩
  go_wp2_with fail
  refine (rrunes_any _ _ hs).mono ?_
  rintro e w4 ⟨rfl, m, rfl⟩
  have hb := Lib.hid (bdrew (bstep (bdrew hb1 n) hb3) m)
  clear hb1 hb3
  go_wp2_with fail
  refine (bad_any strFF _ (by decide) (Utf8Tabs_below HT.out hb.out)).mono ?_
  rintro e w5 ⟨rfl, hb5⟩
  rw [bad_ff]
  go_wp2_with fail
  go_ret
  exact ⟨rfl, bstep hb.out hb5⟩
end Go.Proofs.YthdcamklbjlanaaDoor
