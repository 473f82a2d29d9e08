import Derived.Test.YthdcamklbjlanaaDoorTextB
import Derived.Test.YthdcamklbjlanaaDoorDoorU
import Derived.Test.YthdcamklbjlanaaDoorJoin
/-! TextJoins: the walk -/
namespace Go.Proofs.YthdcamklbjlanaaDoor
set_option linter.unusedVariables false
open Go.RowKit
theorem joins_tabs {W : World} (h : laidMetH Tryd.prog Rows.textJoinsRow.laid W) : Lib.Utf8Tabs 0 1 W := utabs_of h (by kernel_rfl)

/-- the string q -/
def strOne : ByteArray := ⟨#[113]⟩
theorem runes_one : ((allP strOne).length : Int) = 1 := by decide +kernel

set_option maxRecDepth 100000 in
set_option maxHeartbeats 800000 in
theorem textJoins_walk (a b : ByteArray) (w : World) (ha : a.size ≤ 140737488351232) (hb : b.size ≤ 140737488351232) (hT : Lib.Utf8Tabs 0 1 w) :
    Calls Tryd.prog 7 #[.string a, .string b] w fun e w' => e = .returned (.bool true) ∧ Below w.heap.size w w' := by
  have HT := Lib.hid hT
  clear hT
  by_cases h1 : 0 ≤ badI a
  · go_enter Tryd.func7, Tryd.ntmps7
    go_wp2_with fail
    refine (bad_any _ _ (by omega) HT.out).mono ?_
    rintro e w1 ⟨rfl, hb1⟩
    go_wp2_with fail
    refine (runes_any strOne _ (by decide)).mono ?_
    rintro e w2 ⟨rfl, hb2⟩
    rw [runes_one]
    go_wp2_with fail
    go_ret
    exact ⟨rfl, bstep hb1 hb2⟩
  · by_cases h2 : 0 ≤ badI b
    · go_enter Tryd.func7, Tryd.ntmps7
      go_wp2_with fail
      refine (bad_any _ _ (by omega) HT.out).mono ?_
      rintro e w1 ⟨rfl, hb1⟩
      have HT1 := Lib.hid (Utf8Tabs_below HT.out hb1)
      go_wp2_with fail
      refine (bad_any _ _ (by omega) HT1.out).mono ?_
      rintro e w2 ⟨rfl, hb2⟩
      go_wp2_with fail
      refine (runes_any strOne _ (by decide)).mono ?_
      rintro e w3 ⟨rfl, hb3⟩
      rw [runes_one]
      go_wp2_with fail
      go_ret
      exact ⟨rfl, bstep (bstep hb1 hb2) hb3⟩
    · have HJ := Lib.hid (join_bad a b (by omega) (by omega))
      have HR := Lib.hid (show ((allP (a ++ b)).length : Int) = ((allP a).length : Int) + ((allP b).length : Int) by rw [join_runes a b (by omega)]; simp)
      have la := allP_len a
      have lb := allP_len b
      have hz : (a ++ b).size ≤ 562949953421312 := by rw [ByteArray.size_append]; omega
      have HZ := Lib.hid hz
      clear hz
      go_enter Tryd.func7, Tryd.ntmps7
      go_wp2_with fail
      refine (bad_any _ _ (by omega) HT.out).mono ?_
      rintro e w1 ⟨rfl, hb1⟩
      have HT1 := Lib.hid (Utf8Tabs_below HT.out hb1)
      go_wp2_with fail
      refine (bad_any _ _ (by omega) HT1.out).mono ?_
      rintro e w2 ⟨rfl, hb2⟩
      have HT2 := Lib.hid (Utf8Tabs_below HT1.out hb2)
      go_wp2_with fail
      refine (bad_any _ _ HZ.out HT2.out).mono ?_
      rintro e w3 ⟨rfl, hb3⟩
      rw [HJ.out]
      go_wp2_with fail
      refine (runes_any _ _ HZ.out).mono ?_
      rintro e w4 ⟨rfl, hb4⟩
      rw [HR.out]
      go_wp2_with fail
      refine (runes_any _ _ (by omega)).mono ?_
      rintro e w5 ⟨rfl, hb5⟩
      go_wp2_with fail
      refine (runes_any _ _ (by omega)).mono ?_
      rintro e w6 ⟨rfl, hb6⟩
      go_wp2_with fail
      refine (runes_any strOne _ (by decide)).mono ?_
      rintro e w7 ⟨rfl, hb7⟩
      rw [runes_one]
      go_wp2_with fail
      go_ret
      exact ⟨rfl, bstep (bstep (bstep (bstep (bstep (bstep hb1 hb2) hb3) hb4) hb5) hb6) hb7⟩
end Go.Proofs.YthdcamklbjlanaaDoor
