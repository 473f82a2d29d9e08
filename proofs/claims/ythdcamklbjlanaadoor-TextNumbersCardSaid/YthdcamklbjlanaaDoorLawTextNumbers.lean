import Derived.Test.YthdcamklbjlanaaDoorRNumber2
import Derived.Test.YthdcamklbjlanaaDoorDoorN
/-! TextNumbers: the walk -/
namespace Go.Proofs.YthdcamklbjlanaaDoor
set_option linter.unusedVariables false
open Go.RowKit
theorem numbers_pow {W : World} (h : laidMetH Tryd.prog Rows.textNumbersRow.laid W) : Pow W := pow_of (laid_one h (fun x => x.1 == "internal/strconv.uint64pow10") (by kernel_rfl))
theorem numbers_errs {W : World} (h : laidMetH Tryd.prog Rows.textNumbersRow.laid W) : Errs W := errs_of h (by kernel_rfl) (by kernel_rfl)

def str1 : ByteArray := ⟨#[49]⟩
theorem num_one : num 1 = str1 := by
  unfold num
  rw [show (1 : Int) = ((1 : Nat) : Int) from rfl, Lib.itoa_nonneg, Lib.decDigits_one (by decide)]; rfl

set_option maxRecDepth 100000 in
set_option maxHeartbeats 800000 in
theorem textNumbers_walk (s : ByteArray) (w : World) (hs : s.size ≤ 140737488351232) (hp : Pow w) (he : Errs w) :
    Calls Tryd.prog 4 #[.string s] w fun e w' => e = .returned (.bool true) ∧ Below w.heap.size w w' := by
  have HT := Lib.hid hp
  have HE := Lib.hid he
  clear hp he
  go_enter Tryd.func4, Tryd.ntmps4
  go_wp2_with fail
  refine (number_any s _ hs HE.out HT.out).mono ?_
  rintro e w1 ⟨⟨v, ok, rfl, hr⟩, hb1⟩
  have HR := Lib.hid hr
  clear hr
  go_wp2_with fail
  refine (rnumber_any s _).mono ?_
  rintro e w2 ⟨⟨v', ok', rfl, hr⟩, m, rfl⟩
  obtain ⟨rfl, rfl⟩ := HR.out.same hr
  clear hr
  have hB := bdrew hb1 m
  clear hb1
  have HT1 := Lib.hid (HT.out.below hB)
  have HE1 := Lib.hid (HE.out.below hB)
  go_wp2_with fail
  refine (number_any str1 _ (by decide) HE1.out HT1.out).mono ?_
  rintro e w3 ⟨⟨v1, ok1, rfl, hr1⟩, hb3⟩
  rw [← num_one] at hr1
  obtain ⟨rfl, rfl⟩ := hr1.of_num (by decide) (by decide)
  clear hr1
  go_wp2_with fail
  go_ret
  exact ⟨rfl, bstep hB hb3⟩
end Go.Proofs.YthdcamklbjlanaaDoor
