import Derived.Test.YtgfjdnmnjabbbaaDoorLawPolicyNotes
import Derived.Test.YtgfjdnmnjabbbaaDoorDoorU
import Derived.Test.YtgfjdnmnjabbbaaDoorDoorN
import Derived.Test.YtgfjdnmnjabbbaaDoorDoorZ
/-! PolicyNotes: the listed variables -/
namespace Go.Proofs.YtgfjdnmnjabbbaaDoor
set_option linter.unusedVariables false
open Go.RowKit
theorem notesTabs {W : World} (h : laidMetH Tryd.prog Rows.policyNotesRow.laid W) : Lib.Utf8Tabs 0 1 W ∧ Errs W ∧ Pow W ∧ Tz W :=
  ⟨utabs_of h (by kernel_rfl), errs_of h (by kernel_rfl) (by kernel_rfl), pow_of (laid_one h (fun x => x.1 == "internal/strconv.uint64pow10") (by kernel_rfl)), tz_of h (by kernel_rfl)⟩
end Go.Proofs.YtgfjdnmnjabbbaaDoor
