import Derived.Test.YtgfjdnmnjabbbaaDoorLawPolicyFinds
import Derived.Test.YtgfjdnmnjabbbaaDoorOpenP
import Derived.Test.YtgfjdnmnjabbbaaDoorDoorU
import Derived.Test.YtgfjdnmnjabbbaaDoorDoorN
import Derived.Test.YtgfjdnmnjabbbaaDoorDoorZ
/-! PolicyFinds: the listed variables -/
namespace Go.Proofs.YtgfjdnmnjabbbaaDoor
set_option linter.unusedVariables false
open Go.RowKit
theorem findsTabs {W : World} (h : laidMetH Tryd.prog Rows.policyFindsRow.laid W) : Lib.Utf8Tabs 0 1 W ∧ Errs W ∧ Pow W ∧ Tz W :=
  ⟨utabs_of h (by kernel_rfl), errs_of h (by kernel_rfl) (by kernel_rfl), pow_of (laid_one h (fun x => x.1 == "internal/strconv.uint64pow10") (by kernel_rfl)), tz_of h (by kernel_rfl)⟩
end Go.Proofs.YtgfjdnmnjabbbaaDoor
