import Derived.Test.YthjfgfgkbfhdfaaGreatDoorLawPolicyTurns
import Derived.Test.YthjfgfgkbfhdfaaGreatDoorOpenP
import Derived.Test.YthjfgfgkbfhdfaaGreatDoorDoorU
import Derived.Test.YthjfgfgkbfhdfaaGreatDoorDoorN
import Derived.Test.YthjfgfgkbfhdfaaGreatDoorDoorZ
/-! PolicyTurns: the listed variables -/
namespace Go.Proofs.YthjfgfgkbfhdfaaGreatDoor
set_option linter.unusedVariables false
open Go.RowKit
theorem turnsTabs {W : World} (h : laidMetH Tryz.prog Rows.policyTurnsRow.laid W) : Lib.Utf8Tabs 1 2 W ∧ Errs W ∧ Pow W ∧ Tz W :=
  ⟨utabs_of h (by kernel_rfl), errs_of h (by kernel_rfl) (by kernel_rfl), pow_of (laid_one h (fun x => x.1 == "internal/strconv.uint64pow10") (by kernel_rfl)), tz_of h (by kernel_rfl)⟩
end Go.Proofs.YthjfgfgkbfhdfaaGreatDoor
