import Derived.Test.YtodhoplchficpaaDoorPlatP
import Derived.Test.YtodhoplchficpaaDoorMaskG
import Derived.Maps.AppendAt
set_option linter.unusedSimpArgs false
set_option linter.unusedVariables false
/-! the walks of layer 5's above, nearest -/
namespace Go.Proofs.YtodhoplchficpaaDoor
open Go.RowKit Go.Shelf
attribute [local go_sem] Oper.semAt_some

end Go.Proofs.YtodhoplchficpaaDoor
