import Derived.Test.YtkoofibhddkpiaaDoorPlatP
import Derived.Test.YtkoofibhddkpiaaDoorMaskG
import Derived.Maps.AppendAt
set_option linter.unusedSimpArgs false
set_option linter.unusedVariables false
/-! the walks of layer 5's above, nearest -/
namespace Go.Proofs.YtkoofibhddkpiaaDoor
open Go.RowKit Go.Shelf
attribute [local go_sem] Oper.semAt_some

end Go.Proofs.YtkoofibhddkpiaaDoor
