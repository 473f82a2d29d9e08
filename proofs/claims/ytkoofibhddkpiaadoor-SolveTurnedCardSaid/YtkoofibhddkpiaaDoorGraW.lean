import Derived.Test.YtkoofibhddkpiaaDoorGraM
set_option linter.unusedSimpArgs false
set_option linter.unusedVariables false
/-! graphs: what only reads -/
namespace Go.Proofs.YtkoofibhddkpiaaDoor
open Go.RowKit

end Go.Proofs.YtkoofibhddkpiaaDoor
