import Derived.Test.YtodhoplchficpaaDoorGraM
set_option linter.unusedSimpArgs false
set_option linter.unusedVariables false
/-! graphs: what only reads -/
namespace Go.Proofs.YtodhoplchficpaaDoor
open Go.RowKit

end Go.Proofs.YtodhoplchficpaaDoor
