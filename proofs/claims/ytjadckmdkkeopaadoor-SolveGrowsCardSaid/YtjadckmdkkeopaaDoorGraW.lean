import Derived.Test.YtjadckmdkkeopaaDoorGraM
set_option linter.unusedSimpArgs false
set_option linter.unusedVariables false
/-! graphs: what only reads -/
namespace Go.Proofs.YtjadckmdkkeopaaDoor
open Go.RowKit

end Go.Proofs.YtjadckmdkkeopaaDoor
