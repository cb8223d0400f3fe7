/- The program's check of all targets, of a name, and of a whole configuration. -/
import Derived.Test.YtfijhgggljaomaaDoorCpg
namespace Go.Proofs.YtfijhgggljaomaaDoor
set_option maxRecDepth 100000
open Go.RowKit
set_option linter.unusedVariables false

end Go.Proofs.YtfijhgggljaomaaDoor
