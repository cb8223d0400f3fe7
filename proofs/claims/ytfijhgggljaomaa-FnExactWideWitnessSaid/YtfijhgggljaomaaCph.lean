/- The program's check of all targets, of a name, and of a whole configuration. -/
import Derived.Test.YtfijhgggljaomaaCpg
namespace Go.Proofs.Ytfijhgggljaomaa
open Go.RowKit
set_option linter.unusedVariables false

end Go.Proofs.Ytfijhgggljaomaa
