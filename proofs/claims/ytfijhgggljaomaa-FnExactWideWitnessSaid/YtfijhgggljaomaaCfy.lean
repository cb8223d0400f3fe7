/- The model's check of a whole configuration. -/
import Derived.Test.YtfijhgggljaomaaCfx
import Derived.Test.YtfijhgggljaomaaCfl
namespace Go.Proofs.Ytfijhgggljaomaa
open Go.RowKit
set_option linter.unusedVariables false

end Go.Proofs.Ytfijhgggljaomaa
