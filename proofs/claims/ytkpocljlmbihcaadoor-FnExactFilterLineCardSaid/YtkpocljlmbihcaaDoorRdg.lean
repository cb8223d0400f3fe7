/- Digits of a row: contracts of readDigits. -/
import Derived.Test.YtkpocljlmbihcaaDoorRdl
namespace Go.Proofs.YtkpocljlmbihcaaDoor
set_option maxRecDepth 100000
open Go.RowKit

end Go.Proofs.YtkpocljlmbihcaaDoor
