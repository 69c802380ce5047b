/- the document's numbers: of words; the law's numbers of both kinds. -/
import Derived.Test.YtbplbdnofobbiaaDoorFe13
set_option linter.unusedVariables false
set_option linter.unusedSimpArgs false
set_option maxRecDepth 100000
set_option maxHeartbeats 8000000
namespace Go.Proofs.YtbplbdnofobbiaaDoor
namespace Fe
open Go.ChangeShapes Go.WideShapes Go.ChangeAt Go.RowKit
end Fe
end Go.Proofs.YtbplbdnofobbiaaDoor
