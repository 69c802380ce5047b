/- the document's numbers: of words; the law's numbers of both kinds. -/
import Derived.Test.YtbplbdnofobbiaaDoorFe13
namespace Go.Proofs.YtbplbdnofobbiaaDoor
namespace Fe
open Go.ChangeShapes Go.WideShapes Go.ChangeAt Go.RowKit
set_option linter.unusedVariables false
set_option linter.unusedSimpArgs false

end Fe
end Go.Proofs.YtbplbdnofobbiaaDoor
