/- The document's four bytes of a number. -/
import Derived.Test.YtgmpmlneoiagdaaGreatDoorGRecA
import Derived.Test.YtgmpmlneoiagdaaGreatDoorGBase
namespace Go.Proofs.YtgmpmlneoiagdaaGreatDoor
open Go.ChangeShapes Go.WideShapes Go.ChangeAt Go.RowKit
set_option linter.unusedVariables false
set_option linter.unusedSimpArgs false

end Go.Proofs.YtgmpmlneoiagdaaGreatDoor
