/- settings: a page is written, in three steps. -/
import Derived.Test.YtgmpmlneoiagdaaGreatDoorSet2
namespace Go.Proofs.YtgmpmlneoiagdaaGreatDoor
open Go.ChangeShapes Go.WideShapes Go.ChangeAt Go.RowKit
set_option linter.unusedVariables false
set_option linter.unusedSimpArgs false

end Go.Proofs.YtgmpmlneoiagdaaGreatDoor
