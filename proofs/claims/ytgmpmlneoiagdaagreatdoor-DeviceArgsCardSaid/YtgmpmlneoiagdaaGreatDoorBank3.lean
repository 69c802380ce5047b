/- bank: pages are erased, bytes are written, whatever comes of it. -/
import Derived.Test.YtgmpmlneoiagdaaGreatDoorBank2
import Derived.Test.YtgmpmlneoiagdaaGreatDoorSetMath
namespace Go.Proofs.YtgmpmlneoiagdaaGreatDoor
open Go.ChangeShapes Go.WideShapes Go.ChangeAt Go.RowKit
set_option linter.unusedVariables false
set_option linter.unusedSimpArgs false

end Go.Proofs.YtgmpmlneoiagdaaGreatDoor
