/- bank: bytes of an image, and what is written. -/
import Derived.Test.YtgmpmlneoiagdaaGreatDoorBank
namespace Go.Proofs.YtgmpmlneoiagdaaGreatDoor
open Go.ChangeShapes Go.WideShapes Go.ChangeAt Go.RowKit
set_option linter.unusedVariables false

end Go.Proofs.YtgmpmlneoiagdaaGreatDoor
