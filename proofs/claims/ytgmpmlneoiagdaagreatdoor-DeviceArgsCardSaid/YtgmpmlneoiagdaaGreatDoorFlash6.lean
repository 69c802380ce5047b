/- A page of flash is erased. -/
import Derived.Test.YtgmpmlneoiagdaaGreatDoorGFl
namespace Go.Proofs.YtgmpmlneoiagdaaGreatDoor
open Go.ChangeShapes Go.WideShapes Go.ChangeAt Go.RowKit
set_option linter.unusedVariables false
set_option linter.unusedSimpArgs false

end Go.Proofs.YtgmpmlneoiagdaaGreatDoor
