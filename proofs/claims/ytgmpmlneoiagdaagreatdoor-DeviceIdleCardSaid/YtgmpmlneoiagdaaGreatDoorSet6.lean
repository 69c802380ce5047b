/- settings: no flash; the chapter's example. -/
import Derived.Test.YtgmpmlneoiagdaaGreatDoorSet5
import Derived.Test.YtgmpmlneoiagdaaGreatDoorSetFacts
import Derived.Test.YtgmpmlneoiagdaaGreatDoorGFlN
namespace Go.Proofs.YtgmpmlneoiagdaaGreatDoor
open Go.ChangeShapes Go.WideShapes Go.ChangeAt Go.RowKit
set_option linter.unusedVariables false
set_option linter.unusedSimpArgs false

end Go.Proofs.YtgmpmlneoiagdaaGreatDoor
