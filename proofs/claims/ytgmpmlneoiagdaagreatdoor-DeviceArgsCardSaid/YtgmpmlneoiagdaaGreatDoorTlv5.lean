/- The document's answer for tlv: items as bytes; and whether items are the same. -/
import Derived.Test.YtgmpmlneoiagdaaGreatDoorTlv3
import Derived.Test.YtgmpmlneoiagdaaGreatDoorTlv4
namespace Go.Proofs.YtgmpmlneoiagdaaGreatDoor
open Go.ChangeShapes Go.WideShapes Go.ChangeAt Go.RowKit
set_option linter.unusedVariables false

end Go.Proofs.YtgmpmlneoiagdaaGreatDoor
