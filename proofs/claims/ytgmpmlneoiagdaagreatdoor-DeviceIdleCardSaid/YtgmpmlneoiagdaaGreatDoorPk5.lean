/- The document's packets: their bytes; a packet as the document has it. -/
import Derived.Test.YtgmpmlneoiagdaaGreatDoorPk4
import Derived.Test.YtgmpmlneoiagdaaGreatDoorWord12
namespace Go.Proofs.YtgmpmlneoiagdaaGreatDoor
open Go.ChangeShapes Go.WideShapes Go.ChangeAt Go.RowKit
set_option linter.unusedVariables false
set_option linter.unusedSimpArgs false

end Go.Proofs.YtgmpmlneoiagdaaGreatDoor
