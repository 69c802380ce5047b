/- settings: Save. -/
import Derived.Test.YtgmpmlneoiagdaaGreatDoorSet4
import Derived.Test.YtgmpmlneoiagdaaGreatDoorGRecB
namespace Go.Proofs.YtgmpmlneoiagdaaGreatDoor
open Go.ChangeShapes Go.WideShapes Go.ChangeAt Go.RowKit
set_option linter.unusedVariables false
set_option linter.unusedSimpArgs false

theorem rc_init (r : RecS) (v v' : Value) : (recCells r v).setIfInBounds 6 v' = recCells r v' := rfl
end Go.Proofs.YtgmpmlneoiagdaaGreatDoor
