/- Arrays of numbers: when two are equal. No Go function is spoken of. -/
import Derived.Test.YtgmpmlneoiagdaaGreatDoorGBase2
import Derived.ChangeKeysEq
namespace Go.Proofs.YtgmpmlneoiagdaaGreatDoor
open Go.RowKit
set_option linter.unusedVariables false
set_option linter.unusedSimpArgs false
variable {P : Program}

end Go.Proofs.YtgmpmlneoiagdaaGreatDoor
