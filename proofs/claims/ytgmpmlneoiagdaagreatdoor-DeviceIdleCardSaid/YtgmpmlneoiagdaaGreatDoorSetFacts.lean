/- Settings: what the kernel reckons. No Go function is spoken of. -/
import Derived.Test.YtgmpmlneoiagdaaGreatDoorSetMath
namespace Go.Proofs.YtgmpmlneoiagdaaGreatDoor
set_option linter.unusedVariables false

end Go.Proofs.YtgmpmlneoiagdaaGreatDoor
