/- The Go functions of bank: where its bytes begin, which are inside, and no bank. -/
import Derived.Test.YtgmpmlneoiagdaaGreatDoorGFl
import Derived.Test.YtgmpmlneoiagdaaGreatDoorFlashNils
import Derived.Test.YtgmpmlneoiagdaaGreatDoorGBase
import Derived.BigQuiet
namespace Go.Proofs.YtgmpmlneoiagdaaGreatDoor
open Go.ChangeShapes Go.WideShapes Go.ChangeAt Go.RowKit
set_option linter.unusedVariables false

abbrev bankV (fp : Value) (first : Int) : Value := .agg #[fp, .int .i64 first]
end Go.Proofs.YtgmpmlneoiagdaaGreatDoor
