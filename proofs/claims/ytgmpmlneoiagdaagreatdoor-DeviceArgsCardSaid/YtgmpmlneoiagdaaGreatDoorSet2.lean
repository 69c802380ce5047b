/- settings: a page is written, in three steps; the newest record and its page. -/
import Derived.Test.YtgmpmlneoiagdaaGreatDoorSet1
namespace Go.Proofs.YtgmpmlneoiagdaaGreatDoor
open Go.ChangeShapes Go.WideShapes Go.ChangeAt Go.RowKit
set_option linter.unusedVariables false
set_option linter.unusedSimpArgs false

/-- how Load ends -/
def LoadEnd (R : RecS × Nat × Nat) (w : World) (e : Ending) (w' : World) : Prop := ∃ iv, e = .returned (.tuple #[.agg (recCells R.1 iv), .int .i64 (R.2.1 : Nat), .int .i64 (R.2.2 : Nat)]) ∧ (ownR iv R.1.init * all w).on w' ∧ Str w w'
theorem rc_hz (X : World) : (zeroValue 31).run Tryz.prog X = .ok (.agg (recCells zeroS nilV)) X := by kernel_rfl

end Go.Proofs.YtgmpmlneoiagdaaGreatDoor
