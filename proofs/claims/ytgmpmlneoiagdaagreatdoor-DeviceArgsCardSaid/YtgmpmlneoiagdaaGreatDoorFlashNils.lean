/- No flash: what its functions answer. -/
import Derived.Test.YtgmpmlneoiagdaaGreatDoorGFl
namespace Go.Proofs.YtgmpmlneoiagdaaGreatDoor
open Go.ChangeShapes Go.WideShapes Go.ChangeAt Go.RowKit
set_option linter.unusedVariables false

abbrev fnil : Value := .pointer Option.none
theorem size_nil (a b : Int) (w : World) : Calls Tryz.prog 16 #[fnil] w fun e w' => e = .returned (.int .i64 0) ∧ w = w' := by
  go_enter Tryz.func16, Tryz.ntmps16
  go_wp2_with fail
  go_ret
  exact ⟨rfl, rfl⟩
end Go.Proofs.YtgmpmlneoiagdaaGreatDoor
