/- A decoder of a size that there can't be. -/
import Derived.Test.YtdbnjejpejmmjaaDeslip
namespace Go.Proofs.Ytdbnjejpejmmjaa
open Go.ChangeShapes Go.WideShapes Go.ChangeAt Go.RowKit
set_option linter.unusedVariables false

theorem dnew_err (m : Int) (h : m < 1 ∨ 65536 < m) (w : World) :
    Calls Try.prog 36 #[.int .i64 m] w fun e w' => e = .returned (.tuple #[.pointer Option.none, .int .i64 1]) ∧ w = w' := by
  rcases (show m < 1 ∨ (1 ≤ m ∧ 65536 < m) by omega) with h1 | ⟨h1, h2⟩
  all_goals
    clear h
    go_enter Try.func36, Try.ntmps36
    go_wp2_with fail
    go_ret2
    exact ⟨rfl, rfl⟩
end Go.Proofs.Ytdbnjejpejmmjaa
