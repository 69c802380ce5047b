/- No flash: what its functions answer. -/
import Derived.Test.YtdieaegajahdpaaDoorFlash3
namespace Go.Proofs.YtdieaegajahdpaaDoor
open Go.ChangeShapes Go.WideShapes Go.ChangeAt Go.RowKit
set_option linter.unusedVariables false

abbrev fnil : Value := .pointer Option.none
theorem ready_nil (a b : Int) (w : World) : Calls Tryd.prog 76 #[fnil] w fun e w' => e = .returned (.int .i64 1) ∧ w = w' := by
  go_enter Tryd.func76, Tryd.ntmps76
  go_wp2_with fail
  go_ret
  exact ⟨rfl, rfl⟩
theorem erase_nil (a b : Int) (w : World) : Calls Tryd.prog 64 #[fnil, .int .i64 a] w fun e w' => e = .returned (.int .i64 1) ∧ w = w' := by
  go_enter Tryd.func64, Tryd.ntmps64
  go_wp2_with fail
  refine (ready_nil 0 0 w).mono ?_
  rintro e w1 ⟨rfl, rfl⟩
  go_wp2_with fail
  go_ret
  exact ⟨rfl, rfl⟩
theorem size_nil (a b : Int) (w : World) : Calls Tryd.prog 58 #[fnil] w fun e w' => e = .returned (.int .i64 0) ∧ w = w' := by
  go_enter Tryd.func58, Tryd.ntmps58
  go_wp2_with fail
  go_ret
  exact ⟨rfl, rfl⟩
theorem program_nil (a b : Int) (w : World) : Calls Tryd.prog 65 #[fnil, .int .i64 a, .slice Option.none 0 0] w fun e w' => e = .returned (.int .i64 1) ∧ w = w' := by
  go_enter Tryd.func65, Tryd.ntmps65
  go_wp2_with fail
  refine (ready_nil 0 0 w).mono ?_
  rintro e w1 ⟨rfl, rfl⟩
  go_wp2_with fail
  go_ret
  exact ⟨rfl, rfl⟩
theorem read_nil (a b : Int) (w : World) : Calls Tryd.prog 61 #[fnil, .int .i64 a, .int .i64 b] w fun e w' => e = .returned (.tuple #[.slice Option.none 0 0, .int .i64 1]) ∧ w = w' := by
  go_enter Tryd.func61, Tryd.ntmps61
  go_wp2_with fail
  refine (ready_nil 0 0 w).mono ?_
  rintro e w1 ⟨rfl, rfl⟩
  go_wp2_with fail
  go_ret2
  exact ⟨rfl, rfl⟩
end Go.Proofs.YtdieaegajahdpaaDoor
