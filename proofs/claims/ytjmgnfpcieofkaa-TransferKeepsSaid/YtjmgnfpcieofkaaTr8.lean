/- transfer: no flash; nothing is nothing. -/
import Derived.Test.YtjmgnfpcieofkaaTr7
namespace Go.Proofs.Ytjmgnfpcieofkaa
open Go.ChangeShapes Go.WideShapes Go.ChangeAt Go.RowKit
set_option linter.unusedVariables false
set_option linter.unusedSimpArgs false

set_option maxRecDepth 100000 in
set_option maxHeartbeats 8000000 in
theorem tnew_nil (w : World) : Calls Try.prog 21 #[fnil] w fun e w' => e = .returned (.tuple #[.pointer Option.none, .int .i64 1]) ∧ w = w' := by
  have hS := size_nil 0 0 w
  go_enter Try.func21, Try.ntmps21
  go_wp2_with fail
  refine hS.mono ?_
  clear hS
  rintro e w1 ⟨rfl, rfl⟩
  go_wp2_with fail
  go_ret2
  exact ⟨rfl, rfl⟩
set_option maxRecDepth 100000 in
set_option maxHeartbeats 8000000 in
theorem zsame_any (iv : Value) (w : World) (h : IsBytes w iv []) : Calls Try.prog 19 #[.agg (recCells zeroS iv), .agg (recCells zeroS nilV)] w fun e w' => e = .returned (.bool true) ∧ Below w.heap.size w w' := by
  have hb2 : Below w.heap.size w ((w.alloc (.cells (recCells zeroS iv) 35)).alloc (.cells (recCells zeroS nilV) 35)) := alloc1.alloc (by simp) _
  have g1 := h.below hb2
  obtain ⟨a1, c1, rfl, _, _, _, _⟩ := h
  have hE := equal_any _ _ _ _ _ g1 (IsBytes.nil _)
  rw [show decide (([] : List UInt8) = []) = true from rfl] at hE
  have Hb2 := hide hb2
  clear hb2 g1
  go_enter Try.func19, Try.ntmps19
  go_wp2_with fail
  refine hE.mono ?_
  clear hE
  rintro e w1 ⟨rfl, rfl⟩
  go_wp2_with fail
  go_ret
  exact ⟨rfl, Hb2.out⟩
end Go.Proofs.Ytjmgnfpcieofkaa
