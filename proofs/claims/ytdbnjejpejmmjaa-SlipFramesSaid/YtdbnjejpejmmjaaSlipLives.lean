/- The example of slip. -/
import Derived.Test.YtdbnjejpejmmjaaSlip2
import Derived.Test.YtdbnjejpejmmjaaOpen
namespace Go.Proofs.Ytdbnjejpejmmjaa
open Go.ChangeShapes Go.WideShapes Go.ChangeAt Go.RowKit
set_option linter.unusedVariables false

set_option maxRecDepth 100000 in
set_option maxHeartbeats 1000000 in
theorem lives09_any (w : World) : Calls Try.prog 31 #[] w fun e w' => e = .returned (.bool true) ∧ Below w.heap.size w w' := by
  have h1 := IsBytes.new w [1, 192] (by decide) 5
  have h2 := IsRows.one h1 22
  simp only [World.size_alloc] at h2
  have H2 := hide h2
  clear h1 h2
  go_enter Try.func31, Try.ntmps31
  go_wp2_with fail
  refine (encode_any _ _ _ H2.out (by decide)).mono ?_
  rintro e w1 ⟨v1, rfl, ho1, hs1⟩
  dsimp only at ho1
  have hB1 := all_below ho1.right hs1
  have hB : Below w.heap.size w w1 := (((Below.refl _ _).alloc (Nat.le_refl _) _).alloc (by simp) _).trans (hB1.mono (by go_size))
  have hO1 := own_bytes ho1
  rw [show frames [[1, 192]] = [1, 219, 220, 192] by decide] at hO1
  obtain ⟨a1, c1, rfl, _, _, hl1, _⟩ := hO1
  have hc1 := run_string_of (P := Try.prog) (w := w1) (c := c1) Try.underlying22 Try.underlying5 hl1
  rw [show ([1, 219, 220, 192] : List UInt8).length = 4 from rfl] at hc1
  have hstr := Try.underlying9
  have h3 := IsBytes.new w1 [1, 192] (by decide) 5
  go_wp2_with fail
  refine (len_any _ _ _ h3 (by decide)).mono ?_
  rw [show (frame [1, 192]).length = 4 by decide]
  rintro e w2 ⟨rfl, rfl⟩
  go_wp2
  go_ret
  exact ⟨rfl, hB.alloc hB.size _⟩
end Go.Proofs.Ytdbnjejpejmmjaa
