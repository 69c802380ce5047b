/- The laws of crc. -/
import Derived.Test.YtdbnjejpejmmjaaCrc3
import Derived.Test.YtdbnjejpejmmjaaOpen
namespace Go.Proofs.Ytdbnjejpejmmjaa
open Go.ChangeShapes Go.WideShapes Go.ChangeAt Go.RowKit
set_option linter.unusedVariables false

theorem crc_known : crcUpd 0 (List.flatten [[49, 50, 51, 52], [53, 54, 55, 56, 57]]) = 3421780262 := by decide +kernel

set_option maxRecDepth 100000 in
set_option maxHeartbeats 1000000 in
theorem lives02_any (w : World) : Calls Try.prog 27 #[] w fun e w' => e = .returned (.bool true) ∧ Below w.heap.size w w' := by
  have kc := fun (w : World) (b : Nat) (hb : b = w.heap.size) (C : Array Value) (n c : Nat) => run_bytes_const (P := Try.prog) w b hb 22 5 C n c Try.underlying22 Try.underlying5
  have h1 := IsBytes.newM w [49, 50, 51, 52] (by decide) 5 (4, 5)
  have h2 := IsBytes.newM (w.alloc (.cells (vbs [49, 50, 51, 52]).toArray 5 (4, 5))) [53, 54, 55, 56, 57] (by decide) 5 (5, 6)
  have h1' := h1.below (((Below.refl _ _).alloc (Nat.le_refl _) (.cells (vbs [53, 54, 55, 56, 57]).toArray 5 (5, 6))))
  have h3 := IsRows.new2 h1' h2 22
  simp only [World.size_alloc] at h3
  have H3 := hide h3
  clear h1 h2 h1' h3
  go_enter Try.func27, Try.ntmps27
  go_wp2_with (go_at_call 30; refine (sum_any _ _ _ H3.out).mono ?_; rw [crc_known]; rintro e w1 ⟨rfl, hb1⟩)
  go_ret
  exact ⟨rfl, ((((Below.refl _ _).alloc (Nat.le_refl _) _).alloc (by simp) _).alloc (by go_size) _).trans (hb1.mono (by go_size))⟩
end Go.Proofs.Ytdbnjejpejmmjaa
