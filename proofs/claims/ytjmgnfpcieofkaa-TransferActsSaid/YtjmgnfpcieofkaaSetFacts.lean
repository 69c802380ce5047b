/- Settings: what the kernel reckons. No Go function is spoken of. -/
import Derived.Test.YtjmgnfpcieofkaaSetMath
namespace Go.Proofs.Ytjmgnfpcieofkaa
set_option linter.unusedVariables false

def fl7 : RecS := { zeroS with floor := 7 }
def lastR : RecS := { zeroS with seq := 4294967295 }
theorem live_save : ((FlS.new 2).save fl7).2.2 = 0 ∧ ((FlS.new 2).save fl7).2.1.seq = 1 := by decide +kernel
theorem live_load : ((FlS.new 2).save fl7).1.load.2.2 = 0 ∧ ((FlS.new 2).save fl7).1.load.1.seq = 1 ∧ ((FlS.new 2).save fl7).1.load.1.floor = 7 ∧ ((FlS.new 2).save fl7).1.load.2.1 = 0 := by decide +kernel
theorem args_new : ∀ k, k < 4 → (FlS.new (2 + k)).load.2.2 = 15 := by decide +kernel
theorem args_last : ∀ k, k < 4 → ((FlS.new (2 + k)).prog 256 (recBytes lastR)).1.load.1.seq = 4294967295 ∧ ((FlS.new (2 + k)).prog 256 (recBytes lastR)).1.load.2.2 = 0 := by decide +kernel
theorem args_off : ∀ k, k < 4 → ((FlS.new (2 + k)).prog 256 (recBytes lastR)).1.off = false ∧ ((FlS.new (2 + k)).prog 256 (recBytes lastR)).1.B.length = 512 + 256 * k ∧ ((FlS.new (2 + k)).prog 256 (recBytes lastR)).1.worn.length = 2 + k := by decide +kernel
theorem last_right : lastR.right = true := by decide +kernel
end Go.Proofs.Ytjmgnfpcieofkaa
