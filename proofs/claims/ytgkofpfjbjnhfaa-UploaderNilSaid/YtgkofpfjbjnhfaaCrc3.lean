/- The document's own check sum: bit by bit. -/
import Derived.Test.YtgkofpfjbjnhfaaCrc2
namespace Go.Proofs.Ytgkofpfjbjnhfaa
open Go.ChangeShapes Go.WideShapes Go.ChangeAt Go.RowKit
set_option linter.unusedVariables false

/-- the register behind k bits of a byte x, c having been ahead of it -/
def refBits (c x k : Nat) : Nat := crcSteps k (c ^^^ x) ^^^ (x / 2 ^ k)
theorem refBits_zero (c x : Nat) : refBits c x 0 = c := by
  simp [refBits, crcSteps, Nat.xor_assoc]
theorem refBits_end (c x : Nat) (hx : x < 256) : refBits c x 8 = crcByte c x := by
  rw [crcByte_steps c x hx, refBits, show x / 2 ^ 8 = 0 from Nat.div_eq_of_lt hx, Nat.xor_zero]
theorem refBits_succ (c x k : Nat) : refBits c x (k + 1) = if refBits c x k % 2 ≠ x / 2 ^ k % 2 then (refBits c x k / 2) ^^^ 3988292384 else refBits c x k / 2 := by
  have hy : crcSteps k (c ^^^ x) = refBits c x k ^^^ (x / 2 ^ k) := by rw [refBits, Nat.xor_assoc, Nat.xor_self, Nat.xor_zero]
  rw [refBits, crcSteps, hy]
  generalize refBits c x k = z
  rw [Nat.pow_succ, ← Nat.div_div_eq_div_mul]
  generalize x / 2 ^ k = y
  unfold crcStep
  rw [xor_mod2, xor_div2]
  rcases Nat.mod_two_eq_zero_or_one z with ha | ha <;> rcases Nat.mod_two_eq_zero_or_one y with hb | hb <;> simp [ha, hb]
  · rw [Nat.xor_assoc, Nat.xor_self, Nat.xor_zero]
  · rw [Nat.xor_assoc, Nat.xor_assoc, Nat.xor_comm (y / 2), Nat.xor_assoc, Nat.xor_self, Nat.xor_zero]
  · rw [Nat.xor_assoc, Nat.xor_assoc, Nat.xor_comm (y / 2), Nat.xor_assoc, Nat.xor_self, Nat.xor_zero]
  · rw [Nat.xor_assoc, Nat.xor_self, Nat.xor_zero]
theorem refBits_lt {c x : Nat} (hc : c < 4294967296) (hx : x < 256) (k : Nat) : refBits c x k < 4294967296 := by
  have h1 := crcSteps_lt (c := c ^^^ x) (Nat.xor_lt_two_pow (n := 32) (by omega) (by omega)) k
  have h2 : x / 2 ^ k ≤ x := Nat.div_le_self _ _
  exact Nat.xor_lt_two_pow (n := 32) (by omega) (by omega)

end Go.Proofs.Ytgkofpfjbjnhfaa
