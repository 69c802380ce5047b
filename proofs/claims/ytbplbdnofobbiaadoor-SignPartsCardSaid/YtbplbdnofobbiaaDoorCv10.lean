/- curve: a point's bytes; which bytes are a point's. -/
import Derived.Test.YtbplbdnofobbiaaDoorCv9
set_option linter.unusedVariables false
set_option linter.unusedSimpArgs false
set_option maxRecDepth 100000
set_option maxHeartbeats 8000000
namespace Go.Proofs.YtbplbdnofobbiaaDoor
namespace Cv
open Fe
open Go.ChangeShapes Go.WideShapes Go.ChangeAt Go.RowKit
def zB (n : Nat) : Array Value := zb (bl n)
theorem zBInfo (n : Nat) : (Tryd.prog.info? 38).map (·.size) = some (zB n).size := bInfo _ (bl_len n)
theorem zBOne (n : Nat) : (zB n).all (·.oneCell') = true := bOne _
theorem zBSize (m n : Nat) : (zB m).size = (zB n).size := bSize _ _ (bl_len m) (bl_len n)
theorem zBZero (w : World) : (zeroValue 38).run Tryd.prog w = .ok (.agg (zB 0)) w := by unfold zB; rw [bl_0]; exact bZero w
def tB (n : Nat) : Nat := n / 256 ^ 31
theorem P31 : 2 ^ 255 = 128 * 256 ^ 31 := by decide +kernel
theorem P32 : 256 ^ 32 = 256 * 256 ^ 31 := by decide +kernel
theorem P31_pos : 0 < 256 ^ 31 := by decide +kernel
theorem tB_lt (n : Nat) (h : n < 256 ^ 32) : tB n < 256 := by
 have h1 := P32
 have h2 := P31_pos
 unfold tB
 generalize 256 ^ 31 = K at *
 generalize 256 ^ 32 = M at *
 rw [Nat.div_lt_iff_lt_mul h2]; omega
theorem tB_half (y : Nat) (h : y < 2 ^ 255) : tB y < 128 := by
 have h1 := P31
 have h2 := P31_pos
 unfold tB
 generalize 256 ^ 31 = K at *
 generalize 2 ^ 255 = M at *
 rw [Nat.div_lt_iff_lt_mul h2]; omega
theorem tB_up (y : Nat) : tB (y + 2 ^ 255) = tB y + 128 := by
 have h1 := P31
 have h2 := P31_pos
 unfold tB
 generalize 256 ^ 31 = K at *
 generalize 2 ^ 255 = M at *
 subst h1
 rw [Nat.add_mul_div_right _ _ h2]
theorem tB_at (n : Nat) (h : n < 256 ^ 32) : (bl n)[31]? = some (UInt8.ofNat (tB n)) := by
 have h1 := tB_lt n h
 rw [bl_get n 31 (by decide)]
 unfold tB at *
 rw [Nat.mod_eq_of_lt h1]
theorem zB_cell (n : Nat) (h : n < 256 ^ 32) : (zB n)[31]? = some (vb (UInt8.ofNat (tB n))) := zb_get _ _ _ (tB_at n h)
theorem bl_up (y : Nat) (h : y < 2 ^ 255) : (bl y).set 31 (UInt8.ofNat (tB y + 128)) = bl (y + 2 ^ 255) := by
 have hb := bl_bit (y + 2 ^ 255) 255
 have h3 : 2 ^ 256 = 2 * 2 ^ 255 := by decide +kernel
 have e1 : (y + 2 ^ 255) % 2 ^ (255 + 1) = y + 2 ^ 255 := Nat.mod_eq_of_lt (by show _ < 2 ^ 256; omega)
 have e2 : (y + 2 ^ 255) % 2 ^ 255 = y := by rw [Nat.add_mod_right, Nat.mod_eq_of_lt h]
 have e3 : (y + 2 ^ 255).testBit 255 = true := by
  rw [Nat.testBit_eq_decide_div_mod_eq, Nat.add_div_right _ (Nat.pow_pos (by decide)), Nat.div_eq_of_lt h]; rfl
 rw [e1, e2, if_pos e3] at hb
 rw [hb]
 have := tB_half y h
 show _ = (bl y).set (255 / 8) (UInt8.ofNat (y / 256 ^ (255 / 8) % 256 + 2 ^ (255 % 8)))
 show _ = (bl y).set 31 (UInt8.ofNat (y / 256 ^ 31 % 256 + 2 ^ 7))
 unfold tB at *
 rw [Nat.mod_eq_of_lt (by omega)]
theorem bl_mask (n : Nat) (h : n < 256 ^ 32) : (bl n).set 31 (UInt8.ofNat (tB n % 128)) = bl (n % 2 ^ 255) := by
 have h5 : 256 ^ 32 = 2 * 2 ^ 255 := by decide +kernel
 by_cases hn : n < 2 ^ 255
 ·have h1 := tB_half n hn
  have h2 := tB_at n h
  rw [Nat.mod_eq_of_lt h1, Nat.mod_eq_of_lt hn]
  refine List.ext_getElem? fun j => ?_
  by_cases hj : j = 31
  ·subst hj; rw [List.getElem?_set_self (by rw [bl_len]; decide), h2]
  ·rw [List.getElem?_set_ne (by omega)]
 ·obtain ⟨y, rfl⟩ : ∃ y, n = y + 2 ^ 255 := ⟨n - 2 ^ 255, by omega⟩
  have hy : y < 2 ^ 255 := by omega
  have h1 := tB_half y hy
  have h2 := tB_at y (by omega)
  rw [← bl_up y hy, List.set_set, Nat.add_mod_right, Nat.mod_eq_of_lt hy, tB_up, Nat.add_mod_right, Nat.mod_eq_of_lt h1]
  refine List.ext_getElem? fun j => ?_
  by_cases hj : j = 31
  ·subst hj; rw [List.getElem?_set_self (by rw [bl_len]; decide), h2]
  ·rw [List.getElem?_set_ne (by omega)]
theorem and127 : ∀ b : Fin 256, bits .and .u8 ((b.val : Nat) : Int) 127 = ((b.val % 128 : Nat) : Int) := by decide +kernel
theorem top7 : ∀ b : Fin 256, (((b.val : Nat) : Int) / 128 == 1) = decide (128 ≤ b.val) := by decide +kernel
end Cv
end Go.Proofs.YtbplbdnofobbiaaDoor
