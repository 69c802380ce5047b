/- The check sum: bit by bit, and by a table. Plain numbers; no Go function is spoken of. -/
import Derived.WalkKit
namespace Go.Proofs.Ytjmgnfpcieofkaa

def crcStep (c : Nat) : Nat := if c % 2 = 1 then (c / 2) ^^^ 3988292384 else c / 2
def crcSteps : Nat → Nat → Nat
  | 0, c => c
  | k + 1, c => crcStep (crcSteps k c)
def crcTab (n : Nat) : Nat := crcSteps 8 n
/-- a byte more, by the table -/
def crcByte (r : Nat) (x : Nat) : Nat := (r / 256) ^^^ crcTab ((r % 256) ^^^ x)
def crcBytes (r : Nat) (l : List UInt8) : Nat := l.foldl (fun r x => crcByte r x.toNat) r

theorem crcStep_lt {c : Nat} (h : c < 4294967296) : crcStep c < 4294967296 := by
  unfold crcStep
  split
  · exact Nat.xor_lt_two_pow (n := 32) (by omega) (by omega)
  · omega
theorem crcSteps_lt {c : Nat} (h : c < 4294967296) (k : Nat) : crcSteps k c < 4294967296 := by
  induction k with
  | zero => exact h
  | succ k ih => exact crcStep_lt ih
theorem crcTab_lt {n : Nat} (h : n < 4294967296) : crcTab n < 4294967296 := crcSteps_lt h 8

theorem xor_mod2 (a b : Nat) : (a ^^^ b) % 2 = (a % 2 + b % 2) % 2 := by
  have h := Nat.xor_mod_two_pow (a := a) (b := b) (n := 1)
  simp only [Nat.pow_one] at h
  rw [h]
  rcases Nat.mod_two_eq_zero_or_one a with ha | ha <;> rcases Nat.mod_two_eq_zero_or_one b with hb | hb <;> simp [ha, hb]
theorem xor_div2 (a b : Nat) : (a ^^^ b) / 2 = (a / 2) ^^^ (b / 2) := by
  have h := Nat.xor_div_two_pow (a := a) (b := b) (n := 1)
  simpa using h

theorem crcStep_xor (a b : Nat) : crcStep (a ^^^ b) = crcStep a ^^^ crcStep b := by
  unfold crcStep
  rw [xor_mod2, xor_div2]
  rcases Nat.mod_two_eq_zero_or_one a with ha | ha <;> rcases Nat.mod_two_eq_zero_or_one b with hb | hb <;> simp [ha, hb]
  · rw [Nat.xor_assoc]
  · rw [Nat.xor_assoc, Nat.xor_assoc, Nat.xor_comm (b / 2)]
  · rw [Nat.xor_assoc, Nat.xor_comm 3988292384 (_ ^^^ _), Nat.xor_assoc, Nat.xor_self, Nat.xor_zero]
theorem crcSteps_xor (k a b : Nat) : crcSteps k (a ^^^ b) = crcSteps k a ^^^ crcSteps k b := by
  induction k with
  | zero => rfl
  | succ k ih => simp only [crcSteps, ih, crcStep_xor]
theorem crcSteps_shift (k q : Nat) : crcSteps k (q * 2 ^ k) = q := by
  induction k generalizing q with
  | zero => simp [crcSteps]
  | succ k ih =>
    have : q * 2 ^ (k + 1) = (q * 2) * 2 ^ k := by rw [Nat.pow_succ, Nat.mul_comm (2 ^ k) 2, Nat.mul_assoc]
    rw [crcSteps, this, ih]
    simp [crcStep]
/-- eight steps: by the table -/
theorem crcSteps8 (c : Nat) : crcSteps 8 c = (c / 256) ^^^ crcTab (c % 256) := by
  have h : c = ((c / 256) * 2 ^ 8) ^^^ (c % 256) := by
    have h1 := Nat.xor_div_two_pow (a := (c / 256) * 2 ^ 8) (b := c % 256) (n := 8)
    have h2 := Nat.xor_mod_two_pow (a := (c / 256) * 2 ^ 8) (b := c % 256) (n := 8)
    rw [Nat.mul_div_cancel _ (by decide), show c % 256 / 2 ^ 8 = 0 from Nat.div_eq_of_lt (by omega), Nat.xor_zero] at h1
    rw [Nat.mul_mod_left, Nat.zero_xor, show c % 256 % 2 ^ 8 = c % 256 from Nat.mod_eq_of_lt (by omega)] at h2
    generalize (c / 256 * 2 ^ 8) ^^^ (c % 256) = z at h1 h2 ⊢
    omega
  conv => lhs; rw [h]
  rw [crcSteps_xor, crcSteps_shift, crcTab]
theorem crcByte_steps (r x : Nat) (hx : x < 256) : crcByte r x = crcSteps 8 (r ^^^ x) := by
  rw [crcSteps8, crcByte]
  have h1 := Nat.xor_div_two_pow (a := r) (b := x) (n := 8)
  have h2 := Nat.xor_mod_two_pow (a := r) (b := x) (n := 8)
  simp only [show (2:Nat) ^ 8 = 256 from rfl] at h1 h2
  rw [h1, h2, Nat.div_eq_of_lt hx, Nat.xor_zero, Nat.mod_eq_of_lt hx]

theorem crcByte_lt {r x : Nat} (hr : r < 4294967296) (hx : x < 256) : crcByte r x < 4294967296 := by
  rw [crcByte_steps r x hx]
  exact crcSteps_lt (Nat.xor_lt_two_pow (n := 32) (by omega) (by omega)) 8
theorem u8lt (x : UInt8) : x.toNat < 256 := UInt8.toNat_lt x
theorem crcBytes_lt {r : Nat} (hr : r < 4294967296) (l : List UInt8) : crcBytes r l < 4294967296 := by
  induction l generalizing r with
  | nil => exact hr
  | cons x l ih => exact ih (crcByte_lt hr (u8lt x))
theorem crcBytes_append (r : Nat) (a b : List UInt8) : crcBytes r (a ++ b) = crcBytes (crcBytes r a) b := by simp [crcBytes]
theorem crcBytes_snoc (r : Nat) (l : List UInt8) (k : Nat) (h : k < l.length) : crcBytes r (l.take (k + 1)) = crcByte (crcBytes r (l.take k)) l[k].toNat := by
  rw [List.take_succ_eq_append_getElem h, crcBytes_append]; rfl

end Go.Proofs.Ytjmgnfpcieofkaa
