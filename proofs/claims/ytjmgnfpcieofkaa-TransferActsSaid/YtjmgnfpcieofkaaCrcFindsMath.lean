/- A burst of turned bits changes the check sum. Plain numbers; no Go function is spoken of. -/
import Derived.Test.YtjmgnfpcieofkaaCrcMath
namespace Go.Proofs.Ytjmgnfpcieofkaa

theorem crcSteps_add (a b c : Nat) : crcSteps (a + b) c = crcSteps a (crcSteps b c) := by
  induction a with
  | zero => simp [crcSteps]
  | succ a ih => rw [Nat.succ_add]; simp only [crcSteps, ih]
theorem crcSteps_zero (k : Nat) : crcSteps k 0 = 0 := by
  induction k with
  | zero => rfl
  | succ k ih => rw [crcSteps, ih]; rfl
theorem crcStep_ne {c : Nat} (h : c < 4294967296) (h0 : c ≠ 0) : crcStep c ≠ 0 := by
  unfold crcStep
  split
  · intro e
    have h1 := Nat.xor_div_two_pow (a := c / 2) (b := 3988292384) (n := 31)
    rw [e] at h1
    rw [show c / 2 / 2 ^ 31 = 0 from Nat.div_eq_of_lt (by omega)] at h1
    revert h1; decide
  · omega
theorem crcSteps_ne {c : Nat} (h : c < 4294967296) (h0 : c ≠ 0) (k : Nat) : crcSteps k c ≠ 0 := by
  induction k with
  | zero => exact h0
  | succ k ih => exact crcStep_ne (crcSteps_lt h k) ih

/-- bytes as a number, the lowest first -/
def numOf : List UInt8 → Nat
  | [] => 0
  | x :: l => x.toNat + 256 * numOf l
theorem add_xor (n a b : Nat) (h : a < 2 ^ n) : a + 2 ^ n * b = a ^^^ (2 ^ n * b) := by
  have h1 := Nat.xor_div_two_pow (a := a) (b := 2 ^ n * b) (n := n)
  have h2 := Nat.xor_mod_two_pow (a := a) (b := 2 ^ n * b) (n := n)
  rw [Nat.div_eq_of_lt h, Nat.mul_div_cancel_left _ (Nat.two_pow_pos n), Nat.zero_xor] at h1
  rw [Nat.mod_eq_of_lt h, Nat.mul_mod_right, Nat.xor_zero] at h2
  have h3 := Nat.div_add_mod (a ^^^ 2 ^ n * b) (2 ^ n)
  rw [h1, h2] at h3
  omega
theorem mul_xor (n a b : Nat) : 2 ^ n * (a ^^^ b) = 2 ^ n * a ^^^ 2 ^ n * b := by
  have h1 := Nat.xor_div_two_pow (a := 2 ^ n * a) (b := 2 ^ n * b) (n := n)
  have h2 := Nat.xor_mod_two_pow (a := 2 ^ n * a) (b := 2 ^ n * b) (n := n)
  rw [Nat.mul_div_cancel_left _ (Nat.two_pow_pos n), Nat.mul_div_cancel_left _ (Nat.two_pow_pos n)] at h1
  rw [Nat.mul_mod_right, Nat.mul_mod_right, Nat.xor_zero] at h2
  have h3 := Nat.div_add_mod (2 ^ n * a ^^^ 2 ^ n * b) (2 ^ n)
  rw [h1, h2] at h3
  omega
theorem crcBytes_num (r : Nat) (l : List UInt8) : crcBytes r l = crcSteps (8 * l.length) (r ^^^ numOf l) := by
  induction l generalizing r with
  | nil => simp [crcBytes, numOf, crcSteps]
  | cons x l ih =>
    have hx := u8lt x
    have h1 : crcBytes r (x :: l) = crcBytes (crcByte r x.toNat) l := rfl
    rw [h1, ih, List.length_cons, Nat.mul_add, Nat.mul_one, crcSteps_add]
    congr 1
    rw [numOf, show (256 : Nat) = 2 ^ 8 from rfl, add_xor 8 _ _ hx, ← Nat.xor_assoc, crcSteps_xor, ← crcByte_steps r _ hx, Nat.mul_comm, crcSteps_shift]

theorem numOf_set (l : List UInt8) (j m : Nat) (hj : j < l.length) (hm : m < 8) (x : UInt8) (hx : x.toNat = l[j].toNat ^^^ 2 ^ m) : numOf (l.set j x) = numOf l ^^^ 2 ^ (8 * j + m) := by
  have hp : 2 ^ m < 2 ^ 8 := Nat.pow_lt_pow_right (by decide) hm
  induction l generalizing j with
  | nil => simp at hj
  | cons y l ih =>
    have hy := u8lt y
    cases j with
    | zero =>
      simp only [List.set_cons_zero, numOf, List.getElem_cons_zero] at hx ⊢
      have hb : y.toNat ^^^ 2 ^ m < 2 ^ 8 := Nat.xor_lt_two_pow (by omega) hp
      rw [hx, show (256 : Nat) = 2 ^ 8 from rfl, add_xor 8 _ _ hb, add_xor 8 _ _ hy, Nat.mul_zero, Nat.zero_add, Nat.xor_assoc, Nat.xor_assoc, Nat.xor_comm (2 ^ m)]
    | succ j =>
      have hj' : j < l.length := by simpa using hj
      simp only [List.set_cons_succ, numOf, List.getElem_cons_succ] at hx ⊢
      rw [ih j hj' hx]
      have e : 2 ^ (8 * (j + 1) + m) = 2 ^ 8 * 2 ^ (8 * j + m) := by rw [← Nat.pow_add]; congr 1; omega
      rw [e, show (256 : Nat) = 2 ^ 8 from rfl, add_xor 8 _ _ hy, add_xor 8 _ _ hy, Nat.xor_assoc]
      congr 1
      exact mul_xor 8 _ _

/-- the first k bits of a burst -/
theorem mod_succ (b k : Nat) : b % 2 ^ (k + 1) = b % 2 ^ k ^^^ (2 ^ k * (b / 2 ^ k % 2)) := by
  rw [Nat.mod_pow_succ]
  exact add_xor k _ _ (Nat.mod_lt _ (Nat.two_pow_pos k))

/-- where i bits lie ahead of a burst, and some behind it, the sums differ -/
theorem burst_found (r : Nat) (l m : List UInt8) (i b : Nat) (hl : m.length = l.length) (hi : i + 32 ≤ 8 * l.length) (hb : b < 4294967296) (hb0 : b ≠ 0)
    (hn : numOf m = numOf l ^^^ 2 ^ i * b) : crcBytes r m ≠ crcBytes r l := by
  rw [crcBytes_num, crcBytes_num, hl, hn, ← Nat.xor_assoc, crcSteps_xor]
  intro e
  have h1 : crcSteps (8 * l.length) (2 ^ i * b) = 0 := by
    have := congrArg (fun z => crcSteps (8 * l.length) (r ^^^ numOf l) ^^^ z) e
    simp only [Nat.xor_self] at this
    rw [← Nat.xor_assoc, Nat.xor_self, Nat.zero_xor] at this
    exact this
  rw [show 8 * l.length = (8 * l.length - i) + i by omega, crcSteps_add, Nat.mul_comm (2 ^ i), crcSteps_shift] at h1
  exact crcSteps_ne hb hb0 _ h1
end Go.Proofs.Ytjmgnfpcieofkaa
