/- Numbers as four bytes, and what is put where. No Go function is spoken of. -/
import Derived.WalkKit
namespace Go.Proofs.Ytjmgnfpcieofkaa

/-- a byte of a number -/
def b4 (n k : Nat) : UInt8 := UInt8.ofNat (n / 2 ^ (8 * k) % 256)
theorem b4_toNat (n k : Nat) : (b4 n k).toNat = n / 2 ^ (8 * k) % 256 := by
  unfold b4
  generalize n / 2 ^ (8 * k) = m
  simp
def wordB (n : Nat) : List UInt8 := [b4 n 0, b4 n 1, b4 n 2, b4 n 3]
theorem wordB_len (n : Nat) : (wordB n).length = 4 := rfl
/-- behind so many bytes of a number that are put -/
def putL (l : List UInt8) (at' n : Nat) : Nat → List UInt8
  | 0 => l
  | k + 1 => (putL l at' n k).set (at' + k) (b4 n k)
theorem putL_len (l : List UInt8) (at' n k : Nat) : (putL l at' n k).length = l.length := by
  induction k with
  | zero => rfl
  | succ k ih => simp [putL, ih]
theorem set_mid (A : List UInt8) (x c : UInt8) (B : List UInt8) : (A ++ x :: B).set A.length c = A ++ c :: B := by
  induction A with
  | nil => rfl
  | cons a t ih => simp [ih]
theorem set_at (A : List UInt8) (x c : UInt8) (B : List UInt8) (i : Nat) (h : i = A.length) : (A ++ x :: B).set i c = A ++ c :: B := by subst h; exact set_mid A x c B
theorem putL_mid (A : List UInt8) (x0 x1 x2 x3 : UInt8) (B : List UInt8) (i n : Nat) (h : i = A.length) : putL (A ++ x0 :: x1 :: x2 :: x3 :: B) i n 4 = A ++ (wordB n ++ B) := by
  simp only [putL]
  rw [Nat.add_zero, set_at A x0 _ _ i h]
  rw [show A ++ b4 n 0 :: x1 :: x2 :: x3 :: B = (A ++ [b4 n 0]) ++ x1 :: x2 :: x3 :: B by simp, set_at (A ++ [b4 n 0]) x1 _ _ (i + 1) (by simp [h])]
  rw [show (A ++ [b4 n 0]) ++ b4 n 1 :: x2 :: x3 :: B = (A ++ [b4 n 0, b4 n 1]) ++ x2 :: x3 :: B by simp, set_at (A ++ [b4 n 0, b4 n 1]) x2 _ _ (i + 2) (by simp [h])]
  rw [show (A ++ [b4 n 0, b4 n 1]) ++ b4 n 2 :: x3 :: B = (A ++ [b4 n 0, b4 n 1, b4 n 2]) ++ x3 :: B by simp, set_at (A ++ [b4 n 0, b4 n 1, b4 n 2]) x3 _ _ (i + 3) (by simp [h])]
  simp [wordB]
theorem putL_zeros (A : List UInt8) (i n m : Nat) (h : i = A.length) : putL (A ++ List.replicate (m + 4) 0) i n 4 = (A ++ wordB n) ++ List.replicate m 0 := by
  rw [show m + 4 = m + 1 + 1 + 1 + 1 by omega, List.replicate_succ, List.replicate_succ, List.replicate_succ, List.replicate_succ, putL_mid A 0 0 0 0 _ i n h]
  simp
theorem set_zeros (A : List UInt8) (i m : Nat) (c : UInt8) (h : i = A.length) : (A ++ List.replicate (m + 1) 0).set i c = (A ++ [c]) ++ List.replicate m 0 := by
  rw [List.replicate_succ, set_at A 0 _ _ i h]
  simp

/-- a number of four bytes, from a place on -/
def numK (l : List UInt8) (at' : Nat) : Nat → Nat
  | 0 => 0
  | k + 1 => numK l at' k ||| (l.getD (at' + k) 0).toNat * 2 ^ (8 * k)
def numS (l : List UInt8) (at' : Nat) : Nat → Nat
  | 0 => 0
  | k + 1 => numS l at' k + (l.getD (at' + k) 0).toNat * 2 ^ (8 * k)
theorem numS_lt (l : List UInt8) (at' : Nat) : ∀ k, numS l at' k < 2 ^ (8 * k) := by
  intro k
  induction k with
  | zero => simp [numS]
  | succ k ih =>
    have hc := UInt8.toNat_lt (l.getD (at' + k) 0)
    simp only [numS]
    rw [show 8 * (k + 1) = 8 * k + 8 by omega, Nat.pow_add]
    have : (l.getD (at' + k) 0).toNat * 2 ^ (8 * k) ≤ 255 * 2 ^ (8 * k) := Nat.mul_le_mul_right _ (by omega)
    omega
theorem numK_eq (l : List UInt8) (at' : Nat) : ∀ k, numK l at' k = numS l at' k := by
  intro k
  induction k with
  | zero => rfl
  | succ k ih =>
    simp only [numK, numS]
    rw [ih]
    have h := numS_lt l at' k
    rw [Nat.or_comm, ← Nat.shiftLeft_eq, ← Nat.shiftLeft_add_eq_or_of_lt h, Nat.shiftLeft_eq, Nat.add_comm]
theorem numS_word (A B : List UInt8) (n : Nat) (h : n < 4294967296) (i : Nat) (hi : i = A.length) : numS (A ++ (wordB n ++ B)) i 4 = n := by
  subst hi
  have g : ∀ j (hj : j < 4), (A ++ (wordB n ++ B)).getD (A.length + j) 0 = b4 n j := by
    intro j hj
    rw [List.getD_eq_getElem?_getD, List.getElem?_append_right (by omega), Nat.add_sub_cancel_left, List.getElem?_append_left (by rw [wordB_len]; omega)]
    match j, hj with
    | 0, _ => rfl
    | 1, _ => rfl
    | 2, _ => rfl
    | 3, _ => rfl
  simp only [numS]
  rw [show A.length + 0 = A.length + 0 from rfl, g 0 (by omega), g 1 (by omega), g 2 (by omega), g 3 (by omega), b4_toNat, b4_toNat, b4_toNat, b4_toNat]
  simp only [Nat.mul_zero, Nat.pow_zero, Nat.div_one, Nat.mul_one, Nat.zero_add]
  omega
end Go.Proofs.Ytjmgnfpcieofkaa
