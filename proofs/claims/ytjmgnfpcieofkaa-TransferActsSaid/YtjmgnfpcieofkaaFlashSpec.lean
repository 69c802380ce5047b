/- Flash, as lists of bytes: what a step, an erasure, a programming do. No Go function is spoken of. -/
import Derived.WalkKit
namespace Go.Proofs.Ytjmgnfpcieofkaa

structure FlS where
  B : List UInt8
  worn : List Nat
  steps : Nat
  lf : Nat
  lt : Nat
  off : Bool
  armed : Bool
  left : Nat
  tear : Nat

/-- does the power go in this step? -/
def FlS.fails (s : FlS) : Bool := s.armed && s.left == 0
/-- what of the step is done -/
def FlS.mask (s : FlS) : Nat := if s.fails then s.tear else 4294967295
/-- behind a step -/
def FlS.step (s : FlS) : FlS := if s.fails then { s with armed := false, off := true } else { s with left := if s.armed then s.left - 1 else s.left, steps := s.steps + 1 }
/-- how far the numbers may go -/
structure FlS.Ok (s : FlS) : Prop where
  pages : s.B.length = 256 * s.worn.length
  most : 1 ≤ s.worn.length ∧ s.worn.length ≤ 64
  lf : s.lf ≤ 64
  lt : s.lt ≤ 64
  left : s.left ≤ 9223372036854775807
  tear : s.tear < 4294967296
/-- a byte, some of whose bits are to be 0, if they are done -/
def dropByte (was want : UInt8) (done : Nat) : UInt8 := UInt8.ofNat (was.toNat &&& (want.toNat ||| (255 - done % 256)))

theorem FlS.step_B (s : FlS) : s.step.B = s.B := by unfold FlS.step; split <;> rfl
theorem FlS.step_worn (s : FlS) : s.step.worn = s.worn := by unfold FlS.step; split <;> rfl
theorem FlS.step_ok {s : FlS} (h : s.Ok) : s.step.Ok := by
  unfold FlS.step
  split
  · exact ⟨h.pages, h.most, h.lf, h.lt, h.left, h.tear⟩
  · refine ⟨h.pages, h.most, h.lf, h.lt, ?_, h.tear⟩
    have := h.left
    simp only
    split <;> omega
theorem FlS.step_steps (s : FlS) : s.step.steps ≤ s.steps + 1 := by unfold FlS.step; split <;> simp
theorem FlS.mask_lt {s : FlS} (h : s.Ok) : s.mask < 4294967296 := by
  unfold FlS.mask; split
  · exact h.tear
  · omega

theorem dropByte_toNat (was want : UInt8) (done : Nat) : (dropByte was want done).toNat = was.toNat &&& (want.toNat ||| (255 - done % 256)) := by
  have h : was.toNat &&& (want.toNat ||| (255 - done % 256)) < 256 := Nat.lt_of_le_of_lt Nat.and_le_left (UInt8.toNat_lt was)
  unfold dropByte
  generalize was.toNat &&& (want.toNat ||| (255 - done % 256)) = z at h ⊢
  simp; omega
/-- behind k bytes of a word -/
def progK (B : List UInt8) (a : Nat) (lb : List UInt8) (mask : Nat) : Nat → List UInt8
  | 0 => B
  | k + 1 => (progK B a lb mask k).set (a + k) (dropByte (B.getD (a + k) 0) (lb.getD k 0) (mask / 2 ^ (8 * k)))
/-- is one of the first k bytes another one than it should be? -/
def badK (B : List UInt8) (a : Nat) (lb : List UInt8) (mask : Nat) : Nat → Bool
  | 0 => false
  | k + 1 => badK B a lb mask k || (dropByte (B.getD (a + k) 0) (lb.getD k 0) (mask / 2 ^ (8 * k)) != lb.getD k 0)
theorem progK_length (B : List UInt8) (a : Nat) (lb : List UInt8) (mask k : Nat) : (progK B a lb mask k).length = B.length := by
  induction k with
  | zero => rfl
  | succ k ih => simp [progK, ih]
theorem progK_later (B : List UInt8) (a : Nat) (lb : List UInt8) (mask k j : Nat) (h : k ≤ j) : (progK B a lb mask k).getD (a + j) 0 = B.getD (a + j) 0 := by
  induction k with
  | zero => rfl
  | succ k ih =>
    have := ih (by omega)
    simp only [progK, List.getD_eq_getElem?_getD] at this ⊢
    rw [List.getElem?_set_ne (by omega), this]
/-- a word is programmed: the flash, and the error -/
def FlS.word (s : FlS) (a : Nat) (lb : List UInt8) : FlS := { s.step with B := progK s.B a lb s.mask 4 }
def FlS.wordErr (s : FlS) (a : Nat) (lb : List UInt8) : Nat := if s.step.off then 5 else if badK s.B a lb s.mask 4 then 6 else 0
theorem FlS.word_ok {s : FlS} (h : s.Ok) (a : Nat) (lb : List UInt8) : (s.word a lb).Ok := by
  have h' := FlS.step_ok h
  refine ⟨?_, h'.most, h'.lf, h'.lt, h'.left, h'.tear⟩
  have := h'.pages
  rw [FlS.step_B] at this
  simp only [FlS.word, progK_length]
  exact this
end Go.Proofs.Ytjmgnfpcieofkaa
