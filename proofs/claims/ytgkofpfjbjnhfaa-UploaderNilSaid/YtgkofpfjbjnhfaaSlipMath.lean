/- Frames, as lists of bytes. No Go function is spoken of. -/
import Derived.WalkKit
namespace Go.Proofs.Ytgkofpfjbjnhfaa

/-- the bytes that stand for one -/
def encByte (c : UInt8) : List UInt8 := if c = 192 then [219, 220] else if c = 219 then [219, 221] else [c]
def encText (l : List UInt8) : List UInt8 := l.flatMap encByte
def frame (l : List UInt8) : List UInt8 := encText l ++ [192]
def frames (ls : List (List UInt8)) : List UInt8 := ls.flatMap frame

theorem encByte_len (c : UInt8) : 1 ≤ (encByte c).length ∧ (encByte c).length ≤ 2 := by
  unfold encByte; split
  · simp
  · split <;> simp
theorem encText_snoc (l : List UInt8) (k : Nat) (h : k < l.length) : encText (l.take (k + 1)) = encText (l.take k) ++ encByte l[k] := by
  rw [List.take_succ_eq_append_getElem h, encText, List.flatMap_append]; simp [encText]
theorem frames_snoc (ls : List (List UInt8)) (k : Nat) (h : k < ls.length) : frames (ls.take (k + 1)) = frames (ls.take k) ++ frame ls[k] := by
  rw [List.take_succ_eq_append_getElem h, frames, List.flatMap_append]; simp [frames]
theorem encText_len (l : List UInt8) : (encText l).length ≤ 2 * l.length ∧ l.length ≤ (encText l).length := by
  induction l with
  | nil => simp [encText]
  | cons c l ih =>
    have := encByte_len c
    simp only [encText, List.flatMap_cons, List.length_append, List.length_cons] at ih ⊢
    omega
theorem encText_take_len (l : List UInt8) (k : Nat) : (encText (l.take k)).length ≤ (encText l).length := by
  conv => rhs; rw [← List.take_append_drop k l, encText, List.flatMap_append, List.length_append]
  exact Nat.le_add_right _ _
theorem frames_take_len (ls : List (List UInt8)) (k : Nat) (h : k < ls.length) : (frames (ls.take k)).length + (frame ls[k]).length ≤ (frames ls).length := by
  rw [← List.length_append, ← frames_snoc ls k h]
  conv => rhs; rw [← List.take_append_drop (k + 1) ls, frames, List.flatMap_append, List.length_append]
  exact Nat.le_add_right _ _
theorem encByte_192 : encByte 192 = [219, 220] := rfl
theorem encByte_219 : encByte 219 = [219, 221] := rfl
theorem encByte_other {c : UInt8} (h1 : c ≠ 192) (h2 : c ≠ 219) : encByte c = [c] := by simp [encByte, h1, h2]
end Go.Proofs.Ytgkofpfjbjnhfaa
