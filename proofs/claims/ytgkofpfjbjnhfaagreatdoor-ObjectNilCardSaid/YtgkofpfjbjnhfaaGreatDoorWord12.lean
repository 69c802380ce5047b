/- The document's four bytes of a number. -/
import Derived.Test.YtgkofpfjbjnhfaaGreatDoorRecMath
import Derived.Test.YtgkofpfjbjnhfaaGreatDoorTlv
import Derived.Test.YtgkofpfjbjnhfaaGreatDoorTail
namespace Go.Proofs.YtgkofpfjbjnhfaaGreatDoor
open Go.ChangeShapes Go.WideShapes Go.ChangeAt Go.RowKit
set_option linter.unusedVariables false
set_option linter.unusedSimpArgs false

abbrev n32v (n : Nat) : Value := .int .u32 (n : Int)
theorem wordB_snoc12 (n k : Nat) (h : k < 4) : (wordB n).take (k + 1) = (wordB n).take k ++ [b4 n k] := by
  match k, h with
  | 0, _ => rfl
  | 1, _ => rfl
  | 2, _ => rfl
  | 3, _ => rfl

theorem numS_step12 (l : List UInt8) (n : Nat) (k : Nat) (hk : k < 4) : numS (l.drop k) 0 (4 - k) = (numS (l.drop (k + 1)) 0 (4 - (k + 1))) * 256 + (l.getD k 0).toNat := by
  match k, hk with
  | 0, _ => simp [numS]; omega
  | 1, _ => simp [numS]; omega
  | 2, _ => simp [numS]; omega
  | 3, _ => simp [numS]

theorem IsBytes.mid12 {w : World} {g off n cap : Nat} {l : List UInt8} (h : IsBytes w (.slice (some ⟨g, off, Option.none⟩) n cap) l) (a k : Nat) (hk : a + k ≤ l.length) : IsBytes w (.slice (some ⟨g, off + a, Option.none⟩) k (cap - a)) ((l.drop a).take k) := by
  obtain ⟨ad, c, e, h1, h2, h3, _⟩ := h
  simp only [Value.slice.injEq] at e
  obtain ⟨rfl, rfl, rfl⟩ := e
  refine ⟨_, _, by rw [List.length_take, List.length_drop, Nat.min_eq_left (by omega)], by simp; omega, by omega, ?_, by simp⟩
  have := (h3.drop a).take k
  rwa [← List.map_drop, ← List.map_take] at this

theorem numS_sub12 (l : List UInt8) (a : Nat) (h : a + 4 ≤ l.length) : numS ((l.drop a).take 4) 0 4 = numS l a 4 := by
  have g : ∀ j, j < 4 → ((l.drop a).take 4).getD j 0 = l.getD (a + j) 0 := by
    intro j hj
    rw [List.getD_eq_getElem?_getD, List.getD_eq_getElem?_getD, List.getElem?_take, if_pos hj, List.getElem?_drop]
  simp only [numS, Nat.zero_add]
  rw [g 0 (by omega), g 1 (by omega), g 2 (by omega), g 3 (by omega)]
end Go.Proofs.YtgkofpfjbjnhfaaGreatDoor
