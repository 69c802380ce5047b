/- Flash is erased and programmed: all answers, of a flash without locks. -/
import Derived.Test.YtgmpmlneoiagdaaGreatDoorFlash6
import Derived.Test.YtgmpmlneoiagdaaGreatDoorFlashLives
namespace Go.Proofs.YtgmpmlneoiagdaaGreatDoor
open Go.ChangeShapes Go.WideShapes Go.ChangeAt Go.RowKit
set_option linter.unusedVariables false
set_option linter.unusedSimpArgs false

/-- words are programmed: the flash, and the error -/
def FlS.prog (s : FlS) (a : Nat) (lb : List UInt8) : FlS × Nat := if s.off then (s, 5) else if a + lb.length ≤ s.B.length then FlS.progW lb a (lb.length / 4) 0 s else (s, 3)
/-- a flash without locks, that was not used too often -/
structure FlS.Fit (s : FlS) (n : Nat) : Prop where
  ok : s.Ok
  free : s.lt = 0
  steps : s.steps ≤ n
  worn : ∀ x ∈ s.worn, x ≤ n
theorem FlS.Fit.mono {s : FlS} {n m : Nat} (h : s.Fit n) (k : n ≤ m) : s.Fit m := ⟨h.ok, h.free, Nat.le_trans h.steps k, fun x hx => Nat.le_trans (h.worn x hx) k⟩
theorem FlS.Fit.new (k : Nat) (h1 : 1 ≤ k) (h2 : k ≤ 64) : (FlS.new k).Fit 0 := ⟨FlS.new_ok k h1 h2, rfl, Nat.le_refl _, fun x hx => by
  simp only [FlS.new, List.mem_replicate] at hx
  omega⟩
theorem progW_worn {lb : List UInt8} {a : Nat} : ∀ (r i : Nat) (s : FlS), (FlS.progW lb a r i s).1.worn = s.worn
  | 0, _, _ => rfl
  | r + 1, i, s => by
    unfold FlS.progW
    have h : (s.word (a + i * 4) ((lb.drop (i * 4)).take 4)).worn = s.worn := by simp [FlS.word, FlS.step_worn]
    split
    · rw [progW_worn r (i + 1), h]
    · exact h
theorem FlS.prog_worn (s : FlS) (a : Nat) (lb : List UInt8) : (s.prog a lb).1.worn = s.worn := by
  unfold FlS.prog
  split
  · rfl
  · split
    · exact progW_worn _ _ _
    · rfl
theorem FlS.Fit.prog {s : FlS} {n : Nat} (h : s.Fit n) (a : Nat) (lb : List UInt8) : (s.prog a lb).1.Fit (n + lb.length / 4) := by
  have hw := FlS.prog_worn s a lb
  unfold FlS.prog at hw ⊢
  split
  · exact h.mono (by omega)
  · split
    · refine ⟨progW_ok _ _ _ h.ok, by rw [(progW_locks _ _ _).2]; exact h.free, Nat.le_trans (progW_steps _ _ _) (by have := h.steps; omega), ?_⟩
      rw [progW_worn]
      exact fun x hx => Nat.le_trans (h.worn x hx) (by omega)
    · exact h.mono (by omega)
end Go.Proofs.YtgmpmlneoiagdaaGreatDoor
