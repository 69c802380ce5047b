/- The chapter's example of flash. -/
import Derived.Test.YtgmpmlneoiagdaaGreatDoorGFl
namespace Go.Proofs.YtgmpmlneoiagdaaGreatDoor
open Go.ChangeShapes Go.WideShapes Go.ChangeAt Go.RowKit
set_option linter.unusedVariables false

theorem progW_ok {lb : List UInt8} {a : Nat} : ∀ (r i : Nat) (s : FlS), s.Ok → (FlS.progW lb a r i s).1.Ok := by
  intro r
  induction r with
  | zero => intro i s h; exact h
  | succ r ih =>
    intro i s h
    unfold FlS.progW
    split
    · exact ih _ _ (FlS.word_ok h _ _)
    · exact FlS.word_ok h _ _
theorem progW_steps {lb : List UInt8} {a : Nat} : ∀ (r i : Nat) (s : FlS), (FlS.progW lb a r i s).1.steps ≤ s.steps + r := by
  intro r
  induction r with
  | zero => intro i s; exact Nat.le_refl _
  | succ r ih =>
    intro i s
    unfold FlS.progW
    split
    · have := ih (i + 1) (s.word (a + i * 4) ((lb.drop (i * 4)).take 4)); have := FlS.word_steps s (a + i * 4) ((lb.drop (i * 4)).take 4); omega
    · have := FlS.word_steps s (a + i * 4) ((lb.drop (i * 4)).take 4); simp only; omega
theorem progW_locks {lb : List UInt8} {a : Nat} : ∀ (r i : Nat) (s : FlS), (FlS.progW lb a r i s).1.lf = s.lf ∧ (FlS.progW lb a r i s).1.lt = s.lt := by
  intro r
  induction r with
  | zero => intro i s; exact ⟨rfl, rfl⟩
  | succ r ih =>
    intro i s
    unfold FlS.progW
    split
    · have := ih (i + 1) (s.word (a + i * 4) ((lb.drop (i * 4)).take 4)); have := FlS.word_lf s (a + i * 4) ((lb.drop (i * 4)).take 4); omega
    · exact FlS.word_lf s _ _
theorem newQ.out {k : Nat} {v : Value} {F : SP} {w : World} (h : (newQ k v * F).on w) : ∃ p, v = .tuple #[fptr p, .int .i64 0] ∧ (Flash p (FlS.new k) * F).on w := by
  obtain ⟨p, h⟩ := on_ex_mul.1 h
  rw [SP.mul_assoc] at h
  obtain ⟨h1, h2⟩ := on_pure_mul.1 h
  exact ⟨p, h1, h2⟩
theorem IsBytes.blk {w : World} {g : Nat} {l : List UInt8} {t : TypeId} {F : SP} (h : (blk g (.cells (vbs l).toArray t (0, 0)) * F).on w) (hl : l.length ≤ maxLen) : IsBytes w (.slice (some ⟨g, 0, Option.none⟩) l.length l.length) l := by
  have h2 : (own t 1 (.slice (some ⟨g, 0, Option.none⟩) l.length l.length) l.length (vbs l) * F).on w := own_of_blk h (by simp) (Nat.le_refl _) hl (by simp) (by rw [Nat.mul_one]; exact List.take_of_length_le (by simp))
  exact own_bytes h2

end Go.Proofs.YtgmpmlneoiagdaaGreatDoor
