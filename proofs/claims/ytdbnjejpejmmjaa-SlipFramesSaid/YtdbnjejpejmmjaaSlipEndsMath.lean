/- Where the end of a frame stands, and that two texts have two frames. No Go function is spoken of. -/
import Derived.Test.YtdbnjejpejmmjaaSlipMath
namespace Go.Proofs.Ytdbnjejpejmmjaa

theorem frame_cons (x : UInt8) (l : List UInt8) : frame (x :: l) = encByte x ++ frame l := by simp [frame, encText]
theorem frame_nil : frame [] = [192] := rfl
theorem encByte_cases (x : UInt8) : (x = 192 ∧ encByte x = [219, 220]) ∨ (x = 219 ∧ encByte x = [219, 221]) ∨ (x ≠ 192 ∧ x ≠ 219 ∧ encByte x = [x]) := by
  by_cases h1 : x = 192
  · subst h1; exact .inl ⟨rfl, rfl⟩
  · by_cases h2 : x = 219
    · subst h2; exact .inr (.inl ⟨rfl, rfl⟩)
    · exact .inr (.inr ⟨h1, h2, encByte_other h1 h2⟩)
theorem frame_inj : ∀ (a b : List UInt8), frame a = frame b → a = b
  | [], [], _ => rfl
  | [], y :: b, h => by
    rw [frame_nil, frame_cons] at h
    rcases encByte_cases y with ⟨_, e⟩ | ⟨_, e⟩ | ⟨h1, _, e⟩ <;> rw [e] at h <;> simp at h
    exact (h1 h.1.symm).elim
  | x :: a, [], h => by
    rw [frame_nil, frame_cons] at h
    rcases encByte_cases x with ⟨_, e⟩ | ⟨_, e⟩ | ⟨h1, _, e⟩ <;> rw [e] at h <;> simp at h
    exact (h1 h.1).elim
  | x :: a, y :: b, h => by
    rw [frame_cons, frame_cons] at h
    rcases encByte_cases x with ⟨hx, e⟩ | ⟨hx, e⟩ | ⟨h1, h2, e⟩ <;> rcases encByte_cases y with ⟨hy, e'⟩ | ⟨hy, e'⟩ | ⟨g1, g2, e'⟩ <;> rw [e, e'] at h <;> simp at h
    · rw [hx, hy, frame_inj a b h]
    · exact (g2 h.1.symm).elim
    · rw [hx, hy, frame_inj a b h]
    · exact (g2 h.1.symm).elim
    · exact (h2 h.1).elim
    · exact (h2 h.1).elim
    · rw [h.1, frame_inj a b h.2]
theorem encText_no (l : List UInt8) : ∀ c ∈ encText l, c ≠ 192 := by
  intro c hc
  simp only [encText, List.mem_flatMap] at hc
  obtain ⟨x, _, hx⟩ := hc
  rcases encByte_cases x with ⟨_, e⟩ | ⟨_, e⟩ | ⟨h1, _, e⟩ <;> rw [e] at hx <;> simp at hx
  · rcases hx with rfl | rfl <;> decide
  · rcases hx with rfl | rfl <;> decide
  · rw [hx]; exact h1
theorem frame_end (l : List UInt8) (i : Nat) (h : i < (frame l).length) : (frame l)[i] = 192 ↔ i + 1 = (frame l).length := by
  have hlen : (frame l).length = (encText l).length + 1 := by simp [frame]
  by_cases hi : i < (encText l).length
  · have h1 : (frame l)[i] = (encText l)[i] := by simp [frame, hi]
    rw [h1]
    have := encText_no l _ (List.getElem_mem hi)
    constructor
    · intro e; exact (this e).elim
    · intro e; omega
  · have hi' : i = (encText l).length := by omega
    subst hi'
    simp [frame]
theorem frame_gt (l : List UInt8) : l.length < (frame l).length := by
  have := (encText_len l).2
  simp [frame]; omega
theorem frames_one (l : List UInt8) : frames [l] = frame l := by simp [frames]
end Go.Proofs.Ytdbnjejpejmmjaa
