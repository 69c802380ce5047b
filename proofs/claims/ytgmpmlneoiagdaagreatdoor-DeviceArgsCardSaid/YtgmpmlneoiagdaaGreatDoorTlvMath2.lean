/- Bytes that were made of items are parsed to them. -/
import Derived.Test.YtgmpmlneoiagdaaGreatDoorTlvMath
namespace Go.Proofs.YtgmpmlneoiagdaaGreatDoor
set_option linter.unusedVariables false

theorem encodeF_inv : ∀ (items : List TItem) (i : Nat) (last : UInt8) (acc bytes : List UInt8), encodeF i last items acc = (bytes, 0) →
    ∃ tail, bytes = acc ++ tail ∧ ∀ (f : Nat) (ai : List TItem), ai.length = i → tail.length ≤ f → parseF f tail last ai = (ai ++ items, 0) := by
  intro items
  induction items with
  | nil =>
    intro i last acc bytes h
    simp only [encodeF, Prod.mk.injEq] at h
    refine ⟨[], by simp [h.1], fun f ai _ _ => ?_⟩
    cases f <;> simp [parseF]
  | cons x t ih =>
    intro i last acc bytes h
    by_cases hf : fitsN x.tag last x.value.length i = 0
    · rw [encodeF_good hf] at h
      obtain ⟨tail, h1, h2⟩ := ih _ _ _ _ h
      obtain ⟨g1, g2, g3⟩ := fitsN_zero hf
      refine ⟨x.tag :: UInt8.ofNat x.value.length :: (x.value ++ tail), by rw [h1]; simp, fun f ai ha hl => ?_⟩
      have h8 : (UInt8.ofNat x.value.length).toNat = x.value.length := by simp; omega
      cases f with
      | zero => simp at hl
      | succ f =>
        rw [parseF_step (by rw [h8, ha]; exact hf) (by rw [h8]; simp), h8]
        rw [List.drop_append_of_le_length (Nat.le_refl _), List.drop_length, List.nil_append, List.take_append_of_le_length (Nat.le_refl _), List.take_length]
        have := h2 f (ai ++ [⟨x.tag, x.value⟩]) (by simp [ha]) (by simp at hl; omega)
        rw [this]
        simp
    · rw [encodeF_bad hf] at h
      simp at h
      exact (hf h.2).elim
theorem encode_parse {items : List TItem} {bytes : List UInt8} (h : encodeF 0 0 items [] = (bytes, 0)) : parseF bytes.length bytes 0 [] = (items, 0) := by
  obtain ⟨tail, h1, h2⟩ := encodeF_inv _ _ _ _ _ h
  rw [List.nil_append] at h1
  subst h1
  have := h2 bytes.length [] rfl (Nat.le_refl _)
  simpa using this
end Go.Proofs.YtgmpmlneoiagdaaGreatDoor
