/- Items and bytes: what is parsed has just these bytes; the first of a tag is the only one. -/
import Derived.Test.YtgmpmlneoiagdaaGreatDoorTlv5
namespace Go.Proofs.YtgmpmlneoiagdaaGreatDoor
set_option linter.unusedVariables false

theorem parseF_inv : ∀ (f : Nat) (b : List UInt8) (last : UInt8) (acc items : List TItem), parseF f b last acc = (items, 0) →
    ∃ new, items = acc ++ new ∧ (∀ (ab : List UInt8), encodeF acc.length last new ab = (ab ++ b, 0)) ∧ (∀ x ∈ new, last.toNat < x.tag.toNat ∧ x.value.length ≤ 200) ∧ new.Pairwise (fun x y => x.tag.toNat < y.tag.toNat) := by
  intro f
  induction f with
  | zero =>
    intro b last acc items h
    match b, h with
    | [], h => simp only [parseF, Prod.mk.injEq] at h; exact ⟨[], by simp [h.1], by simp [encodeF], by simp, by simp⟩
    | [_], h => simp [parseF] at h
    | _ :: _ :: _, h => simp [parseF] at h
  | succ f ih =>
    intro b last acc items h
    match b, h with
    | [], h => simp only [parseF, Prod.mk.injEq] at h; exact ⟨[], by simp [h.1], by simp [encodeF], by simp, by simp⟩
    | [_], h => simp [parseF] at h
    | tag :: sz :: rest, h =>
      by_cases hf : fitsN tag last sz.toNat acc.length = 0
      · by_cases hr : rest.length < sz.toNat
        · rw [parseF_cut hf hr] at h; simp at h
        · rw [parseF_step hf (by omega)] at h
          obtain ⟨new, h1, h2, h3, h4⟩ := ih _ _ _ _ h
          obtain ⟨g1, g2, g3⟩ := fitsN_zero hf
          have hl : (rest.take sz.toNat).length = sz.toNat := by rw [List.length_take]; omega
          refine ⟨⟨tag, rest.take sz.toNat⟩ :: new, by rw [h1]; simp, ?_, ?_, ?_⟩
          · intro ab
            rw [encodeF_good (by simp only [hl]; exact hf)]
            have := h2 (ab ++ tag :: UInt8.ofNat (rest.take sz.toNat).length :: rest.take sz.toNat)
            rw [List.length_append] at this
            simp only [List.length_cons, List.length_nil, Nat.zero_add] at this
            simp only at this ⊢
            rw [this, hl]
            simp
          · intro x hx
            simp only [List.mem_cons] at hx
            rcases hx with rfl | hx
            · exact ⟨g1, by simp only [hl]; omega⟩
            · have := h3 x hx
              exact ⟨by omega, this.2⟩
          · rw [List.pairwise_cons]
            exact ⟨fun x hx => (h3 x hx).1, h4⟩
      · have := parseF_bad (f := f) (rest := rest) (sz := sz) (acc := acc) (last := last) (tag := tag) rfl hf
        rw [this] at h
        simp at h
        exact (hf h.2).elim
theorem parse_encode {b : List UInt8} {items : List TItem} (h : parseF b.length b 0 [] = (items, 0)) : encodeF 0 0 items [] = (b, 0) := by
  obtain ⟨new, h1, h2, _, _⟩ := parseF_inv _ _ _ _ _ h
  rw [List.nil_append] at h1
  subst h1
  have := h2 []
  simpa using this
theorem parse_short {b : List UInt8} {R : List TItem × Nat} (h : parseF b.length b 0 [] = R) : (∀ x ∈ R.1, x.value.length ≤ 200) ∧ R.1.Pairwise (fun x y => x.tag.toNat < y.tag.toNat) := by
  have herr : ∀ (f : Nat) (b : List UInt8) (last : UInt8) (acc : List TItem), (parseF f b last acc).2 ≠ 0 → (parseF f b last acc).1 = [] := by
    intro f
    induction f with
    | zero => intro b last acc h; match b, h with
      | [], h => simp [parseF] at h
      | [_], h => rfl
      | _ :: _ :: _, h => rfl
    | succ f ih => intro b last acc h; match b, h with
      | [], h => simp [parseF] at h
      | [_], h => rfl
      | tag :: sz :: rest, h =>
        by_cases hf : fitsN tag last sz.toNat acc.length = 0
        · by_cases hr : rest.length < sz.toNat
          · rw [parseF_cut hf hr]
          · rw [parseF_step hf (by omega)] at h ⊢; exact ih _ _ _ h
        · rw [parseF_bad rfl hf]
  by_cases h0 : R.2 = 0
  · obtain ⟨items, z⟩ := R
    simp only at h0
    subst h0
    obtain ⟨new, h1, _, h3, h4⟩ := parseF_inv _ _ _ _ _ h
    rw [List.nil_append] at h1
    subst h1
    exact ⟨fun x hx => (h3 x hx).2, h4⟩
  · have := herr b.length b 0 [] (by rw [h]; exact h0)
    rw [h] at this
    rw [this]
    simp
theorem parse_count : ∀ (f : Nat) (b : List UInt8) (last : UInt8) (acc : List TItem), (parseF f b last acc).1.length ≤ acc.length + b.length := by
  intro f
  induction f with
  | zero => intro b last acc; match b with
    | [] => simp [parseF]
    | [_] => simp [parseF]
    | _ :: _ :: _ => simp [parseF]
  | succ f ih => intro b last acc; match b with
    | [] => simp [parseF]
    | [_] => simp [parseF]
    | tag :: sz :: rest =>
      by_cases hf : fitsN tag last sz.toNat acc.length = 0
      · by_cases hr : rest.length < sz.toNat
        · rw [parseF_cut hf hr]; simp
        · rw [parseF_step hf (by omega)]
          have := ih (rest.drop sz.toNat) tag (acc ++ [⟨tag, rest.take sz.toNat⟩])
          simp only [List.length_append, List.length_cons, List.length_nil, List.length_drop] at this ⊢
          omega
      · rw [parseF_bad rfl hf]; simp
end Go.Proofs.YtgmpmlneoiagdaaGreatDoor
