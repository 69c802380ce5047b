/- Items and bytes: what is parsed has just these bytes; the first of a tag is the only one. -/
import Derived.Test.YtgkofpfjbjnhfaaGreatDoorTlv5
namespace Go.Proofs.YtgkofpfjbjnhfaaGreatDoor
set_option linter.unusedVariables false

theorem parseF_inv : ∀ (f : Nat) (b : List UInt8) (last : UInt8) (acc items : List TItem), parseF f b last acc = (items, 0) →
    ∃ new, items = acc ++ new ∧ (∀ (ab : List UInt8), encodeF acc.length last new ab = (ab ++ b, 0)) ∧ (∀ x ∈ new, last.toNat < x.tag.toNat ∧ x.value.length ≤ 200) ∧ new.Pairwise (fun x y => x.tag.toNat < y.tag.toNat) := by
  intro f
  induction f with
  | zero =>
    intro b last acc items h
    match b, h with
    | [], h => simp only [parseF, Prod.mk.injEq] at h; exact ⟨[], by simp [h.1], by simp [encodeF], by simp, by simp⟩
    | [_], h => simp [parseF] at h
    | _ :: _ :: _, h => simp [parseF] at h
  | succ f ih =>
    intro b last acc items h
    match b, h with
    | [], h => simp only [parseF, Prod.mk.injEq] at h; exact ⟨[], by simp [h.1], by simp [encodeF], by simp, by simp⟩
    | [_], h => simp [parseF] at h
    | tag :: sz :: rest, h =>
      by_cases hf : fitsN tag last sz.toNat acc.length = 0
      · by_cases hr : rest.length < sz.toNat
        · rw [parseF_cut hf hr] at h; simp at h
        · rw [parseF_step hf (by omega)] at h
          obtain ⟨new, h1, h2, h3, h4⟩ := ih _ _ _ _ h
          obtain ⟨g1, g2, g3⟩ := fitsN_zero hf
          have hl : (rest.take sz.toNat).length = sz.toNat := by rw [List.length_take]; omega
          refine ⟨⟨tag, rest.take sz.toNat⟩ :: new, by rw [h1]; simp, ?_, ?_, ?_⟩
          · intro ab
            rw [encodeF_good (by simp only [hl]; exact hf)]
            have := h2 (ab ++ tag :: UInt8.ofNat (rest.take sz.toNat).length :: rest.take sz.toNat)
            rw [List.length_append] at this
            simp only [List.length_cons, List.length_nil, Nat.zero_add] at this
            simp only at this ⊢
            rw [this, hl]
            simp
          · intro x hx
            simp only [List.mem_cons] at hx
            rcases hx with rfl | hx
            · exact ⟨g1, by simp only [hl]; omega⟩
            · have := h3 x hx
              exact ⟨by omega, this.2⟩
          · rw [List.pairwise_cons]
            exact ⟨fun x hx => (h3 x hx).1, h4⟩
      · have := parseF_bad (f := f) (rest := rest) (sz := sz) (acc := acc) (last := last) (tag := tag) rfl hf
        rw [this] at h
        simp at h
        exact (hf h.2).elim
theorem parse_encode {b : List UInt8} {items : List TItem} (h : parseF b.length b 0 [] = (items, 0)) : encodeF 0 0 items [] = (b, 0) := by
  obtain ⟨new, h1, h2, _, _⟩ := parseF_inv _ _ _ _ _ h
  rw [List.nil_append] at h1
  subst h1
  have := h2 []
  simpa using this
theorem parse_short {b : List UInt8} {R : List TItem × Nat} (h : parseF b.length b 0 [] = R) : (∀ x ∈ R.1, x.value.length ≤ 200) ∧ R.1.Pairwise (fun x y => x.tag.toNat < y.tag.toNat) := by
  have herr : ∀ (f : Nat) (b : List UInt8) (last : UInt8) (acc : List TItem), (parseF f b last acc).2 ≠ 0 → (parseF f b last acc).1 = [] := by
    intro f
    induction f with
    | zero => intro b last acc h; match b, h with
      | [], h => simp [parseF] at h
      | [_], h => rfl
      | _ :: _ :: _, h => rfl
    | succ f ih => intro b last acc h; match b, h with
      | [], h => simp [parseF] at h
      | [_], h => rfl
      | tag :: sz :: rest, h =>
        by_cases hf : fitsN tag last sz.toNat acc.length = 0
        · by_cases hr : rest.length < sz.toNat
          · rw [parseF_cut hf hr]
          · rw [parseF_step hf (by omega)] at h ⊢; exact ih _ _ _ h
        · rw [parseF_bad rfl hf]
  by_cases h0 : R.2 = 0
  · obtain ⟨items, z⟩ := R
    simp only at h0
    subst h0
    obtain ⟨new, h1, _, h3, h4⟩ := parseF_inv _ _ _ _ _ h
    rw [List.nil_append] at h1
    subst h1
    exact ⟨fun x hx => (h3 x hx).2, h4⟩
  · have := herr b.length b 0 [] (by rw [h]; exact h0)
    rw [h] at this
    rw [this]
    simp
theorem parse_count : ∀ (f : Nat) (b : List UInt8) (last : UInt8) (acc : List TItem), (parseF f b last acc).1.length ≤ acc.length + b.length := by
  intro f
  induction f with
  | zero => intro b last acc; match b with
    | [] => simp [parseF]
    | [_] => simp [parseF]
    | _ :: _ :: _ => simp [parseF]
  | succ f ih => intro b last acc; match b with
    | [] => simp [parseF]
    | [_] => simp [parseF]
    | tag :: sz :: rest =>
      by_cases hf : fitsN tag last sz.toNat acc.length = 0
      · by_cases hr : rest.length < sz.toNat
        · rw [parseF_cut hf hr]; simp
        · rw [parseF_step hf (by omega)]
          have := ih (rest.drop sz.toNat) tag (acc ++ [⟨tag, rest.take sz.toNat⟩])
          simp only [List.length_append, List.length_cons, List.length_nil, List.length_drop] at this ⊢
          omega
      · rw [parseF_bad rfl hf]; simp
/-- the last of a tag, so far -/
def lastK (tag : UInt8) (items : List TItem) : Nat → List UInt8 × Bool
  | 0 => ([], false)
  | k + 1 => match items[k]? with
    | some x => if x.tag = tag then (x.value, true) else lastK tag items k
    | Option.none => lastK tag items k
theorem findF_append (tag : UInt8) (a b : List TItem) : findF tag (a ++ b) = match findF tag a with
    | some x => some x
    | Option.none => findF tag b := by
  induction a with
  | nil => rfl
  | cons x t ih =>
    simp only [List.cons_append, findF]
    split
    · rfl
    · exact ih
theorem findF_tag {tag : UInt8} : ∀ {L : List TItem} {x : TItem}, findF tag L = some x → x ∈ L ∧ x.tag = tag
  | [], x, h => by simp [findF] at h
  | y :: t, x, h => by
    simp only [findF] at h
    split at h
    · simp only [Option.some.injEq] at h; subst h; exact ⟨by simp, by assumption⟩
    · have := findF_tag h; exact ⟨by simp [this.1], this.2⟩
theorem lastK_find (tag : UInt8) (items : List TItem) (hp : items.Pairwise (fun x y => x.tag.toNat < y.tag.toNat)) : ∀ k, k ≤ items.length → lastK tag items k = findR tag (items.take k) := by
  intro k
  induction k with
  | zero => intro _; rfl
  | succ k ih =>
    intro hk
    have hlt : k < items.length := by omega
    have hi : items[k]? = some items[k] := List.getElem?_eq_getElem hlt
    rw [List.take_succ_eq_append_getElem hlt]
    simp only [lastK, hi]
    rw [ih (by omega)]
    unfold findR
    rw [findF_append]
    by_cases ht : items[k].tag = tag
    · rw [if_pos ht]
      cases hfd : findF tag (items.take k) with
      | none => simp [findF, ht]
      | some x =>
        obtain ⟨hm, hx⟩ := findF_tag hfd
        obtain ⟨j, hj, rfl⟩ := List.getElem_of_mem hm
        simp only [List.length_take] at hj
        have := List.pairwise_iff_getElem.1 hp j k (by omega) hlt (by omega)
        simp only [List.getElem_take] at hx
        rw [hx, ht] at this
        omega
    · rw [if_neg ht]
      cases hfd : findF tag (items.take k) with
      | none => simp [findF, ht]
      | some x => rfl
end Go.Proofs.YtgkofpfjbjnhfaaGreatDoor
