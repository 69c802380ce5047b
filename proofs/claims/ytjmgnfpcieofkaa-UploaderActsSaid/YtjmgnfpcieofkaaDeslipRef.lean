/- The document's answer for deslip: bytes, cut behind each 192. -/
import Derived.Test.YtjmgnfpcieofkaaGDs
import Derived.Test.YtjmgnfpcieofkaaDeslipLives
namespace Go.Proofs.Ytjmgnfpcieofkaa
open Go.ChangeShapes Go.WideShapes Go.ChangeAt Go.RowKit
set_option linter.unusedVariables false

theorem infoB : (Try.prog.info? 33).map (fun i => (i.zero, i.size, i.bytes)) = some (some (.slice Option.none 0 0), 1, 24) := by kernel_rfl
theorem sub_bytes {w : World} {g off n cap : Nat} {l : List UInt8} (h : IsBytes w (.slice (some ⟨g, off, Option.none⟩) n cap) l) (a k : Nat) (hk : a + k ≤ l.length) : IsBytes w (.slice (some ⟨g, off + a, Option.none⟩) k (cap - a)) ((l.drop a).take k) := by
  obtain ⟨ad, c, e, h1, h2, h3, _⟩ := h
  simp only [Value.slice.injEq] at e
  obtain ⟨rfl, rfl, rfl⟩ := e
  refine ⟨_, _, by rw [List.length_take, List.length_drop, Nat.min_eq_left (by omega)], by simp; omega, by omega, ?_, by simp⟩
  have := (h3.drop a).take k
  simpa [vbs] using this

/-- parts in memory: slices of one old row -/
def PartsAt (w : World) (v : Value) (ps : List (List UInt8)) (wr : World) : Prop :=
  ∃ vals : List Value, (own 33 1 v ps.length vals * all w).on wr ∧ vals.length = ps.length ∧ (∀ u ∈ vals, u.oneCell' = true) ∧
    ∀ (j : Nat) (u : Value) (l : List UInt8), vals[j]? = some u → ps[j]? = some l → IsBytes w u l
theorem PartsAt.nil (w : World) : PartsAt w (.slice Option.none 0 0) [] w := ⟨[], own_nil _ 1 (on_all w), rfl, by simp, fun j u l h => by simp at h⟩
theorem PartsAt.push {w w2 : World} {v2 x : Value} {ps : List (List UInt8)} {p : List UInt8} {vals : List Value} (hl : vals.length = ps.length) (h1 : ∀ u ∈ vals, u.oneCell' = true)
    (hp : ∀ (j : Nat) (u : Value) (l : List UInt8), vals[j]? = some u → ps[j]? = some l → IsBytes w u l) (hx : IsBytes w x p) (ho : (own 33 1 v2 (ps.length + 1) (vals ++ [x]) * all w).on w2) : PartsAt w v2 (ps ++ [p]) w2 := by
  refine ⟨vals ++ [x], by rw [List.length_append]; exact ho, by simp [hl], ?_, ?_⟩
  · intro u hu
    simp at hu
    rcases hu with hu | rfl
    · exact h1 u hu
    · obtain ⟨_, _, rfl, _⟩ := hx; rfl
  · intro j u l hu hl2
    by_cases hj : j < vals.length
    · rw [List.getElem?_append_left hj] at hu
      rw [List.getElem?_append_left (by omega)] at hl2
      exact hp j u l hu hl2
    · have hj2 : j = vals.length := by
        have := (List.getElem?_eq_some_iff.1 hu).1
        simp at this; omega
      subst hj2
      rw [List.getElem?_append_right (by omega)] at hu
      rw [List.getElem?_append_right (by omega)] at hl2
      simp at hu
      simp [hl] at hl2
      subst hu hl2
      exact hx

/-- the parts that a place behind a 192 has ahead of it, and those behind it, are all -/
theorem parts_step {b : List UInt8} {from' i : Nat} (hi : i < b.length) (hf : from' ≤ i) (hno : ∀ j, from' ≤ j → j < i → b.getD j 0 ≠ 192) (hc : b.getD i 0 = 192) :
    partsF (b.drop from') = ((b.drop from').take (i + 1 - from')) :: partsF (b.drop (i + 1)) := by
  have e : b.drop from' = ((b.drop from').take (i - from')) ++ 192 :: b.drop (i + 1) := by
    have h1 : b.drop from' = (b.drop from').take (i - from') ++ (b.drop from').drop (i - from') := (List.take_append_drop _ _).symm
    rw [List.drop_drop, show from' + (i - from') = i by omega, List.drop_eq_getElem_cons hi] at h1
    rw [List.getD_eq_getElem?_getD, List.getElem?_eq_getElem hi] at hc
    rw [h1]
    simp at hc
    rw [hc]
    congr 1
    rw [List.take_append_of_le_length (by simp; omega), List.take_take, Nat.min_self]
  have hq : ∀ c ∈ (b.drop from').take (i - from'), c ≠ 192 := by
    intro c hcm
    obtain ⟨k, hk, rfl⟩ := List.getElem_of_mem hcm
    simp at hk
    have := hno (from' + k) (by omega) (by omega)
    rw [List.getD_eq_getElem?_getD, List.getElem?_eq_getElem (by omega)] at this
    simpa using this
  have e2 : (b.drop from').take (i + 1 - from') = (b.drop from').take (i - from') ++ [192] := by
    rw [show i + 1 - from' = (i - from') + 1 by omega, List.take_add_one, List.getElem?_drop, show from' + (i - from') = i by omega]
    rw [List.getD_eq_getElem?_getD] at hc
    rw [List.getElem?_eq_getElem hi] at hc ⊢
    simp at hc
    rw [hc]; rfl
  rw [e2]
  conv => lhs; rw [e]
  exact partsF_end _ _ hq
theorem parts_last {b : List UInt8} {from' : Nat} (hno : ∀ j, from' ≤ j → j < b.length → b.getD j 0 ≠ 192) : partsF (b.drop from') = [b.drop from'] := by
  apply partsF_none
  intro c hcm
  obtain ⟨k, hk, rfl⟩ := List.getElem_of_mem hcm
  simp at hk
  have := hno (from' + k) (by omega) (by omega)
  rw [List.getD_eq_getElem?_getD, List.getElem?_eq_getElem (by omega)] at this
  simpa using this
end Go.Proofs.Ytjmgnfpcieofkaa
