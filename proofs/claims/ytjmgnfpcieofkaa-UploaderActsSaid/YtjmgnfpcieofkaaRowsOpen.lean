/- How a list of structs reads; records, numbers. No Go function is spoken of. -/
import Derived.Test.YtjmgnfpcieofkaaGRecB
namespace Go.Proofs.Ytjmgnfpcieofkaa
open Go.ChangeShapes Go.WideShapes Go.ChangeAt Go.RowKit
set_option linter.unusedVariables false
set_option linter.unusedSimpArgs false
section
variable {H : Type} {enc : TypeId × Value → H} {P : Program} {w : World} {base : Nat} {spare : Nat → Bool} {held : Bool}

/-- rows of k cells each -/
def IsRowsC {α : Type} (k : Nat) (C : α → Array Value) (w : World) (v : Value) (L : List α) : Prop :=
  ∃ a c, v = .slice a L.length c ∧ L.length ≤ c ∧ c ≤ maxLen ∧ ∀ (i : Nat) (y : α), L[i]? = some y → ∃ b off, a = some ⟨b, off, Option.none⟩ ∧ ∀ (j : Nat) (x : Value), (C y)[j]? = some x → w.cell? ⟨b, off + i * k + j, Option.none⟩ = some x
theorem trod_each {α : Type} {t e : TypeId} {k fuel : Nat} (C : α → Array Value) (Pr : α → Prop) {cs : List Value} {x : DataW H × List MemPlace} (ht : P.underlying t = some (.slice e)) (hc : P.cellsOf e = k) (hk : 0 < k)
    (each : ∀ fuel cs x, DataW.trod enc P w base spare held fuel e cs = some x → ∃ y, cs = (C y).toList ∧ Pr y ∧ 0 < (C y).size)
    (h : DataW.trod enc P w base spare held fuel t cs = some x) : ∃ v L, cs = [v] ∧ IsRowsC k C w v L ∧ ∀ y ∈ L, Pr y := by
  rcases DataW.trod_slice ht h with ⟨hcs, _⟩ | ⟨a, len, cap, elems, rest, n, _, hcs, hx, _, hl, hm, hlen, hel, _, _⟩
  · exact ⟨_, [], hcs, ⟨_, _, rfl, Nat.le_refl _, Nat.zero_le _, fun i y h => by simp at h⟩, fun y h => by simp at h⟩
  · have one : ∀ i, i < len → ∃ y, Pr y ∧ 0 < (C y).size ∧ ∀ (j : Nat) (x : Value), (C y)[j]? = some x → w.cell? ((a.add (i * k)).add j) = some x := by
      intro i hi
      have := hel i hi
      rw [List.getElem?_eq_getElem (by omega), hc, Option.bind_eq_some_iff] at this
      obtain ⟨cs', hcs', hy⟩ := this
      obtain ⟨y, rfl, hp, h0⟩ := each _ _ _ hy
      obtain ⟨_, hsz, hg⟩ := World.cells?_some hcs'
      refine ⟨y, hp, h0, fun j x hj => ?_⟩
      have hj2 : j < (C y).size := (Array.getElem?_eq_some_iff.1 hj).1
      have := hg j (by rw [Array.length_toList] at hsz; omega)
      rw [this]
      simpa using hj
    have pick : ∀ n, n ≤ len → ∃ (L : List α), L.length = n ∧ ∀ i y, L[i]? = some y → Pr y ∧ 0 < (C y).size ∧ ∀ (j : Nat) (x : Value), (C y)[j]? = some x → w.cell? ((a.add (i * k)).add j) = some x := by
      intro n
      induction n with
      | zero => intro _; exact ⟨[], rfl, fun i y h => by simp at h⟩
      | succ n ih =>
        intro hn
        obtain ⟨L, h1, h2⟩ := ih (by omega)
        obtain ⟨y, g⟩ := one n (by omega)
        refine ⟨L ++ [y], by simp [h1], ?_⟩
        intro i y' hu
        rcases Nat.lt_trichotomy i n with hi | hi | hi
        · rw [List.getElem?_append_left (by omega)] at hu; exact h2 i y' hu
        · subst hi
          rw [List.getElem?_append_right (by omega), h1, Nat.sub_self] at hu
          simp at hu
          subst hu
          exact g
        · rw [List.getElem?_eq_none (by simp; omega)] at hu; cases hu
    obtain ⟨L, h1, h2⟩ := pick len (Nat.le_refl _)
    refine ⟨_, L, hcs, ⟨some a, cap, by rw [h1], by omega, hm, fun i y hy => ?_⟩, fun y hy => ?_⟩
    · obtain ⟨_, h0, h3⟩ := h2 i y hy
      have hL : 0 < L.length := by have := (List.getElem?_eq_some_iff.1 hy).1; omega
      obtain ⟨_, h0', h3'⟩ := h2 0 _ (List.getElem?_eq_getElem hL)
      obtain ⟨b, off, spot⟩ := a
      have hn : spot = Option.none := by
        have := World.cell?_spot (h3' 0 _ (Array.getElem?_eq_getElem h0'))
        simpa [Addr.add] using this
      subst hn
      refine ⟨b, off, rfl, fun j x hj => ?_⟩
      have := h3 j x hj
      have e1 : ((⟨b, off, Option.none⟩ : Addr).add (i * k)).add j = ⟨b, off + i * k + j, Option.none⟩ := by
        have e2 : (⟨b, off, Option.none⟩ : Addr).add (i * k) = ⟨b, off + i * k, Option.none⟩ := by unfold Addr.add; split <;> simp_all
        rw [e2]
        unfold Addr.add
        split <;> simp_all
      rw [e1] at this
      exact this
    · obtain ⟨i, hi, rfl⟩ := List.getElem_of_mem hy
      exact (h2 i _ (List.getElem?_eq_getElem hi)).1
theorem open_each {α : Type} {t e : TypeId} {k : Nat} (C : α → Array Value) (Pr : α → Prop) {v : Value} {d : DataW H} {p : List MemPlace} {r : _} {base' : Nat} (ht : P.underlying t = some (.slice e)) (hc : P.cellsOf e = k) (hk : 0 < k)
    (each : ∀ fuel cs x, DataW.trod enc P w base spare held fuel e cs = some x → ∃ y, cs = (C y).toList ∧ Pr y ∧ 0 < (C y).size)
    (hv : Value.okWide P w r base' t v) (h : DataW.Trod enc P w base spare held t v d p) : ∃ L, IsRowsC k C w v L ∧ ∀ y ∈ L, Pr y := by
  obtain ⟨a, len, cap, rfl⟩ := okWide_slice ht hv
  obtain ⟨fuel, hf⟩ := h
  obtain ⟨v, L, hcs, hb⟩ := trod_each C Pr ht hc hk each hf
  simp [Value.cells] at hcs
  subst hcs
  exact ⟨L, hb⟩
theorem IsRowsC.cell {α : Type} {k : Nat} {C : α → Array Value} {w w' : World} {L : List α} {b off n c : Nat} {y : α} (h : IsRowsC k C w (.slice (some ⟨b, off, Option.none⟩) n c) L) (hb : Below w.heap.size w w') (i : Nat) (hy : L[i]? = some y) :
    ∀ (j : Nat) (x : Value), (C y)[j]? = some x → w'.cell? ⟨b, off + i * k + j, Option.none⟩ = some x := by
  obtain ⟨a, c', e, _, _, h4⟩ := h
  simp only [Value.slice.injEq] at e
  obtain ⟨rfl, rfl, rfl⟩ := e
  intro j x hj
  obtain ⟨b2, off2, e2, h5⟩ := h4 i y hy
  simp only [Option.some.injEq, Addr.mk.injEq, and_true] at e2
  obtain ⟨rfl, rfl⟩ := e2
  have := h5 j x hj
  rw [hb.cell (World.block_lt_of_cell? _ _ this)]
  exact this
theorem trod_i64 {t : TypeId} {fuel : Nat} {cs : List Value} {x : DataW H × List MemPlace} (ht : P.underlying t = some (.int .i64)) (h : DataW.trod enc P w base spare held fuel t cs = some x) : ∃ c : Int, -9223372036854775808 ≤ c ∧ c ≤ 9223372036854775807 ∧ cs = [.int .i64 c] := by
  obtain ⟨n, rfl, _, hw⟩ := DataW.trod_int ht h
  obtain ⟨h0, h1⟩ := wf_i64 hw
  exact ⟨n, h0, h1, rfl⟩
end
section
variable {H : Type} {enc : TypeId × Value → H} {w : World} {base : Nat} {spare : Nat → Bool} {held : Bool}
end

end Go.Proofs.Ytjmgnfpcieofkaa
