/- How a list of items reads. -/
import Derived.Test.YtdbnjejpejmmjaaTlv3
import Derived.Test.YtdbnjejpejmmjaaOpen
namespace Go.Proofs.Ytdbnjejpejmmjaa
open Go.ChangeShapes Go.WideShapes Go.ChangeAt Go.RowKit
set_option linter.unusedVariables false
variable {H : Type} {enc : TypeId × Value → H} {P : Program} {w : World} {base : Nat} {spare : Nat → Bool} {held : Bool}

theorem trod_u8 {t : TypeId} {fuel : Nat} {cs : List Value} {x : DataW H × List MemPlace} (ht : P.underlying t = some (.int .u8)) (h : DataW.trod enc P w base spare held fuel t cs = some x) : ∃ c : UInt8, cs = [vb c] := by
  obtain ⟨n, rfl, _, hw⟩ := DataW.trod_int ht h
  obtain ⟨h0, h1⟩ := wf_u8 hw
  refine ⟨UInt8.ofNat n.toNat, ?_⟩
  have : (UInt8.ofNat n.toNat).toNat = n.toNat := by simp; omega
  simp only [vb, this]
  rw [Int.toNat_of_nonneg h0]

theorem trod_items {t e e8 : TypeId} {f0 f1 : Field} {fuel : Nat} {cs : List Value} {x : DataW H × List MemPlace} (ht : P.underlying t = some (.slice e)) (hs : P.underlying e = some (.struct #[f0, f1])) (hc : P.cellsOf e = 2)
    (h0 : P.underlying f0.type = some (.int .u8)) (o0 : f0.offset = 0) (k0 : P.cellsOf f0.type = 1) (h1 : P.underlying f1.type = some (.slice e8)) (o1 : f1.offset = 1) (k1 : P.cellsOf f1.type = 1) (he8 : P.underlying e8 = some (.int .u8)) (hc8 : P.cellsOf e8 = 1)
    (h : DataW.trod enc P w base spare held fuel t cs = some x) : ∃ v L, cs = [v] ∧ IsItems w v L := by
  rcases DataW.trod_slice ht h with ⟨hcs, _⟩ | ⟨a, len, cap, elems, rest, n, _, hcs, hx, _, hl, hm, hlen, hel, _, _⟩
  · exact ⟨_, [], hcs, ⟨_, _, rfl, Nat.le_refl _, Nat.zero_le _, Lay.nil _ _, fun i u e h => by simp at h⟩⟩
  · have each : ∀ i, i < len → ∃ (u : Value) (x : TItem), w.cell? (a.add (i * 2)) = some (vb x.tag) ∧ w.cell? ((a.add (i * 2)).add 1) = some u ∧ IsBytes w u x.value := by
      intro i hi
      have := hel i hi
      rw [List.getElem?_eq_getElem (by omega), hc, Option.bind_eq_some_iff] at this
      obtain ⟨cs', hcs', hy⟩ := this
      obtain ⟨y0, y1, n', _, hll, g0, g1⟩ := trod_struct2 hs hy
      rw [hc] at hll
      match cs', hll with
      | [c0, c1], _ =>
        rw [o0, k0] at g0
        rw [o1, k1] at g1
        obtain ⟨tg, e0⟩ := trod_u8 h0 g0
        obtain ⟨u, val, e1, hb, _⟩ := trod_bytes h1 he8 hc8 g1
        simp at e0 e1
        subst e0 e1
        obtain ⟨_, _, hg⟩ := World.cells?_some hcs'
        have q0 := hg 0 (by omega)
        have q1 := hg 1 (by omega)
        refine ⟨c1, ⟨tg, val⟩, ?_, by simpa using q1, hb⟩
        have e2 : (a.add (i * 2)).add 0 = a.add (i * 2) := by unfold Addr.add; split <;> simp_all
        rw [e2] at q0
        simpa using q0
    have pick : ∀ n, n ≤ len → ∃ (L : List (Value × TItem)), L.length = n ∧ (∀ i u x, L[i]? = some (u, x) → w.cell? (a.add (i * 2)) = some (vb x.tag) ∧ w.cell? ((a.add (i * 2)).add 1) = some u ∧ IsBytes w u x.value) := by
      intro n
      induction n with
      | zero => intro _; exact ⟨[], rfl, fun i u x h => by simp at h⟩
      | succ n ih =>
        intro hn
        obtain ⟨L, h1, h2⟩ := ih (by omega)
        obtain ⟨u, x, g⟩ := each n (by omega)
        refine ⟨L ++ [(u, x)], by simp [h1], ?_⟩
        intro i u' x' hu
        rcases Nat.lt_trichotomy i n with hi | hi | hi
        · rw [List.getElem?_append_left (by omega)] at hu; exact h2 i u' x' hu
        · subst hi
          rw [List.getElem?_append_right (by omega), h1, Nat.sub_self] at hu
          simp at hu
          obtain ⟨rfl, rfl⟩ := hu
          exact g
        · rw [List.getElem?_eq_none (by simp; omega)] at hu; cases hu
    obtain ⟨L, h1, h2⟩ := pick len (Nat.le_refl _)
    refine ⟨_, L, hcs, ⟨some a, cap, by rw [h1], by omega, hm, ?_, fun i u x hu => (h2 i u x hu).2.2⟩⟩
    intro j v hv
    have hj : j < L.length * 2 := by
      have := (List.getElem?_eq_some_iff.1 hv).1
      have hlen : (itCells L).length = L.length * 2 := by
        clear hv this h1 h2
        induction L with
        | nil => rfl
        | cons y t ih => simp only [itCells, List.flatMap_cons, List.length_append, List.length_cons, List.length_nil] at ih ⊢; omega
      omega
    have hL0 : 0 < L.length := by omega
    obtain ⟨b, off, rfl, hadd⟩ : ∃ b off, a = ⟨b, off, Option.none⟩ ∧ ∀ i, a.add i = ⟨b, off + i, Option.none⟩ := by
      have := (h2 0 L[0].1 L[0].2 (List.getElem?_eq_getElem hL0)).1
      exact addr_add_spot (by simpa using this)
    obtain ⟨q0, q1, _⟩ := h2 (j / 2) L[j / 2].1 L[j / 2].2 (List.getElem?_eq_getElem (by omega))
    obtain ⟨p0, p1⟩ := itCells_get L (j / 2) L[j / 2].1 L[j / 2].2 (List.getElem?_eq_getElem (by omega))
    refine ⟨b, off, rfl, ?_⟩
    rcases Nat.mod_two_eq_zero_or_one j with hm2 | hm2
    · rw [show j / 2 * 2 = j by omega] at p0 q0
      rw [hv] at p0
      rw [hadd] at q0
      rw [q0]; exact p0.symm
    · rw [show j / 2 * 2 + 1 = j by omega] at p1
      rw [hv] at p1
      have e3 : ((⟨b, off, Option.none⟩ : Addr).add (j / 2 * 2)).add 1 = ⟨b, off + j, Option.none⟩ := by
        rw [hadd]
        have : (⟨b, off + j / 2 * 2, Option.none⟩ : Addr).add 1 = ⟨b, off + j / 2 * 2 + 1, Option.none⟩ := by unfold Addr.add; split <;> simp_all
        rw [this]
        congr 1
        omega
      rw [e3] at q1
      rw [q1]; exact p1.symm

theorem open_items {t e e8 : TypeId} {f0 f1 : Field} {v : Value} {d : DataW H} {p : List MemPlace} {r : _} {base' : Nat} (ht : P.underlying t = some (.slice e)) (hs : P.underlying e = some (.struct #[f0, f1])) (hc : P.cellsOf e = 2)
    (h0 : P.underlying f0.type = some (.int .u8)) (o0 : f0.offset = 0) (k0 : P.cellsOf f0.type = 1) (h1 : P.underlying f1.type = some (.slice e8)) (o1 : f1.offset = 1) (k1 : P.cellsOf f1.type = 1) (he8 : P.underlying e8 = some (.int .u8)) (hc8 : P.cellsOf e8 = 1)
    (hv : Value.okWide P w r base' t v) (h : DataW.Trod enc P w base spare held t v d p) : ∃ L, IsItems w v L := by
  obtain ⟨a, len, cap, rfl⟩ := okWide_slice ht hv
  obtain ⟨fuel, hf⟩ := h
  obtain ⟨v, L, hcs, hb⟩ := trod_items ht hs hc h0 o0 k0 h1 o1 k1 he8 hc8 hf
  simp [Value.cells] at hcs
  subst hcs
  exact ⟨L, hb⟩
end Go.Proofs.Ytdbnjejpejmmjaa
