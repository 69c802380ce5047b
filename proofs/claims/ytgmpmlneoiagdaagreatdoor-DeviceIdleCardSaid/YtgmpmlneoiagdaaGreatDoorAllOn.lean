/- What lay in a world lies in any that has it all. No Go function is spoken of. -/
import Derived.Test.YtgmpmlneoiagdaaGreatDoorGBase
namespace Go.Proofs.YtgmpmlneoiagdaaGreatDoor
open Go.RowKit
set_option linter.unusedVariables false

theorem all_block {w X : World} (h : (all w).on X) {k : Nat} {o : Obj} (hk : w.heap[k]? = some o) : X.heap[k]? = some o := by
  obtain ⟨x, hs, p⟩ := h
  exact hs k o ((p k (Array.getElem?_eq_some_iff.1 hk).1).trans hk)
theorem all_cell {w X : World} (h : (all w).on X) {b i : Nat} {v : Value} (hc : w.cell? ⟨b, i, Option.none⟩ = some v) : X.cell? ⟨b, i, Option.none⟩ = some v := by
  have hlt : b < w.heap.size := World.block_lt_of_cell? w _ hc
  have h1 : w.heap[b]? = some w.heap[b] := by simp [hlt]
  have h2 := all_block h h1
  unfold World.cell? at hc ⊢
  simp only at hc ⊢
  rw [h2]
  rw [h1] at hc
  exact hc
theorem Lay.all {w X : World} {a : Option Addr} {l : List Value} (h : Lay w a l) (ha : (Go.Proofs.YtgmpmlneoiagdaaGreatDoor.all w).on X) : Lay X a l := fun i v e => by
  obtain ⟨b, off, h1, hc⟩ := h i v e
  exact ⟨b, off, h1, all_cell ha hc⟩
theorem IsBytes.all {w X : World} {v : Value} {l : List UInt8} (h : IsBytes w v l) (ha : (Go.Proofs.YtgmpmlneoiagdaaGreatDoor.all w).on X) : IsBytes X v l := by
  obtain ⟨a, c, h1, h2, h3, h4, h5⟩ := h
  exact ⟨a, c, h1, h2, h3, h4.all ha, h5⟩
theorem IsRows.all {w X : World} {v : Value} {ls : List (List UInt8)} (h : IsRows w v ls) (ha : (Go.Proofs.YtgmpmlneoiagdaaGreatDoor.all w).on X) : IsRows X v ls := by
  obtain ⟨a, c, vs, h1, h2, h3, h4, h5, h6⟩ := h
  exact ⟨a, c, vs, h1, h2, h3, h4.all ha, h5, fun i v l e e' => (h6 i v l e e').all ha⟩
end Go.Proofs.YtgmpmlneoiagdaaGreatDoor
