/- The chapter's example of deslip. -/
import Derived.Test.YtjmgnfpcieofkaaGDs
import Derived.Test.YtjmgnfpcieofkaaGBase
namespace Go.Proofs.Ytjmgnfpcieofkaa
open Go.ChangeShapes Go.WideShapes Go.ChangeAt Go.RowKit
set_option linter.unusedVariables false

theorem own_lay {F : SP} {w : World} {e : TypeId} {size g n cap : Nat} {xs : List Value} (h : (own e size (.slice (some ⟨g, 0, Option.none⟩) n cap) n xs * F).on w) (j : Nat) (v : Value) (hj : xs[j]? = some v) : w.cell? ⟨g, j, Option.none⟩ = some v := by
  obtain ⟨a, c, e, _, _, hl, _⟩ := own_value h
  simp only [Value.slice.injEq] at e
  obtain ⟨rfl, _, _⟩ := e
  have := Lay.cell hl j hj
  simpa using this
theorem Bytes.blk {w : World} {g : Nat} {l : List UInt8} {t : TypeId} {F : SP} (h : (blk g (.cells (vbs l).toArray t (0, 0)) * F).on w) (hl : l.length ≤ maxLen) : IsBytes w (.slice (some ⟨g, 0, Option.none⟩) l.length l.length) l := by
  have h2 : (own t 1 (.slice (some ⟨g, 0, Option.none⟩) l.length l.length) l.length (vbs l) * F).on w := own_of_blk h (by simp) (Nat.le_refl _) hl (by simp) (by rw [Nat.mul_one]; exact List.take_of_length_le (by simp))
  exact own_bytes h2
end Go.Proofs.Ytjmgnfpcieofkaa
