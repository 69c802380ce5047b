/- Bytes up to a place. No Go function is spoken of. -/
import Derived.Test.YtjmgnfpcieofkaaSlice
import Derived.Laws.Slices
namespace Go.Proofs.Ytjmgnfpcieofkaa
open Go.RowKit Go.WideShapes Go.ChangeShapes
set_option linter.unusedVariables false
set_option linter.unusedSimpArgs false
variable {P : Program}

theorem IsBytes.slicedTo {w : World} {a : Option Addr} {n c : Nat} {l : List UInt8} (h : IsBytes w (.slice a n c) l) (k : Nat) (hk : k ≤ l.length) : IsBytes w (Go.sliced a 0 k c 1) (l.take k) := by
  obtain ⟨a', c', e, h1, h2, h3, h4⟩ := h
  simp only [Value.slice.injEq] at e
  obtain ⟨rfl, rfl, rfl⟩ := e
  unfold Go.sliced
  have ha : (if c = 0 then a else a.map (·.add (0 * 1))) = a := by
    split
    · rfl
    · cases a with
      | none => rfl
      | some ad =>
        have : ad.add (0 * 1) = ad := by unfold Addr.add; split <;> simp_all
        simp [this]
  rw [ha]
  refine ⟨a, c - 0, by rw [List.length_take, Nat.min_eq_left hk]; rfl, by rw [List.length_take]; omega, by omega, ?_, fun h => by have := h4 h; omega⟩
  have := h3.take k
  rwa [← List.map_take] at this
theorem run_slice_to {w : World} {v : Value} {l : List UInt8} (h : IsBytes w v l) (k : Nat) (hk : k ≤ l.length) (t e : TypeId) (ht : P.underlying t = some (.slice e)) (hi : (P.info? e).map (fun i => (i.zero, i.size, i.bytes)) = some (some (.int .u8 0), 1, 1)) :
    ∃ v', (Instr.sliceAt t v Option.none (some (.int .i64 (k : Int))) Option.none).run P w = .ok v' w ∧ ∀ w', IsBytes w' v l → IsBytes w' v' (l.take k) := by
  obtain ⟨a, c, rfl, h1, h2, h3, h4⟩ := h
  have he : P.elem t = e := by simp [Program.elem, ht]
  have ht' : P.underlying t = some (.slice (P.elem t)) := by rw [he]; exact ht
  obtain ⟨i, hq, _, hs, _⟩ := info_some hi
  refine ⟨_, ?_, fun w' h => h.slicedTo k hk⟩
  rw [run_sliceAt_slice w t _ _ _ _ ht', run_slice_h w t a l.length c ht' .i64 (k : Int) (by omega) (by omega)]
  simp [sizeOf, typeInfo, he, hq, hs]
end Go.Proofs.Ytjmgnfpcieofkaa
