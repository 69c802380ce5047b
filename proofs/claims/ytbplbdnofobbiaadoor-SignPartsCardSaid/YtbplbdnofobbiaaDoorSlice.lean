/- Bytes from a place on. No Go function is spoken of. -/
import Derived.Test.YtbplbdnofobbiaaDoorGBase
import Derived.Laws.Slices
set_option linter.unusedVariables false
set_option linter.unusedSimpArgs false
set_option maxRecDepth 100000
set_option maxHeartbeats 8000000
namespace Go.Proofs.YtbplbdnofobbiaaDoor
open Go.RowKit Go.WideShapes Go.ChangeShapes
variable {P : Program}
theorem IsBytes.sliced {w : World} {a : Option Addr} {n c : Nat} {l : List UInt8} (h : IsBytes w (.slice a n c) l) (k : Nat) (hk : k ≤ l.length) : IsBytes w (sliced a k n c 1) (l.drop k) := by
 obtain ⟨a', c', e, h1, h2, h3, h4⟩ := h
 simp only [Value.slice.injEq] at e
 obtain ⟨rfl, rfl, rfl⟩ := e
 unfold Go.sliced
 by_cases hc : c = k
 ·rw [if_pos hc]
  have hl : l.length = k := by omega
  have hd : l.drop k = [] := List.drop_of_length_le (by omega)
  rw [hd]
  refine ⟨a, c - k, by simp [hl], by simp, by omega, Lay.nil _ _, fun _ => by omega⟩
 ·rw [if_neg hc]
  refine ⟨a.map (·.add (k * 1)), c - k, by rw [List.length_drop], by rw [List.length_drop]; omega, by omega, ?_, ?_⟩
  ·rcases Nat.eq_zero_or_pos l.length with h0 | h0
   ·have : l.drop k = [] := List.drop_of_length_le (by omega)
    rw [this]; exact Lay.nil _ _
   ·obtain ⟨b, off, rfl⟩ := h3.isAddr 0 (by simpa using h0)
    have : (⟨b, off, .none⟩ : Addr).add (k * 1) = ⟨b, off + k, .none⟩ := by unfold Addr.add; split <;> simp_all
    simp only [Option.map_some, this]
    have h5 := h3.drop k
    rwa [← List.map_drop] at h5
  ·intro hn
   have : a = Option.none := by cases a <;> simp_all
   have := h4 this
   omega
theorem run_slice_from {w : World} {v : Value} {l : List UInt8} (h : IsBytes w v l) (k : Nat) (hk : k ≤ l.length) (t e : TypeId) (ht : P.underlying t = some (.slice e)) (hi : (P.info? e).map (fun i => (i.zero, i.size, i.bytes)) = some (some (.int .u8 0), 1, 1)) :
  ∃ v', (Instr.sliceAt t v (some (.int .i64 (k : Int))) Option.none Option.none).run P w = .ok v' w ∧ ∀ w', IsBytes w' v l → IsBytes w' v' (l.drop k) := by
 obtain ⟨a, c, rfl, h1, h2, h3, h4⟩ := h
 have he : P.elem t = e := by simp [Program.elem, ht]
 have ht' : P.underlying t = some (.slice (P.elem t)) := by rw [he]; exact ht
 obtain ⟨i, hq, _, hs, _⟩ := info_some hi
 refine ⟨_, ?_, fun w' h => h.sliced k hk⟩
 rw [run_sliceAt_slice w t _ _ _ _ ht', run_slice_l w t a l.length c ht' .i64 (k : Int) (by omega) (by omega)]
 simp [sizeOf, typeInfo, he, hq, hs]
end Go.Proofs.YtbplbdnofobbiaaDoor
