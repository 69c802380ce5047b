/- A part. -/
import Derived.Test.YtjdebgbiockafaaGreatDoorGRs
import Derived.Lib.LaidTab
import Derived.LaidSub
import Derived.MakeChecks
set_option linter.unusedVariables false
set_option linter.unusedSimpArgs false
set_option maxRecDepth 100000
set_option maxHeartbeats 8000000
namespace Go.Proofs.YtjdebgbiockafaaGreatDoor
open Go.ChangeShapes Go.WideShapes Go.ChangeAt Go.RowKit
section
variable {H : Type} {enc : TypeId × Value → H} {w : World} {base : Nat} {spare : Nat → Bool} {held : Bool}
theorem okS_array {P : Program} {r : _} {base' : Nat} {t e : TypeId} {n : Nat} {v : Value} (ht : P.underlying t = some (.array n e)) (h : Value.okWide P w r base' t v) : ∃ cs, v = .agg cs ∧ cs.size = P.cellsOf t := by
 simp only [Value.okWide, ht] at h
 obtain ⟨cs, h1, h2, _⟩ := h
 exact ⟨cs, h1, h2⟩
theorem trodS8 {P : Program} {t : TypeId} {fuel : Nat} {cs : List Value} {x : DataW H × List MemPlace} (ht : P.underlying t = some (.int .u8)) (h : DataW.trod enc P w base spare held fuel t cs = some x) : ∃ c : UInt8, cs = [vb c] := by
 obtain ⟨n, rfl, _, hw⟩ := DataW.trod_int ht h
 obtain ⟨h0, h1⟩ := wf_u8 hw
 refine ⟨UInt8.ofNat n.toNat, ?_⟩
 have : (UInt8.ofNat n.toNat).toNat = n.toNat := by simp; omega
 simp only [vb, this]
 rw [Int.toNat_of_nonneg h0]
theorem allS_vb : ∀ (cs : List Value), (∀ i, i < cs.length → ∃ c : UInt8, cs[i]? = some (vb c)) → ∃ l : List UInt8, cs = vbs l
 | [], _ => ⟨[], rfl⟩
 | v :: cs, h => by
  obtain ⟨c, hc⟩ := h 0 (by simp)
  obtain ⟨l, rfl⟩ := allS_vb cs (fun i hi => by have := h (i + 1) (by simp; omega); simpa using this)
  simp at hc
  exact ⟨c :: l, by rw [hc]; rfl⟩
theorem trodS_arr8 {P : Program} {t e : TypeId} {n fuel : Nat} {cs : List Value} {x : DataW H × List MemPlace} (ht : P.underlying t = some (.array n e)) (he : P.underlying e = some (.int .u8)) (hc : P.cellsOf e = 1) (hn : P.cellsOf t = n)
  (h : DataW.trod enc P w base spare held fuel t cs = some x) : ∃ l : List UInt8, l.length = n ∧ cs = vbs l := by
 obtain ⟨xs, m, _, _, hl, hxl, hf⟩ := DataW.trod_array ht h
 rw [hn] at hl
 obtain ⟨l, rfl⟩ := allS_vb cs (fun i hi => by
  have h1 := hf i (by omega)
  rw [hc, Nat.mul_one] at h1
  rw [List.getElem?_eq_getElem (by omega)] at h1
  obtain ⟨c, e⟩ := trodS8 he h1
  have h2 := congrArg (fun l => l[0]?) e
  simp only [List.getElem?_take, List.getElem?_drop, Nat.add_zero, Nat.zero_lt_one, if_true] at h2
  exact ⟨c, by simpa using h2⟩)
 exact ⟨l, by simpa using hl, rfl⟩
theorem open_b32 {v : Value} {d : DataW H} {p : List MemPlace} {r : _} {base' : Nat} (hv : Value.okWide Tryz.prog w r base' 22 v) (h : DataW.Trod enc Tryz.prog w base spare held 22 v d p) : ∃ l : List UInt8, v = .agg (zb l) ∧ l.length = 32 := by
 obtain ⟨cs, rfl, hsz⟩ := okS_array Tryz.underlying22 hv
 obtain ⟨fuel, hf⟩ := h
 obtain ⟨l, hl, e⟩ := trodS_arr8 Tryz.underlying22 Tryz.underlying5 (by kernel_rfl) (by kernel_rfl) hf
 have e' : cs.toList = vbs l := e
 refine ⟨l, ?_, hl⟩
 unfold zb
 rw [← e', Array.toArray_toList]
end
theorem zb_lay {w : World} {g : Nat} {l : List UInt8} {t : TypeId} (hg : w.heap[g]? = some (.cells (zb l) t (0, 0))) (h : l.length ≤ maxLen) : IsBytes w (.slice (some ⟨g, 0, .none⟩) l.length l.length) l :=
 ⟨_, _, rfl, Nat.le_refl _, h, fun j v hv => ⟨_, _, rfl, by rw [Nat.zero_add, cell_of_row w g j _ _ _ hg]; simpa [zb] using hv⟩, fun h => (nomatch h)⟩
theorem zb_one (l : List UInt8) : (zb l).all (·.oneCell') = true := vba l
end Go.Proofs.YtjdebgbiockafaaGreatDoor
