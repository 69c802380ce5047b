/- The document's packets: which bytes are one. -/
import Derived.Test.YtgkofpfjbjnhfaaDoorPk5
import Derived.Deep.QuietTactic
import Derived.BigQuiet
import Derived.Test.YtgkofpfjbjnhfaaDoorTlv4
namespace Go.Proofs.YtgkofpfjbjnhfaaDoor
open Go.ChangeShapes Go.WideShapes Go.ChangeAt Go.RowKit
set_option linter.unusedVariables false
set_option linter.unusedSimpArgs false

theorem rpC_0 (p : PkS) (n : Nat) : (rpC p).setIfInBounds 0 (.int .u32 n) = rpC { p with hw := n } := by simp [rpC, rpL]
theorem rpC_1 (p : PkS) (n : Nat) : (rpC p).setIfInBounds 1 (.int .u32 n) = rpC { p with ver := n } := by simp [rpC, rpL]
theorem rpC_2 (p : PkS) (n : Nat) : (rpC p).setIfInBounds 2 (.int .u32 n) = rpC { p with sz := n } := by simp [rpC, rpL]
theorem rpC_3 (p : PkS) (t : UInt8) : (rpC p).setIfInBounds 3 (vb t) = rpC { p with ty := t } := by simp [rpC, rpL]
theorem rpC_4 (p : PkS) (k : Nat) (x : UInt8) (h : k < p.hash.length) : (rpC p).setIfInBounds (4 + k) (vb x) = rpC { p with hash := p.hash.set k x } := by
  apply Array.toList_inj.1
  simp only [rpC, rpL, Array.toList_setIfInBounds]
  rw [List.set_append_right _ _ (by simp), List.set_append_left _ _ (by simp; omega)]
  simp [vbs, List.map_set]
theorem rpC_36 (p : PkS) (k : Nat) (x : UInt8) (h : p.hash.length = 32) : (rpC p).setIfInBounds (36 + k) (vb x) = rpC { p with sig := p.sig.set k x } := by
  apply Array.toList_inj.1
  simp only [rpC, rpL, Array.toList_setIfInBounds]
  rw [List.set_append_right _ _ (by simp; omega), List.set_append_right _ _ (by simp [h]; omega)]
  simp only [List.length_cons, List.length_nil, List.length_map, h]
  rw [show 36 + k - (0 + 1 + 1 + 1 + 1) - 32 = k by omega]
  simp [vbs, List.map_set]
theorem set_take (s z : List UInt8) (k : Nat) (x : UInt8) (hx : s[k]? = some x) (hz : k < z.length) : (s.take k ++ z.drop k).set k x = s.take (k + 1) ++ z.drop (k + 1) := by
  obtain ⟨hs, rfl⟩ := List.getElem?_eq_some_iff.1 hx
  have hl : (s.take k).length = k := by rw [List.length_take]; omega
  rw [List.set_append_right _ _ (by omega), hl, Nat.sub_self, List.drop_eq_getElem_cons hz, List.set_cons_zero, List.take_succ_eq_append_getElem hs, List.append_assoc]
  rfl
theorem rp_cell (p : PkS) (X : World) (g : Nat) (t : TypeId) (hX : X.heap[g]? = some (.cells (rpC p) t (0, 0))) (k : Nat) (hk : k < (rpC p).size) : ∃ v, X.cell? ⟨g, k, Option.none⟩ = some v := by
  refine ⟨(rpC p)[k], ?_⟩
  rw [cell_of_row _ _ _ _ _ _ hX]
  simp [hk]

end Go.Proofs.YtgkofpfjbjnhfaaDoor
