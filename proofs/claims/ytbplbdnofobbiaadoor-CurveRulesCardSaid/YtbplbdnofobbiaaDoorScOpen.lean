/- Arrays as arguments: numbers of sixty-four bits, bytes; the order's table, from the row's condition. -/
import Derived.Test.YtbplbdnofobbiaaDoorGRs
import Derived.Test.YtbplbdnofobbiaaDoorGBase
import Derived.Lib.LaidTab
import Derived.LaidSub
import Derived.MakeChecks
namespace Go.Proofs.YtbplbdnofobbiaaDoor
open Go.ChangeShapes Go.WideShapes Go.ChangeAt Go.RowKit
set_option linter.unusedVariables false
set_option linter.unusedSimpArgs false
section
variable {H : Type} {enc : TypeId × Value → H} {w : World} {base : Nat} {spare : Nat → Bool} {held : Bool}
theorem trod_n64 {P : Program} {t : TypeId} {fuel : Nat} {cs : List Value} {x : DataW H × List MemPlace} (ht : P.underlying t = some (.int .u64)) (h : DataW.trod enc P w base spare held fuel t cs = some x) : ∃ c : Nat, c < 18446744073709551616 ∧ cs = [lv c] := by
  obtain ⟨n, rfl, _, hw⟩ := DataW.trod_int ht h
  obtain ⟨h0, h1⟩ := wf_u64 hw
  obtain ⟨m, rfl⟩ := Int.eq_ofNat_of_zero_le h0
  exact ⟨m, by omega, rfl⟩
theorem all_lv : ∀ (cs : List Value), (∀ i, i < cs.length → ∃ c : Nat, c < 18446744073709551616 ∧ cs[i]? = some (lv c)) → ∃ l : List Nat, (∀ x ∈ l, x < 18446744073709551616) ∧ cs = l.map lv
  | [], _ => ⟨[], by simp, rfl⟩
  | v :: cs, h => by
    obtain ⟨c, hc0, hc⟩ := h 0 (by simp)
    obtain ⟨l, hl, rfl⟩ := all_lv cs (fun i hi => by have := h (i + 1) (by simp; omega); simpa using this)
    simp at hc
    exact ⟨c :: l, by intro x hx; rcases List.mem_cons.1 hx with rfl | hx; exact hc0; exact hl x hx, by rw [hc]; rfl⟩
theorem trod_arr64 {P : Program} {t e : TypeId} {n fuel : Nat} {cs : List Value} {x : DataW H × List MemPlace} (ht : P.underlying t = some (.array n e)) (he : P.underlying e = some (.int .u64)) (hc : P.cellsOf e = 1) (hn : P.cellsOf t = n)
    (h : DataW.trod enc P w base spare held fuel t cs = some x) : ∃ l : List Nat, l.length = n ∧ (∀ x ∈ l, x < 18446744073709551616) ∧ cs = l.map lv := by
  obtain ⟨xs, m, _, _, hl, hxl, hf⟩ := DataW.trod_array ht h
  rw [hn] at hl
  obtain ⟨l, hlt, rfl⟩ := all_lv cs (fun i hi => by
    have h1 := hf i (by omega)
    rw [hc, Nat.mul_one] at h1
    rw [List.getElem?_eq_getElem (by omega)] at h1
    obtain ⟨c, hc0, e⟩ := trod_n64 he h1
    have h2 := congrArg (fun l => l[0]?) e
    simp only [List.getElem?_take, List.getElem?_drop, Nat.add_zero, Nat.zero_lt_one, if_true] at h2
    exact ⟨c, hc0, by simpa using h2⟩)
  exact ⟨l, by simpa using hl, hlt, rfl⟩
theorem okS_array {P : Program} {r : _} {base' : Nat} {t e : TypeId} {n : Nat} {v : Value} (ht : P.underlying t = some (.array n e)) (h : Value.okWide P w r base' t v) : ∃ cs, v = .agg cs ∧ cs.size = P.cellsOf t := by
  simp only [Value.okWide, ht] at h
  obtain ⟨cs, h1, h2, _⟩ := h
  exact ⟨cs, h1, h2⟩
theorem trodS8 {P : Program} {t : TypeId} {fuel : Nat} {cs : List Value} {x : DataW H × List MemPlace} (ht : P.underlying t = some (.int .u8)) (h : DataW.trod enc P w base spare held fuel t cs = some x) : ∃ c : UInt8, cs = [vb c] := by
  obtain ⟨n, rfl, _, hw⟩ := DataW.trod_int ht h
  obtain ⟨h0, h1⟩ := wf_u8 hw
  refine ⟨UInt8.ofNat n.toNat, ?_⟩
  have : (UInt8.ofNat n.toNat).toNat = n.toNat := by simp; omega
  simp only [vb, this]
  rw [Int.toNat_of_nonneg h0]
theorem allS_vb : ∀ (cs : List Value), (∀ i, i < cs.length → ∃ c : UInt8, cs[i]? = some (vb c)) → ∃ l : List UInt8, cs = vbs l
  | [], _ => ⟨[], rfl⟩
  | v :: cs, h => by
    obtain ⟨c, hc⟩ := h 0 (by simp)
    obtain ⟨l, rfl⟩ := allS_vb cs (fun i hi => by have := h (i + 1) (by simp; omega); simpa using this)
    simp at hc
    exact ⟨c :: l, by rw [hc]; rfl⟩
theorem trodS_arr8 {P : Program} {t e : TypeId} {n fuel : Nat} {cs : List Value} {x : DataW H × List MemPlace} (ht : P.underlying t = some (.array n e)) (he : P.underlying e = some (.int .u8)) (hc : P.cellsOf e = 1) (hn : P.cellsOf t = n)
    (h : DataW.trod enc P w base spare held fuel t cs = some x) : ∃ l : List UInt8, l.length = n ∧ cs = vbs l := by
  obtain ⟨xs, m, _, _, hl, hxl, hf⟩ := DataW.trod_array ht h
  rw [hn] at hl
  obtain ⟨l, rfl⟩ := allS_vb cs (fun i hi => by
    have h1 := hf i (by omega)
    rw [hc, Nat.mul_one] at h1
    rw [List.getElem?_eq_getElem (by omega)] at h1
    obtain ⟨c, e⟩ := trodS8 he h1
    have h2 := congrArg (fun l => l[0]?) e
    simp only [List.getElem?_take, List.getElem?_drop, Nat.add_zero, Nat.zero_lt_one, if_true] at h2
    exact ⟨c, by simpa using h2⟩)
  exact ⟨l, by simpa using hl, rfl⟩
set_option maxRecDepth 100000 in
theorem open_limbs {v : Value} {d : DataW H} {p : List MemPlace} {r : _} {base' : Nat} (hv : Value.okWide Tryd.prog w r base' 23 v) (h : DataW.Trod enc Tryd.prog w base spare held 23 v d p) : ∃ n : Nat, v = .agg (q4 n) ∧ n < 18446744073709551616 ^ 4 := by
  obtain ⟨cs, rfl, hsz⟩ := okS_array Tryd.underlying23 hv
  obtain ⟨fuel, hf⟩ := h
  obtain ⟨l, hl, hlt, e⟩ := trod_arr64 Tryd.underlying23 Tryd.underlying22 (by kernel_rfl) (by kernel_rfl) hf
  have e' : cs.toList = l.map lv := e
  refine ⟨lval l, ?_, by have := lval_lt l hlt; rwa [hl] at this⟩
  have h2 := qs_lval l hlt
  rw [hl] at h2
  show _ = Value.agg (lvs (qs 4 (lval l)))
  rw [h2]
  unfold lvs
  rw [← e', Array.toArray_toList]
set_option maxRecDepth 100000 in
theorem open_b32 {v : Value} {d : DataW H} {p : List MemPlace} {r : _} {base' : Nat} (hv : Value.okWide Tryd.prog w r base' 38 v) (h : DataW.Trod enc Tryd.prog w base spare held 38 v d p) : ∃ l : List UInt8, v = .agg (zb l) ∧ l.length = 32 := by
  obtain ⟨cs, rfl, hsz⟩ := okS_array Tryd.underlying38 hv
  obtain ⟨fuel, hf⟩ := h
  obtain ⟨l, hl, e⟩ := trodS_arr8 Tryd.underlying38 Tryd.underlying5 (by kernel_rfl) (by kernel_rfl) hf
  have e' : cs.toList = vbs l := e
  refine ⟨l, ?_, hl⟩
  unfold zb
  rw [← e', Array.toArray_toList]
end
set_option maxRecDepth 100000 in
theorem tabO_of_laid {W : World} (hL : laidMetH Tryd.prog [("bosun/scalar.order", Rows.laid_bosun_scalar_order)] W) : TabO W := by
  rw [MakeChecks.laidMetH_plain _ _ _ (by kernel_rfl)] at hL
  have e1 : (Rows.laid_bosun_scalar_order : DataW Unit) = Lib.tabData .u64 ((qs 4 O6).map fun x : Nat => (x : Int)) := by
    rw [show qs 4 O6 = [6346243789798364141, 1503914060200516822, 0, 1152921504606846976] by decide]; kernel_rfl
  rw [e1] at hL
  have t1 := Lib.tabIs_of_head (g := 2) (t := 51) (e := 22) (n := 4) (by kernel_rfl) (by kernel_rfl) Tryd.underlying51 Tryd.underlying22 (by kernel_rfl) (by kernel_rfl) hL
  intro i hi
  have := t1.cell (g := 2) (by kernel_rfl) i (by rw [List.length_map, qs_len]; exact hi)
  rw [this, List.getD_eq_getElem?_getD, List.getElem?_map, qs_get 4 _ i hi]
  rfl
end Go.Proofs.YtbplbdnofobbiaaDoor
