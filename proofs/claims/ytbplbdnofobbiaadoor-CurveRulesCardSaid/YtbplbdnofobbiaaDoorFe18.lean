/- the document's look for a square. -/
import Derived.Test.YtbplbdnofobbiaaDoorFe17
namespace Go.Proofs.YtbplbdnofobbiaaDoor
namespace Fe
open Go.ChangeShapes Go.WideShapes Go.ChangeAt Go.RowKit
set_option linter.unusedVariables false
set_option linter.unusedSimpArgs false

theorem eq_n17 (X : World) (d a b : Nat) (ha : a < 2 ^ 255) (hb : b < 2 ^ 255) : (Op.equalIn (d + 2) 29 (.agg (n17 a)) (.agg (n17 b))).run Tryd.prog X = .ok (decide (a = b)) X := by
  have h := run_eq_ints (P := Tryd.prog) X d 29 3 17 .i64 Tryd.underlying29 Tryd.underlying3 (by kernel_rfl) ((ds 17 a).map fun x : Nat => (x : Int)) ((ds 17 b).map fun x : Nat => (x : Int)) (by simp [ds_len]) (by simp [ds_len])
  rw [List.map_map, List.map_map] at h
  refine Eq.trans h (congrArg (fun b => Result.ok b X) (decide_eq_decide.2 ⟨fun h => ?_, fun h => by rw [h]⟩))
  refine ds_inj a b ha hb (List.ext_getElem? fun j => ?_)
  have h2 := congrArg (fun l => l[j]?) h
  simp only [List.getElem?_map] at h2
  cases h3 : (ds 17 a)[j]? with
  | none => rw [h3] at h2; cases h4 : (ds 17 b)[j]? with
    | none => rfl
    | some y => rw [h4] at h2; simp at h2
  | some x => rw [h3] at h2; cases h4 : (ds 17 b)[j]? with
    | none => rw [h4] at h2; simp at h2
    | some y => rw [h4] at h2; simp at h2; rw [Int.ofNat_inj.1 h2]
def hstep (k : Nat) (l : List Nat) : List Nat := (if 0 < k ∧ l.getD k 0 % 2 = 1 then l.set (k - 1) (l.getD (k - 1) 0 + 16384) else l).set k (l.getD k 0 / 2)
def hl : Nat → List Nat
  | 0 => ds 17 (P5 - 1)
  | k + 1 => hstep k (hl k)
theorem hl_ok : ∀ k ∈ List.range 18, (hl k).length = 17 ∧ ∀ x ∈ hl k, x < 65536 := by decide +kernel
theorem hl_end : hl 17 = ds 17 HF := by decide +kernel
theorem getD_some (l : List Nat) (k : Nat) (h : k < l.length) : l[k]? = some (l.getD k 0) := by
  rw [List.getD_eq_getElem?_getD, List.getElem?_eq_getElem h]; rfl
end Fe
end Go.Proofs.YtbplbdnofobbiaaDoor
