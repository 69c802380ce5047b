/- SHA-2 on words of 64 bits: a word turned round; the hash in memory. -/
import Derived.Test.YtdieaegajahdpaaDoorRows
import Derived.Test.YtdieaegajahdpaaDoorShaMathL
import Derived.Test.YtdieaegajahdpaaDoorPart
import Derived.Handy
namespace Go.Proofs.YtdieaegajahdpaaDoor
open Go.ChangeShapes Go.WideShapes Go.ChangeAt Go.RowKit
namespace Sha64
set_option linter.unusedVariables false
set_option linter.unusedSimpArgs false

theorem rot_fin (x : UInt64) (n : Nat) (h0 : 0 < n) (hn : n < 64) : Value.int .u64 (bits .or .u64 (IntKind.u64.wrap ((x.toNat : Int) * ((2 ^ (64 - n) : Nat) : Int))) ((x.toNat : Int) / ((2 ^ n : Nat) : Int))) = v64 (rotr x n) := by
  have e1 : IntKind.u64.wrap ((x.toNat : Int) * ((2 ^ (64 - n) : Nat) : Int)) = ((x <<< UInt64.ofNat (64 - n)).toNat : Int) := by
    rw [UInt64.toNat_shiftLeft]
    have : (UInt64.ofNat (64 - n)).toNat % 64 = 64 - n := by simp; omega
    rw [this, Nat.shiftLeft_eq, IntKind.wrap_u64]
    omega
  have e2 : (x.toNat : Int) / ((2 ^ n : Nat) : Int) = ((x >>> UInt64.ofNat n).toNat : Int) := by
    rw [UInt64.toNat_shiftRight]
    have : (UInt64.ofNat n).toNat % 64 = n := by simp; omega
    rw [this, Nat.shiftRight_eq_div_pow]
    simp
  rw [e1, e2, or64]
  rfl
set_option maxHeartbeats 4000000 in
theorem rotl_any (x : UInt64) (n : Nat) (hn : n ∈ [1, 8, 14, 18, 19, 28, 34, 39, 41, 61]) (w : World) :
    Calls Tryd.prog 83 #[v64 x, .int .i64 (-(n : Int))] w fun e w' => e = .returned (v64 (rotr x n)) ∧ w = w' := by
  simp only [List.mem_cons, List.not_mem_nil, or_false] at hn
  rcases hn with rfl | rfl | rfl | rfl | rfl | rfl | rfl | rfl | rfl | rfl
  · have hm : bits .and .u64 (IntKind.u64.wrap (-1)) 63 = 63 := by decide
    have hw2 : IntKind.u64.wrap ((64 : Int) - 63) = 1 := by decide
    go_enter Tryd.func83, Tryd.ntmps83
    go_wp2_with fail
    clear hm hw2
    go_ret
    exact ⟨congrArg Ending.returned (rot_fin x 1 (by decide) (by decide)), rfl⟩
  · have hm : bits .and .u64 (IntKind.u64.wrap (-8)) 63 = 56 := by decide
    have hw2 : IntKind.u64.wrap ((64 : Int) - 56) = 8 := by decide
    go_enter Tryd.func83, Tryd.ntmps83
    go_wp2_with fail
    clear hm hw2
    go_ret
    exact ⟨congrArg Ending.returned (rot_fin x 8 (by decide) (by decide)), rfl⟩
  · have hm : bits .and .u64 (IntKind.u64.wrap (-14)) 63 = 50 := by decide
    have hw2 : IntKind.u64.wrap ((64 : Int) - 50) = 14 := by decide
    go_enter Tryd.func83, Tryd.ntmps83
    go_wp2_with fail
    clear hm hw2
    go_ret
    exact ⟨congrArg Ending.returned (rot_fin x 14 (by decide) (by decide)), rfl⟩
  · have hm : bits .and .u64 (IntKind.u64.wrap (-18)) 63 = 46 := by decide
    have hw2 : IntKind.u64.wrap ((64 : Int) - 46) = 18 := by decide
    go_enter Tryd.func83, Tryd.ntmps83
    go_wp2_with fail
    clear hm hw2
    go_ret
    exact ⟨congrArg Ending.returned (rot_fin x 18 (by decide) (by decide)), rfl⟩
  · have hm : bits .and .u64 (IntKind.u64.wrap (-19)) 63 = 45 := by decide
    have hw2 : IntKind.u64.wrap ((64 : Int) - 45) = 19 := by decide
    go_enter Tryd.func83, Tryd.ntmps83
    go_wp2_with fail
    clear hm hw2
    go_ret
    exact ⟨congrArg Ending.returned (rot_fin x 19 (by decide) (by decide)), rfl⟩
  · have hm : bits .and .u64 (IntKind.u64.wrap (-28)) 63 = 36 := by decide
    have hw2 : IntKind.u64.wrap ((64 : Int) - 36) = 28 := by decide
    go_enter Tryd.func83, Tryd.ntmps83
    go_wp2_with fail
    clear hm hw2
    go_ret
    exact ⟨congrArg Ending.returned (rot_fin x 28 (by decide) (by decide)), rfl⟩
  · have hm : bits .and .u64 (IntKind.u64.wrap (-34)) 63 = 30 := by decide
    have hw2 : IntKind.u64.wrap ((64 : Int) - 30) = 34 := by decide
    go_enter Tryd.func83, Tryd.ntmps83
    go_wp2_with fail
    clear hm hw2
    go_ret
    exact ⟨congrArg Ending.returned (rot_fin x 34 (by decide) (by decide)), rfl⟩
  · have hm : bits .and .u64 (IntKind.u64.wrap (-39)) 63 = 25 := by decide
    have hw2 : IntKind.u64.wrap ((64 : Int) - 25) = 39 := by decide
    go_enter Tryd.func83, Tryd.ntmps83
    go_wp2_with fail
    clear hm hw2
    go_ret
    exact ⟨congrArg Ending.returned (rot_fin x 39 (by decide) (by decide)), rfl⟩
  · have hm : bits .and .u64 (IntKind.u64.wrap (-41)) 63 = 23 := by decide
    have hw2 : IntKind.u64.wrap ((64 : Int) - 23) = 41 := by decide
    go_enter Tryd.func83, Tryd.ntmps83
    go_wp2_with fail
    clear hm hw2
    go_ret
    exact ⟨congrArg Ending.returned (rot_fin x 41 (by decide) (by decide)), rfl⟩
  · have hm : bits .and .u64 (IntKind.u64.wrap (-61)) 63 = 3 := by decide
    have hw2 : IntKind.u64.wrap ((64 : Int) - 3) = 61 := by decide
    go_enter Tryd.func83, Tryd.ntmps83
    go_wp2_with fail
    clear hm hw2
    go_ret
    exact ⟨congrArg Ending.returned (rot_fin x 61 (by decide) (by decide)), rfl⟩

set_option maxHeartbeats 4000000 in
theorem right_any (x : UInt64) (n : Nat) (hn : n ∈ [1, 8, 14, 18, 19, 28, 34, 39, 41, 61]) (w : World) :
    Calls Tryd.prog 70 #[v64 x, .int .i64 (n : Int)] w fun e w' => e = .returned (v64 (rotr x n)) ∧ w = w' := by
  have h1 : n < 64 := by
    simp only [List.mem_cons, List.not_mem_nil, or_false] at hn
    omega
  have hr := rotl_any x n hn w
  clear hn
  go_enter Tryd.func70, Tryd.ntmps70
  go_wp2_with fail
  refine hr.mono ?_
  rintro e _ ⟨rfl, rfl⟩
  clear hr
  go_wp2_with fail
  go_ret
  exact ⟨rfl, rfl⟩

/-- the cells of a hash -/
def cellsL (s : St) (left : List UInt8) (n : Nat) : List Value := s.list.map v64 ++ (vbs left ++ [.int .u64 (n : Int)])
abbrev cells (s : St) (left : List UInt8) (n : Nat) : Array Value := (cellsL s left n).toArray
theorem list_len (s : St) : s.list.length = 8 := rfl
theorem cells_st (s : St) (left : List UInt8) (n i : Nat) (hi : i < 8) : (cells s left n)[i]? = some (v64 (s.list[i]'(by rw [list_len]; exact hi))) := by
  rw [List.getElem?_toArray]
  unfold cellsL
  rw [List.getElem?_append_left (by rw [List.length_map, list_len]; exact hi), List.getElem?_map, List.getElem?_eq_getElem (by rw [list_len]; exact hi)]
  rfl
theorem cells_left (s : St) (left : List UInt8) (n i : Nat) (hi : i < left.length) : (cells s left n)[8 + i]? = some (vb left[i]) := by
  rw [List.getElem?_toArray]
  unfold cellsL
  rw [List.getElem?_append_right (by rw [List.length_map, list_len]; omega), List.length_map, list_len, Nat.add_sub_cancel_left, List.getElem?_append_left (by simpa using hi), vbs_get _ _ hi]
theorem cells_n (s : St) (left : List UInt8) (n : Nat) (hl : left.length = 128) : (cells s left n)[136]? = some (.int .u64 (n : Int)) := by
  rw [List.getElem?_toArray]
  unfold cellsL
  rw [List.getElem?_append_right (by rw [List.length_map, list_len]; omega), List.length_map, list_len, List.getElem?_append_right (by simp; omega)]
  simp [hl]
theorem cells_size (s : St) (left : List UInt8) (n : Nat) (hl : left.length = 128) : (cells s left n).size = 137 := by
  simp [cells, cellsL, St.list, hl]
theorem cells_one (s : St) (left : List UInt8) (n : Nat) : (cells s left n).all (·.oneCell') = true := by
  rw [Array.all_eq_true_iff_forall_mem]
  intro x hx
  simp only [cells, cellsL, List.mem_toArray, List.mem_append, List.mem_map, List.mem_cons, List.not_mem_nil, or_false] at hx
  rcases hx with ⟨y, _, rfl⟩ | ⟨y, _, rfl⟩ | rfl <;> rfl
theorem cells_set_left (s : St) (left : List UInt8) (n i : Nat) (c : UInt8) (hi : i < left.length) : (cells s left n).setIfInBounds (8 + i) (vb c) = cells s (left.set i c) n := by
  unfold cells cellsL
  rw [List.setIfInBounds_toArray, List.set_append_right _ _ (by rw [List.length_map, list_len]; omega), List.length_map, list_len, Nat.add_sub_cancel_left, List.set_append_left _ _ (by simpa using hi), vbs_set]
theorem cells_set_n (s : St) (left : List UInt8) (n m : Nat) (hl : left.length = 128) : (cells s left n).setIfInBounds 136 (.int .u64 (m : Int)) = cells s left m := by
  unfold cells cellsL
  rw [List.setIfInBounds_toArray, List.set_append_right _ _ (by rw [List.length_map, list_len]; omega), List.length_map, list_len, List.set_append_right _ _ (by simp [hl])]
  simp [hl]
end Sha64
end Go.Proofs.YtdieaegajahdpaaDoor
