/- SHA-2 on words of 32 bits: a word turned round; the hash in memory. -/
import Derived.Test.YtgkofpfjbjnhfaaDoorRows
import Derived.Test.YtgkofpfjbjnhfaaDoorShaMathS
import Derived.Test.YtgkofpfjbjnhfaaDoorPart
import Derived.Handy
namespace Go.Proofs.YtgkofpfjbjnhfaaDoor
open Go.ChangeShapes Go.WideShapes Go.ChangeAt Go.RowKit
namespace Sha32
set_option linter.unusedVariables false
set_option linter.unusedSimpArgs false

theorem rot_fin (x : UInt32) (n : Nat) (h0 : 0 < n) (hn : n < 32) : Value.int .u32 (bits .or .u32 (IntKind.u32.wrap ((x.toNat : Int) * ((2 ^ (32 - n) : Nat) : Int))) ((x.toNat : Int) / ((2 ^ n : Nat) : Int))) = v32 (rotr x n) := by
  have e1 : IntKind.u32.wrap ((x.toNat : Int) * ((2 ^ (32 - n) : Nat) : Int)) = ((x <<< UInt32.ofNat (32 - n)).toNat : Int) := by
    rw [UInt32.toNat_shiftLeft]
    have : (UInt32.ofNat (32 - n)).toNat % 32 = 32 - n := by simp; omega
    rw [this, Nat.shiftLeft_eq, IntKind.wrap_u32]
    omega
  have e2 : (x.toNat : Int) / ((2 ^ n : Nat) : Int) = ((x >>> UInt32.ofNat n).toNat : Int) := by
    rw [UInt32.toNat_shiftRight]
    have : (UInt32.ofNat n).toNat % 32 = n := by simp; omega
    rw [this, Nat.shiftRight_eq_div_pow]
    simp
  rw [e1, e2, or32]
  rfl
set_option maxHeartbeats 4000000 in
theorem rotl_any (x : UInt32) (n : Nat) (hn : n ∈ [2, 6, 7, 11, 13, 17, 18, 19, 22, 25]) (w : World) :
    Calls Tryd.prog 112 #[v32 x, .int .i64 (-(n : Int))] w fun e w' => e = .returned (v32 (rotr x n)) ∧ w = w' := by
  simp only [List.mem_cons, List.not_mem_nil, or_false] at hn
  rcases hn with rfl | rfl | rfl | rfl | rfl | rfl | rfl | rfl | rfl | rfl
  · have hm : bits .and .u64 (IntKind.u64.wrap (-2)) 31 = 30 := by decide
    have hw2 : IntKind.u64.wrap ((32 : Int) - 30) = 2 := by decide
    go_enter Tryd.func112, Tryd.ntmps112
    go_wp2_with fail
    clear hm hw2
    go_ret
    exact ⟨congrArg Ending.returned (rot_fin x 2 (by decide) (by decide)), rfl⟩
  · have hm : bits .and .u64 (IntKind.u64.wrap (-6)) 31 = 26 := by decide
    have hw2 : IntKind.u64.wrap ((32 : Int) - 26) = 6 := by decide
    go_enter Tryd.func112, Tryd.ntmps112
    go_wp2_with fail
    clear hm hw2
    go_ret
    exact ⟨congrArg Ending.returned (rot_fin x 6 (by decide) (by decide)), rfl⟩
  · have hm : bits .and .u64 (IntKind.u64.wrap (-7)) 31 = 25 := by decide
    have hw2 : IntKind.u64.wrap ((32 : Int) - 25) = 7 := by decide
    go_enter Tryd.func112, Tryd.ntmps112
    go_wp2_with fail
    clear hm hw2
    go_ret
    exact ⟨congrArg Ending.returned (rot_fin x 7 (by decide) (by decide)), rfl⟩
  · have hm : bits .and .u64 (IntKind.u64.wrap (-11)) 31 = 21 := by decide
    have hw2 : IntKind.u64.wrap ((32 : Int) - 21) = 11 := by decide
    go_enter Tryd.func112, Tryd.ntmps112
    go_wp2_with fail
    clear hm hw2
    go_ret
    exact ⟨congrArg Ending.returned (rot_fin x 11 (by decide) (by decide)), rfl⟩
  · have hm : bits .and .u64 (IntKind.u64.wrap (-13)) 31 = 19 := by decide
    have hw2 : IntKind.u64.wrap ((32 : Int) - 19) = 13 := by decide
    go_enter Tryd.func112, Tryd.ntmps112
    go_wp2_with fail
    clear hm hw2
    go_ret
    exact ⟨congrArg Ending.returned (rot_fin x 13 (by decide) (by decide)), rfl⟩
  · have hm : bits .and .u64 (IntKind.u64.wrap (-17)) 31 = 15 := by decide
    have hw2 : IntKind.u64.wrap ((32 : Int) - 15) = 17 := by decide
    go_enter Tryd.func112, Tryd.ntmps112
    go_wp2_with fail
    clear hm hw2
    go_ret
    exact ⟨congrArg Ending.returned (rot_fin x 17 (by decide) (by decide)), rfl⟩
  · have hm : bits .and .u64 (IntKind.u64.wrap (-18)) 31 = 14 := by decide
    have hw2 : IntKind.u64.wrap ((32 : Int) - 14) = 18 := by decide
    go_enter Tryd.func112, Tryd.ntmps112
    go_wp2_with fail
    clear hm hw2
    go_ret
    exact ⟨congrArg Ending.returned (rot_fin x 18 (by decide) (by decide)), rfl⟩
  · have hm : bits .and .u64 (IntKind.u64.wrap (-19)) 31 = 13 := by decide
    have hw2 : IntKind.u64.wrap ((32 : Int) - 13) = 19 := by decide
    go_enter Tryd.func112, Tryd.ntmps112
    go_wp2_with fail
    clear hm hw2
    go_ret
    exact ⟨congrArg Ending.returned (rot_fin x 19 (by decide) (by decide)), rfl⟩
  · have hm : bits .and .u64 (IntKind.u64.wrap (-22)) 31 = 10 := by decide
    have hw2 : IntKind.u64.wrap ((32 : Int) - 10) = 22 := by decide
    go_enter Tryd.func112, Tryd.ntmps112
    go_wp2_with fail
    clear hm hw2
    go_ret
    exact ⟨congrArg Ending.returned (rot_fin x 22 (by decide) (by decide)), rfl⟩
  · have hm : bits .and .u64 (IntKind.u64.wrap (-25)) 31 = 7 := by decide
    have hw2 : IntKind.u64.wrap ((32 : Int) - 7) = 25 := by decide
    go_enter Tryd.func112, Tryd.ntmps112
    go_wp2_with fail
    clear hm hw2
    go_ret
    exact ⟨congrArg Ending.returned (rot_fin x 25 (by decide) (by decide)), rfl⟩

set_option maxHeartbeats 4000000 in
theorem right_any (x : UInt32) (n : Nat) (hn : n ∈ [2, 6, 7, 11, 13, 17, 18, 19, 22, 25]) (w : World) :
    Calls Tryd.prog 111 #[v32 x, .int .i64 (n : Int)] w fun e w' => e = .returned (v32 (rotr x n)) ∧ w = w' := by
  have h1 : n < 64 := by
    simp only [List.mem_cons, List.not_mem_nil, or_false] at hn
    omega
  have hr := rotl_any x n hn w
  clear hn
  go_enter Tryd.func111, Tryd.ntmps111
  go_wp2_with fail
  refine hr.mono ?_
  rintro e _ ⟨rfl, rfl⟩
  clear hr
  go_wp2_with fail
  go_ret
  exact ⟨rfl, rfl⟩

/-- the cells of a hash -/
def cellsL (s : St) (left : List UInt8) (n : Nat) : List Value := s.list.map v32 ++ (vbs left ++ [.int .u64 (n : Int)])
abbrev cells (s : St) (left : List UInt8) (n : Nat) : Array Value := (cellsL s left n).toArray
theorem list_len (s : St) : s.list.length = 8 := rfl
theorem cells_st (s : St) (left : List UInt8) (n i : Nat) (hi : i < 8) : (cells s left n)[i]? = some (v32 (s.list[i]'(by rw [list_len]; exact hi))) := by
  rw [List.getElem?_toArray]
  unfold cellsL
  rw [List.getElem?_append_left (by rw [List.length_map, list_len]; exact hi), List.getElem?_map, List.getElem?_eq_getElem (by rw [list_len]; exact hi)]
  rfl
theorem cells_left (s : St) (left : List UInt8) (n i : Nat) (hi : i < left.length) : (cells s left n)[8 + i]? = some (vb left[i]) := by
  rw [List.getElem?_toArray]
  unfold cellsL
  rw [List.getElem?_append_right (by rw [List.length_map, list_len]; omega), List.length_map, list_len, Nat.add_sub_cancel_left, List.getElem?_append_left (by simpa using hi), vbs_get _ _ hi]
theorem cells_n (s : St) (left : List UInt8) (n : Nat) (hl : left.length = 64) : (cells s left n)[72]? = some (.int .u64 (n : Int)) := by
  rw [List.getElem?_toArray]
  unfold cellsL
  rw [List.getElem?_append_right (by rw [List.length_map, list_len]; omega), List.length_map, list_len, List.getElem?_append_right (by simp; omega)]
  simp [hl]
theorem cells_size (s : St) (left : List UInt8) (n : Nat) (hl : left.length = 64) : (cells s left n).size = 73 := by
  simp [cells, cellsL, St.list, hl]
theorem cells_one (s : St) (left : List UInt8) (n : Nat) : (cells s left n).all (·.oneCell') = true := by
  rw [Array.all_eq_true_iff_forall_mem]
  intro x hx
  simp only [cells, cellsL, List.mem_toArray, List.mem_append, List.mem_map, List.mem_cons, List.not_mem_nil, or_false] at hx
  rcases hx with ⟨y, _, rfl⟩ | ⟨y, _, rfl⟩ | rfl <;> rfl
theorem cells_set_left (s : St) (left : List UInt8) (n i : Nat) (c : UInt8) (hi : i < left.length) : (cells s left n).setIfInBounds (8 + i) (vb c) = cells s (left.set i c) n := by
  unfold cells cellsL
  rw [List.setIfInBounds_toArray, List.set_append_right _ _ (by rw [List.length_map, list_len]; omega), List.length_map, list_len, Nat.add_sub_cancel_left, List.set_append_left _ _ (by simpa using hi), vbs_set]
theorem cells_set_n (s : St) (left : List UInt8) (n m : Nat) (hl : left.length = 64) : (cells s left n).setIfInBounds 72 (.int .u64 (m : Int)) = cells s left m := by
  unfold cells cellsL
  rw [List.setIfInBounds_toArray, List.set_append_right _ _ (by rw [List.length_map, list_len]; omega), List.length_map, list_len, List.set_append_right _ _ (by simp [hl])]
  simp [hl]
end Sha32
end Go.Proofs.YtgkofpfjbjnhfaaDoor
