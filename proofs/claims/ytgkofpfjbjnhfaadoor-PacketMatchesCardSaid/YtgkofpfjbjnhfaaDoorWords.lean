/- Words of 32 and of 64 bits as values: what the operations on them give. No Go function is spoken of here. -/
import Derived.Test.YtgkofpfjbjnhfaaDoorOwn
namespace Go.Proofs.YtgkofpfjbjnhfaaDoor
open Go.RowKit
set_option linter.unusedVariables false

abbrev v32 (x : UInt32) : Value := .int .u32 ((x.toNat : Nat) : Int)
abbrev v64 (x : UInt64) : Value := .int .u64 ((x.toNat : Nat) : Int)

theorem add32 (x y : UInt32) : IntKind.u32.wrap ((x.toNat : Int) + (y.toNat : Int)) = ((x + y).toNat : Int) := by
  rw [IntKind.wrap_u32, UInt32.toNat_add]; omega
theorem xor32 (x y : UInt32) : bits .xor .u32 (x.toNat : Int) (y.toNat : Int) = ((x ^^^ y).toNat : Int) := by
  rw [u32_xor_nat _ _ (UInt32.toNat_lt x) (UInt32.toNat_lt y), UInt32.toNat_xor]
theorem add64 (x y : UInt64) : IntKind.u64.wrap ((x.toNat : Int) + (y.toNat : Int)) = ((x + y).toNat : Int) := by
  rw [IntKind.wrap_u64, UInt64.toNat_add]; omega
theorem xor64 (x y : UInt64) : bits .xor .u64 (x.toNat : Int) (y.toNat : Int) = ((x ^^^ y).toNat : Int) := by
  rw [u64_xor_nat _ _ (UInt64.toNat_lt x) (UInt64.toNat_lt y), UInt64.toNat_xor]
theorem and32 (x y : UInt32) : bits .and .u32 (x.toNat : Int) (y.toNat : Int) = ((x &&& y).toNat : Int) := by
  rw [u32_and_nat _ _ (UInt32.toNat_lt x) (UInt32.toNat_lt y), UInt32.toNat_and]
theorem and64 (x y : UInt64) : bits .and .u64 (x.toNat : Int) (y.toNat : Int) = ((x &&& y).toNat : Int) := by
  rw [u64_and_nat _ _ (UInt64.toNat_lt x) (UInt64.toNat_lt y), UInt64.toNat_and]
theorem or32 (x y : UInt32) : bits .or .u32 (x.toNat : Int) (y.toNat : Int) = ((x ||| y).toNat : Int) := by
  rw [u32_or_nat _ _ (UInt32.toNat_lt x) (UInt32.toNat_lt y), UInt32.toNat_or]
theorem or64 (x y : UInt64) : bits .or .u64 (x.toNat : Int) (y.toNat : Int) = ((x ||| y).toNat : Int) := by
  rw [u64_or_nat _ _ (UInt64.toNat_lt x) (UInt64.toNat_lt y), UInt64.toNat_or]
theorem not32 (x : UInt32) : bits .xor .u32 IntKind.u32.max (x.toNat : Int) = ((~~~x).toNat : Int) := by
  rw [not_u32 _ (UInt32.toNat_lt x), UInt32.toNat_not]; rfl
theorem not64 (x : UInt64) : bits .xor .u64 IntKind.u64.max (x.toNat : Int) = ((~~~x).toNat : Int) := by
  rw [not_u64 _ (UInt64.toNat_lt x), UInt64.toNat_not]; rfl
end Go.Proofs.YtgkofpfjbjnhfaaDoor
