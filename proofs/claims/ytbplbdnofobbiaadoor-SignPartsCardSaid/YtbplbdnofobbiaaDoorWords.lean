/- Words of 32 and of 64 bits as values: what the operations on them give. No Go function is spoken of here. -/
import Derived.Test.YtbplbdnofobbiaaDoorGBase
set_option linter.unusedVariables false
set_option linter.unusedSimpArgs false
set_option maxRecDepth 100000
set_option maxHeartbeats 8000000
namespace Go.Proofs.YtbplbdnofobbiaaDoor
open Go.RowKit
abbrev v64 (x : UInt64) : Value := .int .u64 ((x.toNat : Nat) : Int)
theorem add64 (x y : UInt64) : IntKind.u64.wrap ((x.toNat : Int) + (y.toNat : Int)) = ((x + y).toNat : Int) := by
 rw [IntKind.wrap_u64, UInt64.toNat_add]; omega
theorem xor64 (x y : UInt64) : bits .xor .u64 (x.toNat : Int) (y.toNat : Int) = ((x ^^^ y).toNat : Int) := by
 rw [u64_xor_nat _ _ (UInt64.toNat_lt x) (UInt64.toNat_lt y), UInt64.toNat_xor]
theorem and64 (x y : UInt64) : bits .and .u64 (x.toNat : Int) (y.toNat : Int) = ((x &&& y).toNat : Int) := by
 rw [u64_and_nat _ _ (UInt64.toNat_lt x) (UInt64.toNat_lt y), UInt64.toNat_and]
theorem or64 (x y : UInt64) : bits .or .u64 (x.toNat : Int) (y.toNat : Int) = ((x ||| y).toNat : Int) := by
 rw [u64_or_nat _ _ (UInt64.toNat_lt x) (UInt64.toNat_lt y), UInt64.toNat_or]
theorem not64 (x : UInt64) : bits .xor .u64 IntKind.u64.max (x.toNat : Int) = ((~~~x).toNat : Int) := by
 rw [not_u64 _ (UInt64.toNat_lt x), UInt64.toNat_not]; rfl
end Go.Proofs.YtbplbdnofobbiaaDoor
