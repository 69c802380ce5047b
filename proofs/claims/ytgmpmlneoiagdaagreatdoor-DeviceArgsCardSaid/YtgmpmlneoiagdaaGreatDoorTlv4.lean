/- The document's answer for tlv: the items of bytes. -/
import Derived.Test.YtgmpmlneoiagdaaGreatDoorTlv2
import Derived.Test.YtgmpmlneoiagdaaGreatDoorGBase
import Derived.Deep.QuietTactic
import Derived.BigQuiet
namespace Go.Proofs.YtgmpmlneoiagdaaGreatDoor
open Go.ChangeShapes Go.WideShapes Go.ChangeAt Go.RowKit
set_option linter.unusedVariables false

theorem parseF_bad {f : Nat} {tag sz last : UInt8} {rest : List UInt8} {acc : List TItem} {z : Nat} (hf : fitsN tag last sz.toNat acc.length = z) (hz : z ≠ 0) :
    parseF (f + 1) (tag :: sz :: rest) last acc = ([], z) := by
  simp only [parseF]; rw [if_pos (by omega), hf]
theorem parseF_cut {f : Nat} {tag sz last : UInt8} {rest : List UInt8} {acc : List TItem} (hf : fitsN tag last sz.toNat acc.length = 0) (hr : rest.length < sz.toNat) :
    parseF (f + 1) (tag :: sz :: rest) last acc = ([], 18) := by
  simp only [parseF]; rw [if_neg (by simp [hf]), if_pos hr]

end Go.Proofs.YtgmpmlneoiagdaaGreatDoor
