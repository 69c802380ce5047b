/- record: the document's own numbers, check sum and bytes. -/
import Derived.Test.YtgkofpfjbjnhfaaRec3
import Derived.Test.YtgkofpfjbjnhfaaTail
namespace Go.Proofs.Ytgkofpfjbjnhfaa
open Go.ChangeShapes Go.WideShapes Go.ChangeAt Go.RowKit
set_option linter.unusedVariables false
set_option linter.unusedSimpArgs false

theorem wordB_snoc (n k : Nat) (h : k < 4) : (wordB n).take (k + 1) = (wordB n).take k ++ [b4 n k] := by
  match k, h with
  | 0, _ => rfl
  | 1, _ => rfl
  | 2, _ => rfl
  | 3, _ => rfl

theorem numS_step (l : List UInt8) (n : Nat) (k : Nat) (hk : k < 4) : numS (l.drop k) 0 (4 - k) = (numS (l.drop (k + 1)) 0 (4 - (k + 1))) * 256 + (l.getD k 0).toNat := by
  match k, hk with
  | 0, _ => simp [numS]; omega
  | 1, _ => simp [numS]; omega
  | 2, _ => simp [numS]; omega
  | 3, _ => simp [numS]

end Go.Proofs.Ytgkofpfjbjnhfaa
