/- The document's answer for tlv: items as bytes; and whether items are the same. -/
import Derived.Test.YtgkofpfjbjnhfaaGreatDoorTlv3
import Derived.Test.YtgkofpfjbjnhfaaGreatDoorTlv4
namespace Go.Proofs.YtgkofpfjbjnhfaaGreatDoor
open Go.ChangeShapes Go.WideShapes Go.ChangeAt Go.RowKit
set_option linter.unusedVariables false

/-- how an encoding ends -/
def EncEnd (R : List UInt8 × Nat) (w : World) (e : Ending) (w' : World) : Prop := ∃ out, e = .returned (.tuple #[out, .int .i64 (R.2 : Nat)]) ∧ (ownT out R.1 * all w).on w' ∧ Str w w'
theorem lastTag_take (L : List (Value × TItem)) (k : Nat) (h0 : 0 < k) (h : k ≤ L.length) : (itCells L)[(k - 1) * 2]? = some (vb (lastTag ((L.map Prod.snd).take k))) := by
  have hl : L[k - 1]? = some (L[k - 1].1, L[k - 1].2) := List.getElem?_eq_getElem (by omega)
  have := (itCells_get L _ _ _ hl).1
  rw [this]
  congr 2
  unfold lastTag
  rw [List.getLast?_eq_getElem?, List.length_take, List.length_map, Nat.min_eq_left h, List.getElem?_take, if_pos (by omega), List.getElem?_map, hl]
  rfl
theorem lastTag_next (L : List (Value × TItem)) (k : Nat) (u : Value) (x : TItem) (h : L[k]? = some (u, x)) : lastTag ((L.map Prod.snd).take (k + 1)) = x.tag := by
  have hk := (List.getElem?_eq_some_iff.1 h).1
  rw [List.take_succ_eq_append_getElem (by simpa using hk), lastTag_snoc, List.getElem_map, (List.getElem?_eq_some_iff.1 h).2]

end Go.Proofs.YtgkofpfjbjnhfaaGreatDoor
