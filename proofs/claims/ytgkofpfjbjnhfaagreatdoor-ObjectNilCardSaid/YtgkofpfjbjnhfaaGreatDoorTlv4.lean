/- The document's answer for tlv: the items of bytes. -/
import Derived.Test.YtgkofpfjbjnhfaaGreatDoorTlv2
import Derived.Test.YtgkofpfjbjnhfaaGreatDoorFresh
import Derived.Deep.QuietTactic
import Derived.BigQuiet
namespace Go.Proofs.YtgkofpfjbjnhfaaGreatDoor
open Go.ChangeShapes Go.WideShapes Go.ChangeAt Go.RowKit
set_option linter.unusedVariables false

/-- the value that is spoken of -/
abbrev lvOf {ty : TypeId} {v : Value} {L : List (Value × TItem)} {F : SP} {w : World} (_ : Hid ((Its ty v L * F).on w)) : Value := v
/-- how a parsing ends -/
def ParseEnd (ty : TypeId) (R : List TItem × Nat) (w : World) (e : Ending) (w' : World) : Prop := ∃ out L, e = .returned (.tuple #[out, .int .i64 (R.2 : Nat)]) ∧ L.map Prod.snd = R.1 ∧ (Its ty out L * all w).on w' ∧ Str w w'
def lastTag (L : List TItem) : UInt8 := match L.getLast? with
  | some x => x.tag
  | Option.none => 0
theorem lastTag_snoc (L : List TItem) (x : TItem) : lastTag (L ++ [x]) = x.tag := by simp [lastTag]
theorem lastTag_cell (L : List (Value × TItem)) (h : 0 < L.length) : (itCells L)[(L.length - 1) * 2]? = some (vb (lastTag (L.map Prod.snd))) := by
  have hl : L[L.length - 1]? = some (L[L.length - 1].1, L[L.length - 1].2) := List.getElem?_eq_getElem (by omega)
  have := (itCells_get L _ _ _ hl).1
  rw [this]
  congr 2
  unfold lastTag
  rw [List.getLast?_eq_getElem?, List.getElem?_map, List.length_map, hl]
  rfl
theorem fitsN_form {tag last : UInt8} {a b : Nat} (h : tag.toNat ≤ last.toNat) : fitsN tag last a b = 7 := by unfold fitsN; rw [if_pos h]
theorem fitsN_long {tag last : UInt8} {a b : Nat} (h : ¬tag.toNat ≤ last.toNat) (h2 : 200 < a ∨ 16 ≤ b) : fitsN tag last a b = 17 := by unfold fitsN; rw [if_neg h, if_pos h2]
theorem fitsN_ok {tag last : UInt8} {a b : Nat} (h : ¬tag.toNat ≤ last.toNat) (h2 : ¬(200 < a ∨ 16 ≤ b)) : fitsN tag last a b = 0 := by unfold fitsN; rw [if_neg h, if_neg h2]
theorem parseF_bad {f : Nat} {tag sz last : UInt8} {rest : List UInt8} {acc : List TItem} {z : Nat} (hf : fitsN tag last sz.toNat acc.length = z) (hz : z ≠ 0) :
    parseF (f + 1) (tag :: sz :: rest) last acc = ([], z) := by
  simp only [parseF]; rw [if_pos (by omega), hf]
theorem parseF_cut {f : Nat} {tag sz last : UInt8} {rest : List UInt8} {acc : List TItem} (hf : fitsN tag last sz.toNat acc.length = 0) (hr : rest.length < sz.toNat) :
    parseF (f + 1) (tag :: sz :: rest) last acc = ([], 18) := by
  simp only [parseF]; rw [if_neg (by simp [hf]), if_pos hr]

end Go.Proofs.YtgkofpfjbjnhfaaGreatDoor
