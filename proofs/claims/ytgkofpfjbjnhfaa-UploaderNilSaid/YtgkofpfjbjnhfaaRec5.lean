/- record: the document's own encoding. -/
import Derived.Test.YtgkofpfjbjnhfaaRec4
namespace Go.Proofs.Ytgkofpfjbjnhfaa
open Go.ChangeShapes Go.WideShapes Go.ChangeAt Go.RowKit
set_option linter.unusedVariables false
set_option linter.unusedSimpArgs false

theorem rboxCells {w' : World} {b : Nat} {s : RecS} {iv : Value} {t : TypeId} (h : w'.heap[b]? = some (.cells (refCells s iv) t)) :
    w'.cell? ⟨b, 0, Option.none⟩ = some (u32v s.seq) ∧ w'.cell? ⟨b, 1, Option.none⟩ = some (u32v s.floor) ∧ w'.cell? ⟨b, 2, Option.none⟩ = some (u32v s.bytes) ∧ w'.cell? ⟨b, 3, Option.none⟩ = some (u32v s.sum) ∧
    w'.cell? ⟨b, 4, Option.none⟩ = some (u32v s.done) ∧ w'.cell? ⟨b, 5, Option.none⟩ = some (vb s.phase) ∧ w'.cell? ⟨b, 6, Option.none⟩ = some iv := by
  refine ⟨?_, ?_, ?_, ?_, ?_, ?_, ?_⟩ <;> (rw [cell_of_row _ _ _ _ _ _ h]; rfl)

def sliceLenR : Value → Nat
  | .slice _ n _ => n
  | _ => 0
def RefBox (W : World) (b : Nat) (s : RecS) (iv : Value) (t : TypeId) : Prop := ∀ w', (all W).on w' → Str W w' → w'.heap[b]? = some (.cells (refCells s iv) t)
/-- bytes of one's own behind W -/
def At (W : World) (v : Value) (l : List UInt8) (w : World) : Prop := (ownR v l * all W).on w ∧ Str W w
theorem At.len {W : World} {v : Value} {l m : List UInt8} {w : World} (h : At W v l w) (e : l = m) : At W v m w := e ▸ h

end Go.Proofs.Ytgkofpfjbjnhfaa
