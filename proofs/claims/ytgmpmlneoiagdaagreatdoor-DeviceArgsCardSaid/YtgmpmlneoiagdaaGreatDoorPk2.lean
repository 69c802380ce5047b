/- packet: a packet's items, and their bytes. -/
import Derived.Test.YtgmpmlneoiagdaaGreatDoorPk1
import Derived.Test.YtgmpmlneoiagdaaGreatDoorTlv3
namespace Go.Proofs.YtgmpmlneoiagdaaGreatDoor
open Go.ChangeShapes Go.WideShapes Go.ChangeAt Go.RowKit
set_option linter.unusedVariables false
set_option linter.unusedSimpArgs false

/-- a packet's items, as they stand somewhere -/
def DescP (p : PkS) (u : Value) (Y : World) : Prop := ∃ g L, u = .slice (some ⟨g, 0, Option.none⟩) 5 5 ∧ L.map Prod.snd = descI p ∧ Lay Y (some ⟨g, 0, Option.none⟩) (itCells L) ∧ ∀ (i : Nat) (v : Value) (e : TItem), L[i]? = some (v, e) → IsBytes Y v e.value
theorem DescP.below {p : PkS} {u : Value} {X Y : World} (h : DescP p u X) (k : Stay X Y) : DescP p u Y := by
  obtain ⟨g, L, h1, h2, h3, h4⟩ := h
  exact ⟨g, L, h1, h2, h3.below k, fun i v e he => (h4 i v e he).below k⟩
theorem DescP.items {p : PkS} {u : Value} {X : World} (h : DescP p u X) : ∃ L, L.map Prod.snd = descI p ∧ IsItems X u L := by
  obtain ⟨g, L, h1, h2, h3, h4⟩ := h
  have hl : L.length = 5 := by have := congrArg List.length h2; simpa [descI] using this
  exact ⟨L, h2, _, _, by rw [hl]; exact h1, by omega, by decide, h3, h4⟩
/-- an item as a value -/
def ItP (t : UInt8) (l : List UInt8) (u : Value) (X : World) : Prop := ∃ v, u = .agg #[vb t, v] ∧ IsBytes X v l
theorem ItP.below {t : UInt8} {l : List UInt8} {u : Value} {X Y : World} (h : ItP t l u X) (k : Stay X Y) : ItP t l u Y := by
  obtain ⟨v, h1, h2⟩ := h
  exact ⟨v, h1, h2.below k⟩
def ItsP (p : PkS) (u : Value) (X : World) : Prop := ∃ L, L.map Prod.snd = allI p ∧ IsItems X u L
theorem ItsP.below {p : PkS} {u : Value} {X Y : World} (h : ItsP p u X) (k : Stay X Y) : ItsP p u Y := by
  obtain ⟨L, h1, h2⟩ := h
  exact ⟨L, h1, h2.below k⟩
/-- a row that a call made, somewhere -/
def MadeP (w : World) (l : List UInt8) (u : Value) (Y : World) : Prop := (ownT u l * all w).on Y ∧ Str w Y
theorem MadeP.below {w : World} {l : List UInt8} {u : Value} {X Y : World} (h : MadeP w l u X) (k : Stay X Y) : MadeP w l u Y := ⟨SP.on.below h.1 k, h.2.trans (Str.below k)⟩

end Go.Proofs.YtgmpmlneoiagdaaGreatDoor
