/- packet: the table of lengths, from the row's condition; equality of packets; a packet as an argument; the chapter's example. -/
import Derived.Test.YtgmpmlneoiagdaaGreatDoorPk5
import Derived.Test.YtgmpmlneoiagdaaGreatDoorGBase
import Derived.Test.YtgmpmlneoiagdaaGreatDoorEqArr
import Derived.Lib.LaidTab
import Derived.LaidSub
import Derived.MakeChecks
import Derived.Laws.StructEq
namespace Go.Proofs.YtgmpmlneoiagdaaGreatDoor
open Go.ChangeShapes Go.WideShapes Go.ChangeAt Go.RowKit
set_option linter.unusedVariables false
set_option linter.unusedSimpArgs false

set_option maxRecDepth 100000 in
theorem lens_of_tab {W : World} (hL : laidMet Tryz.prog [("bosun/packet.lengths", Lib.tabData .i64 lensL)] W) : Lens W := by
  have t1 := Lib.tabIs_of_head (g := 1) (t := 196) (e := 3) (n := 7) (by kernel_rfl) (by kernel_rfl) Tryz.underlying196 Tryz.underlying3 (by kernel_rfl) (by kernel_rfl) hL
  intro i hi
  have := t1.cell (g := 1) (by kernel_rfl) i (by show i < 7; exact hi)
  rw [this]
theorem lens_of_laid {W : World} (hL : laidMetH Tryz.prog [("bosun/packet.lengths", Rows.laid_bosun_packet_lengths)] W) : Lens W := by
  rw [MakeChecks.laidMetH_plain _ _ _ (by kernel_rfl)] at hL
  have e1 : (Rows.laid_bosun_packet_lengths : DataW Unit) = Lib.tabData .i64 lensL := by kernel_rfl
  rw [e1] at hL
  exact lens_of_tab hL

section
variable {H : Type} {enc : TypeId × Value → H} {w : World} {base : Nat} {spare : Nat → Bool} {held : Bool}
end
end Go.Proofs.YtgmpmlneoiagdaaGreatDoor
