/- The package's tables, from the row's condition. -/
import Derived.Test.YtgkofpfjbjnhfaaDoorSha9S
import Derived.Lib.LaidTab
import Derived.LaidSub
import Derived.MakeChecks
namespace Go.Proofs.YtgkofpfjbjnhfaaDoor
open Go.ChangeShapes Go.WideShapes Go.ChangeAt Go.RowKit
namespace Sha32
set_option linter.unusedVariables false

def zsK : List Int := KL.map fun x => ((x.toNat : Nat) : Int)
def zsH : List Int := H0.list.map fun x => ((x.toNat : Nat) : Int)
set_option maxRecDepth 100000 in
theorem tab_of_laid {W : World} (hL : laidMetH Tryd.prog [("bosun/shortsum.first", Rows.laid_bosun_shortsum_first), ("bosun/shortsum.rounds", Rows.laid_bosun_shortsum_rounds)] W) : Tab W := by
  rw [MakeChecks.laidMetH_plain _ _ _ (by kernel_rfl)] at hL
  have e1 : (Rows.laid_bosun_shortsum_first : DataW Unit) = Lib.tabData .u32 zsH := by kernel_rfl
  have e2 : (Rows.laid_bosun_shortsum_rounds : DataW Unit) = Lib.tabData .u32 zsK := by kernel_rfl
  have h2 : laidMet Tryd.prog [("bosun/shortsum.rounds", Rows.laid_bosun_shortsum_rounds)] W := laidMet.filter (fun x => x.1 == "bosun/shortsum.rounds") hL
  rw [e1] at hL
  rw [e2] at h2
  have t1 := Lib.tabIs_of_head (g := 6) (t := 145) (e := 70) (n := 8) (by kernel_rfl) (by kernel_rfl) Tryd.underlying145 Tryd.underlying70 (by kernel_rfl) (by kernel_rfl) hL
  have t2 := Lib.tabIs_of_head (g := 7) (t := 148) (e := 70) (n := 64) (by kernel_rfl) (by kernel_rfl) Tryd.underlying148 Tryd.underlying70 (by kernel_rfl) (by kernel_rfl) h2
  constructor
  · intro i hi
    have hl : KL.length = 64 := by decide
    have := t2.cell (g := 7) (by kernel_rfl) i (by unfold zsK; rw [List.length_map, hl]; exact hi)
    rw [this]
    unfold zsK K
    rw [List.getD_eq_getElem?_getD, List.getElem?_map, List.getD_eq_getElem?_getD, List.getElem?_eq_getElem (by rw [hl]; exact hi)]
    rfl
  · intro i x hx
    have hi := (List.getElem?_eq_some_iff.1 hx).1
    have := t1.cell (g := 6) (by kernel_rfl) i (by unfold zsH; rw [List.length_map]; exact hi)
    rw [this]
    unfold zsH
    rw [List.getD_eq_getElem?_getD, List.getElem?_map, hx]
    rfl
end Sha32
end Go.Proofs.YtgkofpfjbjnhfaaDoor
