/- field's laws: the tables from the row's condition. -/
import Derived.Test.YtbplbdnofobbiaaDoorFe16
import Derived.Test.YtbplbdnofobbiaaDoorGSl
import Derived.Lib.LaidTab
import Derived.LaidSub
import Derived.MakeChecks
set_option linter.unusedVariables false
set_option linter.unusedSimpArgs false
set_option maxRecDepth 100000
set_option maxHeartbeats 8000000
namespace Go.Proofs.YtbplbdnofobbiaaDoor
namespace Fe
open Go.ChangeShapes Go.WideShapes Go.ChangeAt Go.RowKit
theorem tb_m {W : World} (hL : laidMet Tryd.prog [("bosun/field.modulus", Rows.laid_bosun_field_modulus)] W) : Tb 5 P5 W := by
 have e1 : (Rows.laid_bosun_field_modulus : DataW Unit) = Lib.tabData .u64 ((qs 4 P5).map fun x : Nat => (x : Int)) := by
  rw [show qs 4 P5 = [18446744073709551597, 18446744073709551615, 18446744073709551615, 9223372036854775807] by decide +kernel]; kernel_rfl
 rw [e1] at hL
 have t1 := Lib.tabIs_of_head (g := 5) (t := 25) (e := 22) (n := 4) (by kernel_rfl) (by kernel_rfl) Tryd.underlying25 Tryd.underlying22 (by kernel_rfl) (by kernel_rfl) hL
 intro i hi
 have := t1.cell (g := 5) (by kernel_rfl) i (by rw [List.length_map, qs_len]; exact hi)
 rw [this, List.getD_eq_getElem?_getD, List.getElem?_map, qs_get 4 _ i hi]
 rfl
theorem tb_l {W : World} (hL : laidMet Tryd.prog [("bosun/field.lessTwo", Rows.laid_bosun_field_lessTwo)] W) : Tb 6 (P5 - 2) W := by
 have e1 : (Rows.laid_bosun_field_lessTwo : DataW Unit) = Lib.tabData .u64 ((qs 4 (P5 - 2)).map fun x : Nat => (x : Int)) := by
  rw [show qs 4 (P5 - 2) = [18446744073709551595, 18446744073709551615, 18446744073709551615, 9223372036854775807] by decide +kernel]; kernel_rfl
 rw [e1] at hL
 have t1 := Lib.tabIs_of_head (g := 6) (t := 23) (e := 22) (n := 4) (by kernel_rfl) (by kernel_rfl) Tryd.underlying23 Tryd.underlying22 (by kernel_rfl) (by kernel_rfl) hL
 intro i hi
 have := t1.cell (g := 6) (by kernel_rfl) i (by rw [List.length_map, qs_len]; exact hi)
 rw [this, List.getD_eq_getElem?_getD, List.getElem?_map, qs_get 4 _ i hi]
 rfl
theorem tb_e {W : World} (hL : laidMet Tryd.prog [("bosun/field.eighth", Rows.laid_bosun_field_eighth)] W) : Tb 7 E8 W := by
 have e1 : (Rows.laid_bosun_field_eighth : DataW Unit) = Lib.tabData .u64 ((qs 4 E8).map fun x : Nat => (x : Int)) := by
  rw [show qs 4 E8 = [18446744073709551614, 18446744073709551615, 18446744073709551615, 1152921504606846975] by decide +kernel]; kernel_rfl
 rw [e1] at hL
 have t1 := Lib.tabIs_of_head (g := 7) (t := 23) (e := 22) (n := 4) (by kernel_rfl) (by kernel_rfl) Tryd.underlying23 Tryd.underlying22 (by kernel_rfl) (by kernel_rfl) hL
 intro i hi
 have := t1.cell (g := 7) (by kernel_rfl) i (by rw [List.length_map, qs_len]; exact hi)
 rw [this, List.getD_eq_getElem?_getD, List.getElem?_map, qs_get 4 _ i hi]
 rfl
theorem tb_r {W : World} (hL : laidMet Tryd.prog [("bosun/field.rootOfMinusOne", Rows.laid_bosun_field_rootOfMinusOne)] W) : Tb 8 SqM W := by
 have e1 : (Rows.laid_bosun_field_rootOfMinusOne : DataW Unit) = Lib.tabData .u64 ((qs 4 SqM).map fun x : Nat => (x : Int)) := by
  rw [show qs 4 SqM = [14190309331451158704, 3405592160176694392, 3120150775007532967, 3135389899092516619] by decide +kernel]; kernel_rfl
 rw [e1] at hL
 have t1 := Lib.tabIs_of_head (g := 8) (t := 25) (e := 22) (n := 4) (by kernel_rfl) (by kernel_rfl) Tryd.underlying25 Tryd.underlying22 (by kernel_rfl) (by kernel_rfl) hL
 intro i hi
 have := t1.cell (g := 8) (by kernel_rfl) i (by rw [List.length_map, qs_len]; exact hi)
 rw [this, List.getD_eq_getElem?_getD, List.getElem?_map, qs_get 4 _ i hi]
 rfl
end Fe
end Go.Proofs.YtbplbdnofobbiaaDoor
