/-
  DERIVED. GIVEN WITH THE SEED: THE PROGRAM's TIES (one call each: nine closed facts by the kernel) AND EACH ROW's TIE, after the 31st guide's Derived/Test/Toyas{Tie, Card}.lean. No idea stands in it: it is a product of the set-up. Laid BY PROGRAM, IN A SANDBOX (cutbox-door.mjs). By AI agents, Wed Nov 11 2026. No macro, syntax, notation, axiom, sorry.
-/
import Derived.Test.YtbplbdnofobbiaaDoorRows
import Derived.LaidByTextLater
import Derived.SevenTiedAt
import Derived.LaidSub
import Derived.LaidOnce
namespace Go.Proofs.YtbplbdnofobbiaaDoor
open Go
set_option maxRecDepth 100000
theorem seatTie1 : Tryd.prog.laidByTextLater [("bosun/field.modulus", Rows.laid_bosun_field_modulus), ("bosun/field.lessTwo", Rows.laid_bosun_field_lessTwo), ("bosun/field.eighth", Rows.laid_bosun_field_eighth), ("bosun/field.rootOfMinusOne", Rows.laid_bosun_field_rootOfMinusOne), ("bosun/longsum.first", Rows.laid_bosun_longsum_first), ("bosun/longsum.rounds", Rows.laid_bosun_longsum_rounds), ("bosun/scalar.order", Rows.laid_bosun_scalar_order), ("bosun/curve.d", Rows.laid_bosun_curve_d), ("bosun/curve.dTwice", Rows.laid_bosun_curve_dTwice), ("bosun/curve.baseX", Rows.laid_bosun_curve_baseX), ("bosun/curve.baseY", Rows.laid_bosun_curve_baseY)] [.data, .data, .data, .data, .data, .data, .data, .data, .data, .data, .data] true :=
  Program.laidByTextLater_by_one 64 8 81 (by kernel_rfl) (by kernel_rfl) (by kernel_rfl) (by kernel_rfl) (by kernel_rfl) (by kernel_rfl) (fun _ _ => by kernel_rfl)
theorem noOwnUnsafe : Tryd.pinned.checked.prog.headLifts.contains "ownunsafe" = false := by kernel_rfl
theorem tie : Tryd.prog.laidByTextLater [("bosun/field.modulus", Rows.laid_bosun_field_modulus), ("bosun/field.lessTwo", Rows.laid_bosun_field_lessTwo), ("bosun/curve.dTwice", Rows.laid_bosun_curve_dTwice), ("bosun/curve.baseX", Rows.laid_bosun_curve_baseX), ("bosun/curve.baseY", Rows.laid_bosun_curve_baseY)] [.data, .data, .data, .data, .data] true :=
  Program.laidByTextLater.sub seatTie1 ["bosun/field.modulus", "bosun/field.lessTwo", "bosun/curve.dTwice", "bosun/curve.baseX", "bosun/curve.baseY"] (by kernel_rfl) (by kernel_rfl)
theorem curveSums_row_tie : Rows.curveSumsRow.laidByTextAt .later Tryd.pinned [.data, .data, .data, .data, .data] true :=
  OpenClaim.laidByTextAt_later rfl rfl tie noOwnUnsafe
theorem tie2 : Tryd.prog.laidByTextLater [("bosun/field.modulus", Rows.laid_bosun_field_modulus), ("bosun/field.lessTwo", Rows.laid_bosun_field_lessTwo), ("bosun/field.eighth", Rows.laid_bosun_field_eighth), ("bosun/field.rootOfMinusOne", Rows.laid_bosun_field_rootOfMinusOne), ("bosun/curve.d", Rows.laid_bosun_curve_d), ("bosun/curve.dTwice", Rows.laid_bosun_curve_dTwice), ("bosun/curve.baseX", Rows.laid_bosun_curve_baseX), ("bosun/curve.baseY", Rows.laid_bosun_curve_baseY)] [.data, .data, .data, .data, .data, .data, .data, .data] true :=
  Program.laidByTextLater.sub seatTie1 ["bosun/field.modulus", "bosun/field.lessTwo", "bosun/field.eighth", "bosun/field.rootOfMinusOne", "bosun/curve.d", "bosun/curve.dTwice", "bosun/curve.baseX", "bosun/curve.baseY"] (by kernel_rfl) (by kernel_rfl)
theorem curveBytes_row_tie : Rows.curveBytesRow.laidByTextAt .later Tryd.pinned [.data, .data, .data, .data, .data, .data, .data, .data] true :=
  OpenClaim.laidByTextAt_later rfl rfl tie2 noOwnUnsafe
theorem tie3 : Tryd.prog.laidByTextLater [("bosun/field.modulus", Rows.laid_bosun_field_modulus), ("bosun/field.lessTwo", Rows.laid_bosun_field_lessTwo), ("bosun/scalar.order", Rows.laid_bosun_scalar_order), ("bosun/curve.dTwice", Rows.laid_bosun_curve_dTwice), ("bosun/curve.baseX", Rows.laid_bosun_curve_baseX), ("bosun/curve.baseY", Rows.laid_bosun_curve_baseY)] [.data, .data, .data, .data, .data, .data] true :=
  Program.laidByTextLater.sub seatTie1 ["bosun/field.modulus", "bosun/field.lessTwo", "bosun/scalar.order", "bosun/curve.dTwice", "bosun/curve.baseX", "bosun/curve.baseY"] (by kernel_rfl) (by kernel_rfl)
theorem curveRules_row_tie : Rows.curveRulesRow.laidByTextAt .later Tryd.pinned [.data, .data, .data, .data, .data, .data] true :=
  OpenClaim.laidByTextAt_later rfl rfl tie3 noOwnUnsafe
theorem tie4 : Tryd.prog.laidByTextLater [("bosun/field.modulus", Rows.laid_bosun_field_modulus), ("bosun/field.lessTwo", Rows.laid_bosun_field_lessTwo), ("bosun/field.eighth", Rows.laid_bosun_field_eighth), ("bosun/field.rootOfMinusOne", Rows.laid_bosun_field_rootOfMinusOne), ("bosun/longsum.first", Rows.laid_bosun_longsum_first), ("bosun/longsum.rounds", Rows.laid_bosun_longsum_rounds), ("bosun/scalar.order", Rows.laid_bosun_scalar_order), ("bosun/curve.d", Rows.laid_bosun_curve_d), ("bosun/curve.dTwice", Rows.laid_bosun_curve_dTwice), ("bosun/curve.baseX", Rows.laid_bosun_curve_baseX), ("bosun/curve.baseY", Rows.laid_bosun_curve_baseY)] [.data, .data, .data, .data, .data, .data, .data, .data, .data, .data, .data] true :=
  Program.laidByTextLater.sub seatTie1 ["bosun/field.modulus", "bosun/field.lessTwo", "bosun/field.eighth", "bosun/field.rootOfMinusOne", "bosun/longsum.first", "bosun/longsum.rounds", "bosun/scalar.order", "bosun/curve.d", "bosun/curve.dTwice", "bosun/curve.baseX", "bosun/curve.baseY"] (by kernel_rfl) (by kernel_rfl)
theorem signSigned_row_tie : Rows.signSignedRow.laidByTextAt .later Tryd.pinned [.data, .data, .data, .data, .data, .data, .data, .data, .data, .data, .data] true :=
  OpenClaim.laidByTextAt_later rfl rfl tie4 noOwnUnsafe
theorem signAny_row_tie : Rows.signAnyRow.laidByTextAt .later Tryd.pinned [.data, .data, .data, .data, .data, .data, .data, .data, .data, .data, .data] true :=
  OpenClaim.laidByTextAt_later rfl rfl tie4 noOwnUnsafe
theorem signParts_row_tie : Rows.signPartsRow.laidByTextAt .later Tryd.pinned [.data, .data, .data, .data, .data, .data, .data, .data, .data, .data, .data] true :=
  OpenClaim.laidByTextAt_later rfl rfl tie4 noOwnUnsafe
theorem curveSumsUpto_row_tie : Rows.curveSumsUptoRow.laidByTextAt .later Tryd.pinned [.data, .data, .data, .data, .data] true :=
  OpenClaim.laidByTextAt_later rfl rfl tie noOwnUnsafe
theorem curveBytesUpto_row_tie : Rows.curveBytesUptoRow.laidByTextAt .later Tryd.pinned [.data, .data, .data, .data, .data, .data, .data, .data] true :=
  OpenClaim.laidByTextAt_later rfl rfl tie2 noOwnUnsafe
theorem curveRulesUpto_row_tie : Rows.curveRulesUptoRow.laidByTextAt .later Tryd.pinned [.data, .data, .data, .data, .data, .data] true :=
  OpenClaim.laidByTextAt_later rfl rfl tie3 noOwnUnsafe
theorem signSignedUpto_row_tie : Rows.signSignedUptoRow.laidByTextAt .later Tryd.pinned [.data, .data, .data, .data, .data, .data, .data, .data, .data, .data, .data] true :=
  OpenClaim.laidByTextAt_later rfl rfl tie4 noOwnUnsafe
theorem signAnyUpto_row_tie : Rows.signAnyUptoRow.laidByTextAt .later Tryd.pinned [.data, .data, .data, .data, .data, .data, .data, .data, .data, .data, .data] true :=
  OpenClaim.laidByTextAt_later rfl rfl tie4 noOwnUnsafe
theorem signPartsUpto_row_tie : Rows.signPartsUptoRow.laidByTextAt .later Tryd.pinned [.data, .data, .data, .data, .data, .data, .data, .data, .data, .data, .data] true :=
  OpenClaim.laidByTextAt_later rfl rfl tie4 noOwnUnsafe
end Go.Proofs.YtbplbdnofobbiaaDoor
