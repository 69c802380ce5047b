/-
  DERIVED. GIVEN WITH THE SEED: THE PROGRAM's TIES (one call each: nine closed facts by the kernel) AND EACH ROW's TIE, after the 31st guide's Derived/Test/Toyas{Tie, Card}.lean. No idea stands in it: it is a product of the set-up. Laid BY PROGRAM, IN A SANDBOX (cutbox-door.mjs). By AI agents, Wed Nov 11 2026. No macro, syntax, notation, axiom, sorry.
-/
import Derived.Test.YtjdebgbiockafaaGreatDoorRows
import Derived.LaidByTextLater
import Derived.SevenTiedAt
import Derived.LaidSub
import Derived.LaidOnce
namespace Go.Proofs.YtjdebgbiockafaaGreatDoor
open Go
set_option maxRecDepth 100000
theorem seatTie1 : Tryz.prog.laidByTextLater [("bosun/field.modulus", Rows.laid_bosun_field_modulus), ("bosun/field.lessTwo", Rows.laid_bosun_field_lessTwo), ("bosun/field.eighth", Rows.laid_bosun_field_eighth), ("bosun/field.rootOfMinusOne", Rows.laid_bosun_field_rootOfMinusOne), ("bosun/longsum.first", Rows.laid_bosun_longsum_first), ("bosun/longsum.rounds", Rows.laid_bosun_longsum_rounds), ("bosun/scalar.order", Rows.laid_bosun_scalar_order), ("bosun/curve.d", Rows.laid_bosun_curve_d), ("bosun/curve.dTwice", Rows.laid_bosun_curve_dTwice), ("bosun/curve.baseX", Rows.laid_bosun_curve_baseX), ("bosun/curve.baseY", Rows.laid_bosun_curve_baseY), ("bosun/packet.lengths", Rows.laid_bosun_packet_lengths)] [.data, .data, .data, .data, .data, .data, .data, .data, .data, .data, .data, .data] true :=
  Program.laidByTextLater_by_one 69 8 81 (by kernel_rfl) (by kernel_rfl) (by kernel_rfl) (by kernel_rfl) (by kernel_rfl) (by kernel_rfl) (fun _ _ => by kernel_rfl)
theorem noOwnUnsafe : Tryz.pinned.checked.prog.headLifts.contains "ownunsafe" = false := by kernel_rfl
theorem tie : Tryz.prog.laidByTextLater [("bosun/field.modulus", Rows.laid_bosun_field_modulus), ("bosun/field.lessTwo", Rows.laid_bosun_field_lessTwo), ("bosun/field.eighth", Rows.laid_bosun_field_eighth), ("bosun/field.rootOfMinusOne", Rows.laid_bosun_field_rootOfMinusOne), ("bosun/longsum.first", Rows.laid_bosun_longsum_first), ("bosun/longsum.rounds", Rows.laid_bosun_longsum_rounds), ("bosun/scalar.order", Rows.laid_bosun_scalar_order), ("bosun/curve.d", Rows.laid_bosun_curve_d), ("bosun/curve.dTwice", Rows.laid_bosun_curve_dTwice), ("bosun/curve.baseX", Rows.laid_bosun_curve_baseX), ("bosun/curve.baseY", Rows.laid_bosun_curve_baseY), ("bosun/packet.lengths", Rows.laid_bosun_packet_lengths)] [.data, .data, .data, .data, .data, .data, .data, .data, .data, .data, .data, .data] true :=
  Program.laidByTextLater.sub seatTie1 ["bosun/field.modulus", "bosun/field.lessTwo", "bosun/field.eighth", "bosun/field.rootOfMinusOne", "bosun/longsum.first", "bosun/longsum.rounds", "bosun/scalar.order", "bosun/curve.d", "bosun/curve.dTwice", "bosun/curve.baseX", "bosun/curve.baseY", "bosun/packet.lengths"] (by kernel_rfl) (by kernel_rfl)
theorem packetChecks_row_tie : Rows.packetChecksRow.laidByTextAt .later Tryz.pinned [.data, .data, .data, .data, .data, .data, .data, .data, .data, .data, .data, .data] true :=
  OpenClaim.laidByTextAt_later rfl rfl tie noOwnUnsafe
theorem packetChecksUpto_row_tie : Rows.packetChecksUptoRow.laidByTextAt .later Tryz.pinned [.data, .data, .data, .data, .data, .data, .data, .data, .data, .data, .data, .data] true :=
  OpenClaim.laidByTextAt_later rfl rfl tie noOwnUnsafe
end Go.Proofs.YtjdebgbiockafaaGreatDoor
