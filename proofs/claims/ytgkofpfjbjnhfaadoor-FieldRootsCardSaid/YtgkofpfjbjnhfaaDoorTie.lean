/-
  DERIVED. GIVEN WITH THE SEED: THE PROGRAM's TIES (one call each: nine closed facts by the kernel) AND EACH ROW's TIE, after the 31st guide's Derived/Test/Toyas{Tie, Card}.lean. No idea stands in it: it is a product of the set-up. Laid BY PROGRAM, IN A SANDBOX (cutbox-door.mjs). By AI agents, Wed Nov 11 2026. No macro, syntax, notation, axiom, sorry.
-/
import Derived.Test.YtgkofpfjbjnhfaaDoorRows
import Derived.LaidByTextLater
import Derived.SevenTiedAt
import Derived.LaidSub
import Derived.LaidOnce
namespace Go.Proofs.YtgkofpfjbjnhfaaDoor
open Go
set_option maxRecDepth 100000
theorem seatTie1 : Tryd.prog.laidByTextLater [("bosun/field.modulus", Rows.laid_bosun_field_modulus), ("bosun/field.lessTwo", Rows.laid_bosun_field_lessTwo), ("bosun/field.eighth", Rows.laid_bosun_field_eighth), ("bosun/field.rootOfMinusOne", Rows.laid_bosun_field_rootOfMinusOne), ("bosun/scalar.order", Rows.laid_bosun_scalar_order), ("bosun/shortsum.first", Rows.laid_bosun_shortsum_first), ("bosun/shortsum.rounds", Rows.laid_bosun_shortsum_rounds), ("bosun/packet.lengths", Rows.laid_bosun_packet_lengths)] [.data, .data, .data, .data, .data, .data, .data, .data] true :=
  Program.laidByTextLater_by_one 49 8 65 (by kernel_rfl) (by kernel_rfl) (by kernel_rfl) (by kernel_rfl) (by kernel_rfl) (by kernel_rfl) (fun _ _ => by kernel_rfl)
theorem noOwnUnsafe : Tryd.pinned.checked.prog.headLifts.contains "ownunsafe" = false := by kernel_rfl
theorem tie : Tryd.prog.laidByTextLater [("bosun/field.modulus", Rows.laid_bosun_field_modulus), ("bosun/field.eighth", Rows.laid_bosun_field_eighth), ("bosun/field.rootOfMinusOne", Rows.laid_bosun_field_rootOfMinusOne)] [.data, .data, .data] true :=
  Program.laidByTextLater.sub seatTie1 ["bosun/field.modulus", "bosun/field.eighth", "bosun/field.rootOfMinusOne"] (by kernel_rfl) (by kernel_rfl)
theorem fieldSums_row_tie : Rows.fieldSumsRow.laidByTextAt .later Tryd.pinned [.data, .data, .data] true :=
  OpenClaim.laidByTextAt_later rfl rfl tie noOwnUnsafe
theorem fieldRoots_row_tie : Rows.fieldRootsRow.laidByTextAt .later Tryd.pinned [.data, .data, .data] true :=
  OpenClaim.laidByTextAt_later rfl rfl tie noOwnUnsafe
theorem fieldBytes_row_tie : Rows.fieldBytesRow.laidByTextAt .later Tryd.pinned [.data, .data, .data] true :=
  OpenClaim.laidByTextAt_later rfl rfl tie noOwnUnsafe
theorem tie2 : Tryd.prog.laidByTextLater [("bosun/field.modulus", Rows.laid_bosun_field_modulus), ("bosun/field.lessTwo", Rows.laid_bosun_field_lessTwo), ("bosun/field.eighth", Rows.laid_bosun_field_eighth), ("bosun/field.rootOfMinusOne", Rows.laid_bosun_field_rootOfMinusOne)] [.data, .data, .data, .data] true :=
  Program.laidByTextLater.sub seatTie1 ["bosun/field.modulus", "bosun/field.lessTwo", "bosun/field.eighth", "bosun/field.rootOfMinusOne"] (by kernel_rfl) (by kernel_rfl)
theorem fieldPowers_row_tie : Rows.fieldPowersRow.laidByTextAt .later Tryd.pinned [.data, .data, .data, .data] true :=
  OpenClaim.laidByTextAt_later rfl rfl tie2 noOwnUnsafe
theorem fieldRules_row_tie : Rows.fieldRulesRow.laidByTextAt .later Tryd.pinned [.data, .data, .data, .data] true :=
  OpenClaim.laidByTextAt_later rfl rfl tie2 noOwnUnsafe
theorem tie3 : Tryd.prog.laidByTextLater [("bosun/scalar.order", Rows.laid_bosun_scalar_order)] [.data] true :=
  Program.laidByTextLater.sub seatTie1 ["bosun/scalar.order"] (by kernel_rfl) (by kernel_rfl)
theorem scalarSums_row_tie : Rows.scalarSumsRow.laidByTextAt .later Tryd.pinned [.data] true :=
  OpenClaim.laidByTextAt_later rfl rfl tie3 noOwnUnsafe
theorem scalarBytes_row_tie : Rows.scalarBytesRow.laidByTextAt .later Tryd.pinned [.data] true :=
  OpenClaim.laidByTextAt_later rfl rfl tie3 noOwnUnsafe
theorem scalarRules_row_tie : Rows.scalarRulesRow.laidByTextAt .later Tryd.pinned [.data] true :=
  OpenClaim.laidByTextAt_later rfl rfl tie3 noOwnUnsafe
theorem tie4 : Tryd.prog.laidByTextLater [("bosun/shortsum.first", Rows.laid_bosun_shortsum_first), ("bosun/shortsum.rounds", Rows.laid_bosun_shortsum_rounds), ("bosun/packet.lengths", Rows.laid_bosun_packet_lengths)] [.data, .data, .data] true :=
  Program.laidByTextLater.sub seatTie1 ["bosun/shortsum.first", "bosun/shortsum.rounds", "bosun/packet.lengths"] (by kernel_rfl) (by kernel_rfl)
theorem packetMatches_row_tie : Rows.packetMatchesRow.laidByTextAt .later Tryd.pinned [.data, .data, .data] true :=
  OpenClaim.laidByTextAt_later rfl rfl tie4 noOwnUnsafe
theorem fieldSumsUpto_row_tie : Rows.fieldSumsUptoRow.laidByTextAt .later Tryd.pinned [.data, .data, .data] true :=
  OpenClaim.laidByTextAt_later rfl rfl tie noOwnUnsafe
theorem fieldPowersUpto_row_tie : Rows.fieldPowersUptoRow.laidByTextAt .later Tryd.pinned [.data, .data, .data, .data] true :=
  OpenClaim.laidByTextAt_later rfl rfl tie2 noOwnUnsafe
theorem fieldRootsUpto_row_tie : Rows.fieldRootsUptoRow.laidByTextAt .later Tryd.pinned [.data, .data, .data] true :=
  OpenClaim.laidByTextAt_later rfl rfl tie noOwnUnsafe
theorem fieldBytesUpto_row_tie : Rows.fieldBytesUptoRow.laidByTextAt .later Tryd.pinned [.data, .data, .data] true :=
  OpenClaim.laidByTextAt_later rfl rfl tie noOwnUnsafe
theorem fieldRulesUpto_row_tie : Rows.fieldRulesUptoRow.laidByTextAt .later Tryd.pinned [.data, .data, .data, .data] true :=
  OpenClaim.laidByTextAt_later rfl rfl tie2 noOwnUnsafe
theorem scalarSumsUpto_row_tie : Rows.scalarSumsUptoRow.laidByTextAt .later Tryd.pinned [.data] true :=
  OpenClaim.laidByTextAt_later rfl rfl tie3 noOwnUnsafe
theorem scalarBytesUpto_row_tie : Rows.scalarBytesUptoRow.laidByTextAt .later Tryd.pinned [.data] true :=
  OpenClaim.laidByTextAt_later rfl rfl tie3 noOwnUnsafe
theorem scalarRulesUpto_row_tie : Rows.scalarRulesUptoRow.laidByTextAt .later Tryd.pinned [.data] true :=
  OpenClaim.laidByTextAt_later rfl rfl tie3 noOwnUnsafe
theorem packetMatchesUpto_row_tie : Rows.packetMatchesUptoRow.laidByTextAt .later Tryd.pinned [.data, .data, .data] true :=
  OpenClaim.laidByTextAt_later rfl rfl tie4 noOwnUnsafe
end Go.Proofs.YtgkofpfjbjnhfaaDoor
