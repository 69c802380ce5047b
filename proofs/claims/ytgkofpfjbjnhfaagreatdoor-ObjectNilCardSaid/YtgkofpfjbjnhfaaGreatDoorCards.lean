/-
  DERIVED. GIVEN WITH THE SEED: THE CARDS: each row of YtgkofpfjbjnhfaaGreatDoorRows.lean that lists a variable, with what it lists TIED to the program's text (the seventh form; the later family's looks); each row that meets fmt, with fmt's text TOLD by the authors' own Lean function (tested against real Go, not proved from fmt's source: count such statements apart). THE CARD IS WHAT COUNTS. Prove the row's statement (the work); the ties are given (YtgkofpfjbjnhfaaGreatDoorTie.lean); close each card by the builder's one call (the guide's Derived/Test/ToyasCard.lean, 'card_holds'). Laid BY PROGRAM, IN A SANDBOX (cutbox-door.mjs). By AI agents, Wed Nov 11 2026. No macro, syntax, notation, axiom, sorry.
-/
import Derived.Test.YtgkofpfjbjnhfaaGreatDoorRows
import GoSem.ClaimSeven
namespace Go.Proofs.YtgkofpfjbjnhfaaGreatDoor
namespace Rows

/-- THE TIED CARD OF 'bosunlaw17.ObjectNil'. -/
def objectNilCard : Claim7 := { stood := { row := objectNilRow, standIns := [], harness := (true, "b43a074c2365c796e7cd699145fc8307a1d0f51ddb4ee99f21307a3bbfb96a97"), looks := false }, kinds := [], alts := [], laidByText := true, laidKinds := [.data, .data, .data, .data, .data, .data, .data, .data, .data, .data, .data, .data, .data, .data], laidTests := true, laidLooks := .later }
def ObjectNilCardSaid : Prop := Claim7.holds Tryz.pinned (.plain (OpenSpec.ofChange objectNilSpec)) objectNilCard

/-- THE SECOND FORM's CARD OF 'bosunlaw17.ObjectNil'. -/
def objectNilUptoCard : Claim7 := { stood := { row := objectNilUptoRow, standIns := [], harness := (true, "b43a074c2365c796e7cd699145fc8307a1d0f51ddb4ee99f21307a3bbfb96a97"), looks := false }, kinds := [], alts := [], laidByText := true, laidKinds := [.data, .data, .data, .data, .data, .data, .data, .data, .data, .data, .data, .data, .data, .data], laidTests := true, laidLooks := .later }
def ObjectNilUptoCardSaid : Prop := Claim7.holds Tryz.pinned (.plain (OpenSpec.upto objectNilSpec)) objectNilUptoCard
end Rows
end Go.Proofs.YtgkofpfjbjnhfaaGreatDoor
