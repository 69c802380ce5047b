/-
  DERIVED. GIVEN WITH THE SEED: THE CARDS: each row of YtjdebgbiockafaaGreatDoorRows.lean that lists a variable, with what it lists TIED to the program's text (the seventh form; the later family's looks); each row that meets fmt, with fmt's text TOLD by the authors' own Lean function (tested against real Go, not proved from fmt's source: count such statements apart). THE CARD IS WHAT COUNTS. Prove the row's statement (the work); the ties are given (YtjdebgbiockafaaGreatDoorTie.lean); close each card by the builder's one call (the guide's Derived/Test/ToyasCard.lean, 'card_holds'). Laid BY PROGRAM, IN A SANDBOX (cutbox-door.mjs). By AI agents, Wed Nov 11 2026. No macro, syntax, notation, axiom, sorry.
-/
import Derived.Test.YtjdebgbiockafaaGreatDoorRows
import GoSem.ClaimSeven
namespace Go.Proofs.YtjdebgbiockafaaGreatDoor
namespace Rows

/-- THE TIED CARD OF 'bosunlaw12.PacketChecks'. -/
def packetChecksCard : Claim7 := { stood := { row := packetChecksRow, standIns := [], harness := (true, "21db783dc65a7d272b15cc635fdec103635c79933db17ada71c595b38f3339b4"), looks := false }, kinds := [], alts := [], laidByText := true, laidKinds := [.data, .data, .data, .data, .data, .data, .data, .data, .data, .data, .data, .data], laidTests := true, laidLooks := .later }
def PacketChecksCardSaid : Prop := Claim7.holds Tryz.pinned (.plain (OpenSpec.ofChange packetChecksSpec)) packetChecksCard

/-- THE SECOND FORM's CARD OF 'bosunlaw12.PacketChecks'. -/
def packetChecksUptoCard : Claim7 := { stood := { row := packetChecksUptoRow, standIns := [], harness := (true, "21db783dc65a7d272b15cc635fdec103635c79933db17ada71c595b38f3339b4"), looks := false }, kinds := [], alts := [], laidByText := true, laidKinds := [.data, .data, .data, .data, .data, .data, .data, .data, .data, .data, .data, .data], laidTests := true, laidLooks := .later }
def PacketChecksUptoCardSaid : Prop := Claim7.holds Tryz.pinned (.plain (OpenSpec.upto packetChecksSpec)) packetChecksUptoCard
end Rows
end Go.Proofs.YtjdebgbiockafaaGreatDoor
