/-
  DERIVED. GIVEN WITH THE SEED: THE CARDS: each row of YtgmpmlneoiagdaaGreatDoorRows.lean that lists a variable, with what it lists TIED to the program's text (the seventh form; the later family's looks); each row that meets fmt, with fmt's text TOLD by the authors' own Lean function (tested against real Go, not proved from fmt's source: count such statements apart). THE CARD IS WHAT COUNTS. Prove the row's statement (the work); the ties are given (YtgmpmlneoiagdaaGreatDoorTie.lean); close each card by the builder's one call (the guide's Derived/Test/ToyasCard.lean, 'card_holds'). Laid BY PROGRAM, IN A SANDBOX (cutbox-door.mjs). By AI agents, Wed Nov 11 2026. No macro, syntax, notation, axiom, sorry.
-/
import Derived.Test.YtgmpmlneoiagdaaGreatDoorRows
import GoSem.ClaimSeven
namespace Go.Proofs.YtgmpmlneoiagdaaGreatDoor
namespace Rows

/-- THE TIED CARD OF 'bosunlaw21.DeviceIdle'. -/
def deviceIdleCard : Claim7 := { stood := { row := deviceIdleRow, standIns := [], harness := (true, "90d495456ee8c488506cbc59feecb786700ca72cdf69f2dae16349bade59581d"), looks := false }, kinds := [], alts := [], laidByText := true, laidKinds := [.data, .data, .data, .data, .data, .data, .data, .data, .data, .data, .data, .data, .data, .data], laidTests := true, laidLooks := .later }
def DeviceIdleCardSaid : Prop := Claim7.holds Tryz.pinned (.plain (OpenSpec.ofChange deviceIdleSpec)) deviceIdleCard

/-- THE TIED CARD OF 'bosunlaw21.DeviceArgs'. -/
def deviceArgsCard : Claim7 := { stood := { row := deviceArgsRow, standIns := [], harness := (true, "90d495456ee8c488506cbc59feecb786700ca72cdf69f2dae16349bade59581d"), looks := false }, kinds := [], alts := [], laidByText := true, laidKinds := [.data, .data, .data, .data, .data, .data, .data, .data, .data, .data, .data, .data, .data, .data], laidTests := true, laidLooks := .later }
def DeviceArgsCardSaid : Prop := Claim7.holds Tryz.pinned (.plain (OpenSpec.ofChange deviceArgsSpec)) deviceArgsCard

/-- THE SECOND FORM's CARD OF 'bosunlaw21.DeviceIdle'. -/
def deviceIdleUptoCard : Claim7 := { stood := { row := deviceIdleUptoRow, standIns := [], harness := (true, "90d495456ee8c488506cbc59feecb786700ca72cdf69f2dae16349bade59581d"), looks := false }, kinds := [], alts := [], laidByText := true, laidKinds := [.data, .data, .data, .data, .data, .data, .data, .data, .data, .data, .data, .data, .data, .data], laidTests := true, laidLooks := .later }
def DeviceIdleUptoCardSaid : Prop := Claim7.holds Tryz.pinned (.plain (OpenSpec.upto deviceIdleSpec)) deviceIdleUptoCard

/-- THE SECOND FORM's CARD OF 'bosunlaw21.DeviceArgs'. -/
def deviceArgsUptoCard : Claim7 := { stood := { row := deviceArgsUptoRow, standIns := [], harness := (true, "90d495456ee8c488506cbc59feecb786700ca72cdf69f2dae16349bade59581d"), looks := false }, kinds := [], alts := [], laidByText := true, laidKinds := [.data, .data, .data, .data, .data, .data, .data, .data, .data, .data, .data, .data, .data, .data], laidTests := true, laidLooks := .later }
def DeviceArgsUptoCardSaid : Prop := Claim7.holds Tryz.pinned (.plain (OpenSpec.upto deviceArgsSpec)) deviceArgsUptoCard
end Rows
end Go.Proofs.YtgmpmlneoiagdaaGreatDoor
