/-
  DERIVED. GIVEN WITH THE SEED: THE CARDS: each row of YtbplbdnofobbiaaDoorRows.lean that lists a variable, with what it lists TIED to the program's text (the seventh form; the later family's looks); each row that meets fmt, with fmt's text TOLD by the authors' own Lean function (tested against real Go, not proved from fmt's source: count such statements apart). THE CARD IS WHAT COUNTS. Prove the row's statement (the work); the ties are given (YtbplbdnofobbiaaDoorTie.lean); close each card by the builder's one call (the guide's Derived/Test/ToyasCard.lean, 'card_holds'). Laid BY PROGRAM, IN A SANDBOX (cutbox-door.mjs). By AI agents, Wed Nov 11 2026. No macro, syntax, notation, axiom, sorry.
-/
import Derived.Test.YtbplbdnofobbiaaDoorRows
import GoSem.ClaimSeven
namespace Go.Proofs.YtbplbdnofobbiaaDoor
namespace Rows

/-- THE TIED CARD OF 'bosunlaw07.CurveSums'. -/
def curveSumsCard : Claim7 := { stood := { row := curveSumsRow, standIns := [], harness := (true, "91bc4bfd38fdba1fa958a8e6b075d180ca3202d826d969f072a2702c22c49733"), looks := false }, kinds := [], alts := [], laidByText := true, laidKinds := [.data, .data, .data, .data, .data], laidTests := true, laidLooks := .later }
def CurveSumsCardSaid : Prop := Claim7.holds Tryd.pinned (.plain (OpenSpec.ofChange curveSumsSpec)) curveSumsCard

/-- THE TIED CARD OF 'bosunlaw07.CurveBytes'. -/
def curveBytesCard : Claim7 := { stood := { row := curveBytesRow, standIns := [], harness := (true, "91bc4bfd38fdba1fa958a8e6b075d180ca3202d826d969f072a2702c22c49733"), looks := false }, kinds := [], alts := [], laidByText := true, laidKinds := [.data, .data, .data, .data, .data, .data, .data, .data], laidTests := true, laidLooks := .later }
def CurveBytesCardSaid : Prop := Claim7.holds Tryd.pinned (.plain (OpenSpec.ofChange curveBytesSpec)) curveBytesCard

/-- THE TIED CARD OF 'bosunlaw07.CurveRules'. -/
def curveRulesCard : Claim7 := { stood := { row := curveRulesRow, standIns := [], harness := (true, "91bc4bfd38fdba1fa958a8e6b075d180ca3202d826d969f072a2702c22c49733"), looks := false }, kinds := [], alts := [], laidByText := true, laidKinds := [.data, .data, .data, .data, .data, .data], laidTests := true, laidLooks := .later }
def CurveRulesCardSaid : Prop := Claim7.holds Tryd.pinned (.plain (OpenSpec.ofChange curveRulesSpec)) curveRulesCard

/-- THE TIED CARD OF 'bosunlaw08.SignSigned'. -/
def signSignedCard : Claim7 := { stood := { row := signSignedRow, standIns := [], harness := (true, "91bc4bfd38fdba1fa958a8e6b075d180ca3202d826d969f072a2702c22c49733"), looks := false }, kinds := [], alts := [], laidByText := true, laidKinds := [.data, .data, .data, .data, .data, .data, .data, .data, .data, .data, .data], laidTests := true, laidLooks := .later }
def SignSignedCardSaid : Prop := Claim7.holds Tryd.pinned (.plain (OpenSpec.ofChange signSignedSpec)) signSignedCard

/-- THE TIED CARD OF 'bosunlaw08.SignAny'. -/
def signAnyCard : Claim7 := { stood := { row := signAnyRow, standIns := [], harness := (true, "91bc4bfd38fdba1fa958a8e6b075d180ca3202d826d969f072a2702c22c49733"), looks := false }, kinds := [], alts := [], laidByText := true, laidKinds := [.data, .data, .data, .data, .data, .data, .data, .data, .data, .data, .data], laidTests := true, laidLooks := .later }
def SignAnyCardSaid : Prop := Claim7.holds Tryd.pinned (.plain (OpenSpec.ofChange signAnySpec)) signAnyCard

/-- THE TIED CARD OF 'bosunlaw08.SignParts'. -/
def signPartsCard : Claim7 := { stood := { row := signPartsRow, standIns := [], harness := (true, "91bc4bfd38fdba1fa958a8e6b075d180ca3202d826d969f072a2702c22c49733"), looks := false }, kinds := [], alts := [], laidByText := true, laidKinds := [.data, .data, .data, .data, .data, .data, .data, .data, .data, .data, .data], laidTests := true, laidLooks := .later }
def SignPartsCardSaid : Prop := Claim7.holds Tryd.pinned (.plain (OpenSpec.ofChange signPartsSpec)) signPartsCard

/-- THE SECOND FORM's CARD OF 'bosunlaw07.CurveSums'. -/
def curveSumsUptoCard : Claim7 := { stood := { row := curveSumsUptoRow, standIns := [], harness := (true, "91bc4bfd38fdba1fa958a8e6b075d180ca3202d826d969f072a2702c22c49733"), looks := false }, kinds := [], alts := [], laidByText := true, laidKinds := [.data, .data, .data, .data, .data], laidTests := true, laidLooks := .later }
def CurveSumsUptoCardSaid : Prop := Claim7.holds Tryd.pinned (.plain (OpenSpec.upto curveSumsSpec)) curveSumsUptoCard

/-- THE SECOND FORM's CARD OF 'bosunlaw07.CurveBytes'. -/
def curveBytesUptoCard : Claim7 := { stood := { row := curveBytesUptoRow, standIns := [], harness := (true, "91bc4bfd38fdba1fa958a8e6b075d180ca3202d826d969f072a2702c22c49733"), looks := false }, kinds := [], alts := [], laidByText := true, laidKinds := [.data, .data, .data, .data, .data, .data, .data, .data], laidTests := true, laidLooks := .later }
def CurveBytesUptoCardSaid : Prop := Claim7.holds Tryd.pinned (.plain (OpenSpec.upto curveBytesSpec)) curveBytesUptoCard

/-- THE SECOND FORM's CARD OF 'bosunlaw07.CurveRules'. -/
def curveRulesUptoCard : Claim7 := { stood := { row := curveRulesUptoRow, standIns := [], harness := (true, "91bc4bfd38fdba1fa958a8e6b075d180ca3202d826d969f072a2702c22c49733"), looks := false }, kinds := [], alts := [], laidByText := true, laidKinds := [.data, .data, .data, .data, .data, .data], laidTests := true, laidLooks := .later }
def CurveRulesUptoCardSaid : Prop := Claim7.holds Tryd.pinned (.plain (OpenSpec.upto curveRulesSpec)) curveRulesUptoCard

/-- THE SECOND FORM's CARD OF 'bosunlaw08.SignSigned'. -/
def signSignedUptoCard : Claim7 := { stood := { row := signSignedUptoRow, standIns := [], harness := (true, "91bc4bfd38fdba1fa958a8e6b075d180ca3202d826d969f072a2702c22c49733"), looks := false }, kinds := [], alts := [], laidByText := true, laidKinds := [.data, .data, .data, .data, .data, .data, .data, .data, .data, .data, .data], laidTests := true, laidLooks := .later }
def SignSignedUptoCardSaid : Prop := Claim7.holds Tryd.pinned (.plain (OpenSpec.upto signSignedSpec)) signSignedUptoCard

/-- THE SECOND FORM's CARD OF 'bosunlaw08.SignAny'. -/
def signAnyUptoCard : Claim7 := { stood := { row := signAnyUptoRow, standIns := [], harness := (true, "91bc4bfd38fdba1fa958a8e6b075d180ca3202d826d969f072a2702c22c49733"), looks := false }, kinds := [], alts := [], laidByText := true, laidKinds := [.data, .data, .data, .data, .data, .data, .data, .data, .data, .data, .data], laidTests := true, laidLooks := .later }
def SignAnyUptoCardSaid : Prop := Claim7.holds Tryd.pinned (.plain (OpenSpec.upto signAnySpec)) signAnyUptoCard

/-- THE SECOND FORM's CARD OF 'bosunlaw08.SignParts'. -/
def signPartsUptoCard : Claim7 := { stood := { row := signPartsUptoRow, standIns := [], harness := (true, "91bc4bfd38fdba1fa958a8e6b075d180ca3202d826d969f072a2702c22c49733"), looks := false }, kinds := [], alts := [], laidByText := true, laidKinds := [.data, .data, .data, .data, .data, .data, .data, .data, .data, .data, .data], laidTests := true, laidLooks := .later }
def SignPartsUptoCardSaid : Prop := Claim7.holds Tryd.pinned (.plain (OpenSpec.upto signPartsSpec)) signPartsUptoCard
end Rows
end Go.Proofs.YtbplbdnofobbiaaDoor
