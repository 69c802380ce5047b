/-
  DERIVED. GIVEN WITH THE SEED: THE CARDS: each row of YtgkofpfjbjnhfaaDoorRows.lean that lists a variable, with what it lists TIED to the program's text (the seventh form; the later family's looks); each row that meets fmt, with fmt's text TOLD by the authors' own Lean function (tested against real Go, not proved from fmt's source: count such statements apart). THE CARD IS WHAT COUNTS. Prove the row's statement (the work); the ties are given (YtgkofpfjbjnhfaaDoorTie.lean); close each card by the builder's one call (the guide's Derived/Test/ToyasCard.lean, 'card_holds'). Laid BY PROGRAM, IN A SANDBOX (cutbox-door.mjs). By AI agents, Wed Nov 11 2026. No macro, syntax, notation, axiom, sorry.
-/
import Derived.Test.YtgkofpfjbjnhfaaDoorRows
import GoSem.ClaimSeven
namespace Go.Proofs.YtgkofpfjbjnhfaaDoor
namespace Rows

/-- THE TIED CARD OF 'bosunlaw05.FieldSums'. -/
def fieldSumsCard : Claim7 := { stood := { row := fieldSumsRow, standIns := [], harness := (true, "cc3bb1a6beaa31c8cd1ce449b6857fa7a20bf4815ad9aa50eca7d53ae0141fad"), looks := false }, kinds := [], alts := [], laidByText := true, laidKinds := [.data, .data, .data], laidTests := true, laidLooks := .later }
def FieldSumsCardSaid : Prop := Claim7.holds Tryd.pinned (.plain (OpenSpec.ofChange fieldSumsSpec)) fieldSumsCard

/-- THE TIED CARD OF 'bosunlaw05.FieldPowers'. -/
def fieldPowersCard : Claim7 := { stood := { row := fieldPowersRow, standIns := [], harness := (true, "cc3bb1a6beaa31c8cd1ce449b6857fa7a20bf4815ad9aa50eca7d53ae0141fad"), looks := false }, kinds := [], alts := [], laidByText := true, laidKinds := [.data, .data, .data, .data], laidTests := true, laidLooks := .later }
def FieldPowersCardSaid : Prop := Claim7.holds Tryd.pinned (.plain (OpenSpec.ofChange fieldPowersSpec)) fieldPowersCard

/-- THE TIED CARD OF 'bosunlaw05.FieldRoots'. -/
def fieldRootsCard : Claim7 := { stood := { row := fieldRootsRow, standIns := [], harness := (true, "cc3bb1a6beaa31c8cd1ce449b6857fa7a20bf4815ad9aa50eca7d53ae0141fad"), looks := false }, kinds := [], alts := [], laidByText := true, laidKinds := [.data, .data, .data], laidTests := true, laidLooks := .later }
def FieldRootsCardSaid : Prop := Claim7.holds Tryd.pinned (.plain (OpenSpec.ofChange fieldRootsSpec)) fieldRootsCard

/-- THE TIED CARD OF 'bosunlaw05.FieldBytes'. -/
def fieldBytesCard : Claim7 := { stood := { row := fieldBytesRow, standIns := [], harness := (true, "cc3bb1a6beaa31c8cd1ce449b6857fa7a20bf4815ad9aa50eca7d53ae0141fad"), looks := false }, kinds := [], alts := [], laidByText := true, laidKinds := [.data, .data, .data], laidTests := true, laidLooks := .later }
def FieldBytesCardSaid : Prop := Claim7.holds Tryd.pinned (.plain (OpenSpec.ofChange fieldBytesSpec)) fieldBytesCard

/-- THE TIED CARD OF 'bosunlaw05.FieldRules'. -/
def fieldRulesCard : Claim7 := { stood := { row := fieldRulesRow, standIns := [], harness := (true, "cc3bb1a6beaa31c8cd1ce449b6857fa7a20bf4815ad9aa50eca7d53ae0141fad"), looks := false }, kinds := [], alts := [], laidByText := true, laidKinds := [.data, .data, .data, .data], laidTests := true, laidLooks := .later }
def FieldRulesCardSaid : Prop := Claim7.holds Tryd.pinned (.plain (OpenSpec.ofChange fieldRulesSpec)) fieldRulesCard

/-- THE TIED CARD OF 'bosunlaw06.ScalarSums'. -/
def scalarSumsCard : Claim7 := { stood := { row := scalarSumsRow, standIns := [], harness := (true, "cc3bb1a6beaa31c8cd1ce449b6857fa7a20bf4815ad9aa50eca7d53ae0141fad"), looks := false }, kinds := [], alts := [], laidByText := true, laidKinds := [.data], laidTests := true, laidLooks := .later }
def ScalarSumsCardSaid : Prop := Claim7.holds Tryd.pinned (.plain (OpenSpec.ofChange scalarSumsSpec)) scalarSumsCard

/-- THE TIED CARD OF 'bosunlaw06.ScalarBytes'. -/
def scalarBytesCard : Claim7 := { stood := { row := scalarBytesRow, standIns := [], harness := (true, "cc3bb1a6beaa31c8cd1ce449b6857fa7a20bf4815ad9aa50eca7d53ae0141fad"), looks := false }, kinds := [], alts := [], laidByText := true, laidKinds := [.data], laidTests := true, laidLooks := .later }
def ScalarBytesCardSaid : Prop := Claim7.holds Tryd.pinned (.plain (OpenSpec.ofChange scalarBytesSpec)) scalarBytesCard

/-- THE TIED CARD OF 'bosunlaw06.ScalarRules'. -/
def scalarRulesCard : Claim7 := { stood := { row := scalarRulesRow, standIns := [], harness := (true, "cc3bb1a6beaa31c8cd1ce449b6857fa7a20bf4815ad9aa50eca7d53ae0141fad"), looks := false }, kinds := [], alts := [], laidByText := true, laidKinds := [.data], laidTests := true, laidLooks := .later }
def ScalarRulesCardSaid : Prop := Claim7.holds Tryd.pinned (.plain (OpenSpec.ofChange scalarRulesSpec)) scalarRulesCard

/-- THE TIED CARD OF 'bosunlaw12.PacketMatches'. -/
def packetMatchesCard : Claim7 := { stood := { row := packetMatchesRow, standIns := [], harness := (true, "cc3bb1a6beaa31c8cd1ce449b6857fa7a20bf4815ad9aa50eca7d53ae0141fad"), looks := false }, kinds := [], alts := [], laidByText := true, laidKinds := [.data, .data, .data], laidTests := true, laidLooks := .later }
def PacketMatchesCardSaid : Prop := Claim7.holds Tryd.pinned (.plain (OpenSpec.ofChange packetMatchesSpec)) packetMatchesCard

/-- THE SECOND FORM's CARD OF 'bosunlaw05.FieldSums'. -/
def fieldSumsUptoCard : Claim7 := { stood := { row := fieldSumsUptoRow, standIns := [], harness := (true, "cc3bb1a6beaa31c8cd1ce449b6857fa7a20bf4815ad9aa50eca7d53ae0141fad"), looks := false }, kinds := [], alts := [], laidByText := true, laidKinds := [.data, .data, .data], laidTests := true, laidLooks := .later }
def FieldSumsUptoCardSaid : Prop := Claim7.holds Tryd.pinned (.plain (OpenSpec.upto fieldSumsSpec)) fieldSumsUptoCard

/-- THE SECOND FORM's CARD OF 'bosunlaw05.FieldPowers'. -/
def fieldPowersUptoCard : Claim7 := { stood := { row := fieldPowersUptoRow, standIns := [], harness := (true, "cc3bb1a6beaa31c8cd1ce449b6857fa7a20bf4815ad9aa50eca7d53ae0141fad"), looks := false }, kinds := [], alts := [], laidByText := true, laidKinds := [.data, .data, .data, .data], laidTests := true, laidLooks := .later }
def FieldPowersUptoCardSaid : Prop := Claim7.holds Tryd.pinned (.plain (OpenSpec.upto fieldPowersSpec)) fieldPowersUptoCard

/-- THE SECOND FORM's CARD OF 'bosunlaw05.FieldRoots'. -/
def fieldRootsUptoCard : Claim7 := { stood := { row := fieldRootsUptoRow, standIns := [], harness := (true, "cc3bb1a6beaa31c8cd1ce449b6857fa7a20bf4815ad9aa50eca7d53ae0141fad"), looks := false }, kinds := [], alts := [], laidByText := true, laidKinds := [.data, .data, .data], laidTests := true, laidLooks := .later }
def FieldRootsUptoCardSaid : Prop := Claim7.holds Tryd.pinned (.plain (OpenSpec.upto fieldRootsSpec)) fieldRootsUptoCard

/-- THE SECOND FORM's CARD OF 'bosunlaw05.FieldBytes'. -/
def fieldBytesUptoCard : Claim7 := { stood := { row := fieldBytesUptoRow, standIns := [], harness := (true, "cc3bb1a6beaa31c8cd1ce449b6857fa7a20bf4815ad9aa50eca7d53ae0141fad"), looks := false }, kinds := [], alts := [], laidByText := true, laidKinds := [.data, .data, .data], laidTests := true, laidLooks := .later }
def FieldBytesUptoCardSaid : Prop := Claim7.holds Tryd.pinned (.plain (OpenSpec.upto fieldBytesSpec)) fieldBytesUptoCard

/-- THE SECOND FORM's CARD OF 'bosunlaw05.FieldRules'. -/
def fieldRulesUptoCard : Claim7 := { stood := { row := fieldRulesUptoRow, standIns := [], harness := (true, "cc3bb1a6beaa31c8cd1ce449b6857fa7a20bf4815ad9aa50eca7d53ae0141fad"), looks := false }, kinds := [], alts := [], laidByText := true, laidKinds := [.data, .data, .data, .data], laidTests := true, laidLooks := .later }
def FieldRulesUptoCardSaid : Prop := Claim7.holds Tryd.pinned (.plain (OpenSpec.upto fieldRulesSpec)) fieldRulesUptoCard

/-- THE SECOND FORM's CARD OF 'bosunlaw06.ScalarSums'. -/
def scalarSumsUptoCard : Claim7 := { stood := { row := scalarSumsUptoRow, standIns := [], harness := (true, "cc3bb1a6beaa31c8cd1ce449b6857fa7a20bf4815ad9aa50eca7d53ae0141fad"), looks := false }, kinds := [], alts := [], laidByText := true, laidKinds := [.data], laidTests := true, laidLooks := .later }
def ScalarSumsUptoCardSaid : Prop := Claim7.holds Tryd.pinned (.plain (OpenSpec.upto scalarSumsSpec)) scalarSumsUptoCard

/-- THE SECOND FORM's CARD OF 'bosunlaw06.ScalarBytes'. -/
def scalarBytesUptoCard : Claim7 := { stood := { row := scalarBytesUptoRow, standIns := [], harness := (true, "cc3bb1a6beaa31c8cd1ce449b6857fa7a20bf4815ad9aa50eca7d53ae0141fad"), looks := false }, kinds := [], alts := [], laidByText := true, laidKinds := [.data], laidTests := true, laidLooks := .later }
def ScalarBytesUptoCardSaid : Prop := Claim7.holds Tryd.pinned (.plain (OpenSpec.upto scalarBytesSpec)) scalarBytesUptoCard

/-- THE SECOND FORM's CARD OF 'bosunlaw06.ScalarRules'. -/
def scalarRulesUptoCard : Claim7 := { stood := { row := scalarRulesUptoRow, standIns := [], harness := (true, "cc3bb1a6beaa31c8cd1ce449b6857fa7a20bf4815ad9aa50eca7d53ae0141fad"), looks := false }, kinds := [], alts := [], laidByText := true, laidKinds := [.data], laidTests := true, laidLooks := .later }
def ScalarRulesUptoCardSaid : Prop := Claim7.holds Tryd.pinned (.plain (OpenSpec.upto scalarRulesSpec)) scalarRulesUptoCard

/-- THE SECOND FORM's CARD OF 'bosunlaw12.PacketMatches'. -/
def packetMatchesUptoCard : Claim7 := { stood := { row := packetMatchesUptoRow, standIns := [], harness := (true, "cc3bb1a6beaa31c8cd1ce449b6857fa7a20bf4815ad9aa50eca7d53ae0141fad"), looks := false }, kinds := [], alts := [], laidByText := true, laidKinds := [.data, .data, .data], laidTests := true, laidLooks := .later }
def PacketMatchesUptoCardSaid : Prop := Claim7.holds Tryd.pinned (.plain (OpenSpec.upto packetMatchesSpec)) packetMatchesUptoCard
end Rows
end Go.Proofs.YtgkofpfjbjnhfaaDoor
