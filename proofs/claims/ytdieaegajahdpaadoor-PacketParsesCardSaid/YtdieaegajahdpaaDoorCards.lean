/-
  DERIVED. GIVEN WITH THE SEED: THE CARDS: each row of YtdieaegajahdpaaDoorRows.lean that lists a variable, with what it lists TIED to the program's text (the seventh form; the later family's looks); each row that meets fmt, with fmt's text TOLD by the authors' own Lean function (tested against real Go, not proved from fmt's source: count such statements apart). THE CARD IS WHAT COUNTS. Prove the row's statement (the work); the ties are given (YtdieaegajahdpaaDoorTie.lean); close each card by the builder's one call (the guide's Derived/Test/ToyasCard.lean, 'card_holds'). Laid BY PROGRAM, IN A SANDBOX (cutbox-door.mjs). By AI agents, Wed Nov 11 2026. No macro, syntax, notation, axiom, sorry.
-/
import Derived.Test.YtdieaegajahdpaaDoorRows
import GoSem.ClaimSeven
namespace Go.Proofs.YtdieaegajahdpaaDoor
namespace Rows

/-- THE TIED CARD OF 'bosunlaw03.ShortsumDigests'. -/
def shortsumDigestsCard : Claim7 := { stood := { row := shortsumDigestsRow, standIns := [], harness := (true, "29a8e613642cb1c03b10c23b38bf8fe64fb38d33128e5cbfabce2c4e4b247583"), looks := false }, kinds := [], alts := [], laidByText := true, laidKinds := [.data, .data], laidTests := true, laidLooks := .later }
def ShortsumDigestsCardSaid : Prop := Claim7.holds Tryd.pinned (.plain (OpenSpec.ofChange shortsumDigestsSpec)) shortsumDigestsCard

/-- THE TIED CARD OF 'bosunlaw03.ShortsumParts'. -/
def shortsumPartsCard : Claim7 := { stood := { row := shortsumPartsRow, standIns := [], harness := (true, "29a8e613642cb1c03b10c23b38bf8fe64fb38d33128e5cbfabce2c4e4b247583"), looks := false }, kinds := [], alts := [], laidByText := true, laidKinds := [.data, .data], laidTests := true, laidLooks := .later }
def ShortsumPartsCardSaid : Prop := Claim7.holds Tryd.pinned (.plain (OpenSpec.ofChange shortsumPartsSpec)) shortsumPartsCard

/-- THE TIED CARD OF 'bosunlaw04.LongsumDigests'. -/
def longsumDigestsCard : Claim7 := { stood := { row := longsumDigestsRow, standIns := [], harness := (true, "29a8e613642cb1c03b10c23b38bf8fe64fb38d33128e5cbfabce2c4e4b247583"), looks := false }, kinds := [], alts := [], laidByText := true, laidKinds := [.data, .data], laidTests := true, laidLooks := .later }
def LongsumDigestsCardSaid : Prop := Claim7.holds Tryd.pinned (.plain (OpenSpec.ofChange longsumDigestsSpec)) longsumDigestsCard

/-- THE TIED CARD OF 'bosunlaw04.LongsumParts'. -/
def longsumPartsCard : Claim7 := { stood := { row := longsumPartsRow, standIns := [], harness := (true, "29a8e613642cb1c03b10c23b38bf8fe64fb38d33128e5cbfabce2c4e4b247583"), looks := false }, kinds := [], alts := [], laidByText := true, laidKinds := [.data, .data], laidTests := true, laidLooks := .later }
def LongsumPartsCardSaid : Prop := Claim7.holds Tryd.pinned (.plain (OpenSpec.ofChange longsumPartsSpec)) longsumPartsCard

/-- THE TIED CARD OF 'bosunlaw12.PacketBytes'. -/
def packetBytesCard : Claim7 := { stood := { row := packetBytesRow, standIns := [], harness := (true, "29a8e613642cb1c03b10c23b38bf8fe64fb38d33128e5cbfabce2c4e4b247583"), looks := false }, kinds := [], alts := [], laidByText := true, laidKinds := [.data], laidTests := true, laidLooks := .later }
def PacketBytesCardSaid : Prop := Claim7.holds Tryd.pinned (.plain (OpenSpec.ofChange packetBytesSpec)) packetBytesCard

/-- THE TIED CARD OF 'bosunlaw12.PacketParses'. -/
def packetParsesCard : Claim7 := { stood := { row := packetParsesRow, standIns := [], harness := (true, "29a8e613642cb1c03b10c23b38bf8fe64fb38d33128e5cbfabce2c4e4b247583"), looks := false }, kinds := [], alts := [], laidByText := true, laidKinds := [.data], laidTests := true, laidLooks := .later }
def PacketParsesCardSaid : Prop := Claim7.holds Tryd.pinned (.plain (OpenSpec.ofChange packetParsesSpec)) packetParsesCard

/-- THE TIED CARD OF 'bosunlaw15.BankNone'. -/
def bankNoneCard : Claim7 := { stood := { row := bankNoneRow, standIns := [], harness := (true, "29a8e613642cb1c03b10c23b38bf8fe64fb38d33128e5cbfabce2c4e4b247583"), looks := false }, kinds := [], alts := [], laidByText := true, laidKinds := [.data, .data], laidTests := true, laidLooks := .later }
def BankNoneCardSaid : Prop := Claim7.holds Tryd.pinned (.plain (OpenSpec.ofChange bankNoneSpec)) bankNoneCard

/-- THE SECOND FORM's CARD OF 'bosunlaw03.ShortsumDigests'. -/
def shortsumDigestsUptoCard : Claim7 := { stood := { row := shortsumDigestsUptoRow, standIns := [], harness := (true, "29a8e613642cb1c03b10c23b38bf8fe64fb38d33128e5cbfabce2c4e4b247583"), looks := false }, kinds := [], alts := [], laidByText := true, laidKinds := [.data, .data], laidTests := true, laidLooks := .later }
def ShortsumDigestsUptoCardSaid : Prop := Claim7.holds Tryd.pinned (.plain (OpenSpec.upto shortsumDigestsSpec)) shortsumDigestsUptoCard

/-- THE SECOND FORM's CARD OF 'bosunlaw03.ShortsumParts'. -/
def shortsumPartsUptoCard : Claim7 := { stood := { row := shortsumPartsUptoRow, standIns := [], harness := (true, "29a8e613642cb1c03b10c23b38bf8fe64fb38d33128e5cbfabce2c4e4b247583"), looks := false }, kinds := [], alts := [], laidByText := true, laidKinds := [.data, .data], laidTests := true, laidLooks := .later }
def ShortsumPartsUptoCardSaid : Prop := Claim7.holds Tryd.pinned (.plain (OpenSpec.upto shortsumPartsSpec)) shortsumPartsUptoCard

/-- THE SECOND FORM's CARD OF 'bosunlaw04.LongsumDigests'. -/
def longsumDigestsUptoCard : Claim7 := { stood := { row := longsumDigestsUptoRow, standIns := [], harness := (true, "29a8e613642cb1c03b10c23b38bf8fe64fb38d33128e5cbfabce2c4e4b247583"), looks := false }, kinds := [], alts := [], laidByText := true, laidKinds := [.data, .data], laidTests := true, laidLooks := .later }
def LongsumDigestsUptoCardSaid : Prop := Claim7.holds Tryd.pinned (.plain (OpenSpec.upto longsumDigestsSpec)) longsumDigestsUptoCard

/-- THE SECOND FORM's CARD OF 'bosunlaw04.LongsumParts'. -/
def longsumPartsUptoCard : Claim7 := { stood := { row := longsumPartsUptoRow, standIns := [], harness := (true, "29a8e613642cb1c03b10c23b38bf8fe64fb38d33128e5cbfabce2c4e4b247583"), looks := false }, kinds := [], alts := [], laidByText := true, laidKinds := [.data, .data], laidTests := true, laidLooks := .later }
def LongsumPartsUptoCardSaid : Prop := Claim7.holds Tryd.pinned (.plain (OpenSpec.upto longsumPartsSpec)) longsumPartsUptoCard

/-- THE SECOND FORM's CARD OF 'bosunlaw12.PacketBytes'. -/
def packetBytesUptoCard : Claim7 := { stood := { row := packetBytesUptoRow, standIns := [], harness := (true, "29a8e613642cb1c03b10c23b38bf8fe64fb38d33128e5cbfabce2c4e4b247583"), looks := false }, kinds := [], alts := [], laidByText := true, laidKinds := [.data], laidTests := true, laidLooks := .later }
def PacketBytesUptoCardSaid : Prop := Claim7.holds Tryd.pinned (.plain (OpenSpec.upto packetBytesSpec)) packetBytesUptoCard

/-- THE SECOND FORM's CARD OF 'bosunlaw12.PacketParses'. -/
def packetParsesUptoCard : Claim7 := { stood := { row := packetParsesUptoRow, standIns := [], harness := (true, "29a8e613642cb1c03b10c23b38bf8fe64fb38d33128e5cbfabce2c4e4b247583"), looks := false }, kinds := [], alts := [], laidByText := true, laidKinds := [.data], laidTests := true, laidLooks := .later }
def PacketParsesUptoCardSaid : Prop := Claim7.holds Tryd.pinned (.plain (OpenSpec.upto packetParsesSpec)) packetParsesUptoCard

/-- THE SECOND FORM's CARD OF 'bosunlaw15.BankNone'. -/
def bankNoneUptoCard : Claim7 := { stood := { row := bankNoneUptoRow, standIns := [], harness := (true, "29a8e613642cb1c03b10c23b38bf8fe64fb38d33128e5cbfabce2c4e4b247583"), looks := false }, kinds := [], alts := [], laidByText := true, laidKinds := [.data, .data], laidTests := true, laidLooks := .later }
def BankNoneUptoCardSaid : Prop := Claim7.holds Tryd.pinned (.plain (OpenSpec.upto bankNoneSpec)) bankNoneUptoCard
end Rows
end Go.Proofs.YtdieaegajahdpaaDoor
