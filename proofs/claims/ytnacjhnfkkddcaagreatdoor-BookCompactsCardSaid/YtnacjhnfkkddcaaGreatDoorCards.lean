/-
  DERIVED. GIVEN WITH THE SEED: THE CARDS: each row of YtnacjhnfkkddcaaGreatDoorRows.lean that lists a variable, with what it lists TIED to the program's text (the seventh form; the later family's looks); each row that meets fmt, with fmt's text TOLD by the authors' own Lean function (tested against real Go, not proved from fmt's source: count such statements apart). THE CARD IS WHAT COUNTS. Prove the row's statement (the work); the ties are given (YtnacjhnfkkddcaaGreatDoorTie.lean); close each card by the builder's one call (the guide's Derived/Test/ToyasCard.lean, 'card_holds'). Laid BY PROGRAM, IN A SANDBOX (cutbox-door.mjs). By AI agents, Wed Nov 11 2026. No macro, syntax, notation, axiom, sorry.
-/
import Derived.Test.YtnacjhnfkkddcaaGreatDoorRows
import GoSem.ClaimSeven
namespace Go.Proofs.YtnacjhnfkkddcaaGreatDoor
namespace Rows

/-- THE TIED CARD OF 'pacesetterlaw12.BookAll'. -/
def bookAllCard : Claim7 := { stood := { row := bookAllRow, standIns := [], harness := (true, "c5c1848f9e642c3994f925240c50aea25b5ca66c5be079995ae028e73a4b7396"), looks := true }, kinds := [], alts := [], laidByText := true, laidKinds := [.data, .data, .data, .data, .data, .sentinel, .sentinel], laidTests := true, laidLooks := .later }
def BookAllCardSaid : Prop := Claim7.holds Tryz.pinned (.plain (OpenSpec.ofChange bookAllSpec)) bookAllCard

/-- THE TIED CARD OF 'pacesetterlaw12.BookEpochs'. -/
def bookEpochsCard : Claim7 := { stood := { row := bookEpochsRow, standIns := [], harness := (true, "c5c1848f9e642c3994f925240c50aea25b5ca66c5be079995ae028e73a4b7396"), looks := true }, kinds := [], alts := [], laidByText := true, laidKinds := [.data, .data, .data, .data, .data], laidTests := true, laidLooks := .later }
def BookEpochsCardSaid : Prop := Claim7.holds Tryz.pinned (.plain (OpenSpec.ofChange bookEpochsSpec)) bookEpochsCard

/-- THE TIED CARD OF 'pacesetterlaw12.BookStable'. -/
def bookStableCard : Claim7 := { stood := { row := bookStableRow, standIns := [], harness := (true, "c5c1848f9e642c3994f925240c50aea25b5ca66c5be079995ae028e73a4b7396"), looks := true }, kinds := [], alts := [], laidByText := true, laidKinds := [.data, .data, .data, .data, .data], laidTests := true, laidLooks := .later }
def BookStableCardSaid : Prop := Claim7.holds Tryz.pinned (.plain (OpenSpec.ofChange bookStableSpec)) bookStableCard

/-- THE TIED CARD OF 'pacesetterlaw12.BookDigests'. -/
def bookDigestsCard : Claim7 := { stood := { row := bookDigestsRow, standIns := [], harness := (true, "c5c1848f9e642c3994f925240c50aea25b5ca66c5be079995ae028e73a4b7396"), looks := true }, kinds := [], alts := [], laidByText := true, laidKinds := [.data, .data, .data, .data, .data, .sentinel, .sentinel], laidTests := true, laidLooks := .later }
def BookDigestsCardSaid : Prop := Claim7.holds Tryz.pinned (.plain (OpenSpec.ofChange bookDigestsSpec)) bookDigestsCard

/-- THE TIED CARD OF 'pacesetterlaw12.BookCompacts'. -/
def bookCompactsCard : Claim7 := { stood := { row := bookCompactsRow, standIns := [], harness := (true, "c5c1848f9e642c3994f925240c50aea25b5ca66c5be079995ae028e73a4b7396"), looks := true }, kinds := [], alts := [], laidByText := true, laidKinds := [.data, .data, .data, .data, .data, .sentinel, .sentinel], laidTests := true, laidLooks := .later }
def BookCompactsCardSaid : Prop := Claim7.holds Tryz.pinned (.plain (OpenSpec.ofChange bookCompactsSpec)) bookCompactsCard

/-- THE TIED CARD OF 'pacesetterlaw12.BookHistory'. -/
def bookHistoryCard : Claim7 := { stood := { row := bookHistoryRow, standIns := [], harness := (true, "c5c1848f9e642c3994f925240c50aea25b5ca66c5be079995ae028e73a4b7396"), looks := true }, kinds := [], alts := [], laidByText := true, laidKinds := [.data, .data, .data, .data, .data], laidTests := true, laidLooks := .later }
def BookHistoryCardSaid : Prop := Claim7.holds Tryz.pinned (.plain (OpenSpec.ofChange bookHistorySpec)) bookHistoryCard

/-- THE TIED CARD OF 'pacesetterlaw12.BookNil'. -/
def bookNilCard : Claim7 := { stood := { row := bookNilRow, standIns := [], harness := (true, "c5c1848f9e642c3994f925240c50aea25b5ca66c5be079995ae028e73a4b7396"), looks := true }, kinds := [], alts := [], laidByText := true, laidKinds := [.data, .data, .data, .data, .data, .sentinel, .sentinel], laidTests := true, laidLooks := .later }
def BookNilCardSaid : Prop := Claim7.holds Tryz.pinned (.plain (OpenSpec.ofChange bookNilSpec)) bookNilCard

/-- THE TIED CARD OF 'pacesetterlaw12.BookUnits'. -/
def bookUnitsCard : Claim7 := { stood := { row := bookUnitsRow, standIns := [], harness := (true, "c5c1848f9e642c3994f925240c50aea25b5ca66c5be079995ae028e73a4b7396"), looks := true }, kinds := [], alts := [], laidByText := true, laidKinds := [.data, .data, .data, .data, .data], laidTests := true, laidLooks := .later }
def BookUnitsCardSaid : Prop := Claim7.holds Tryz.pinned (.plain (OpenSpec.ofChange bookUnitsSpec)) bookUnitsCard

/-- THE SECOND FORM's CARD OF 'pacesetterlaw12.BookAll'. -/
def bookAllUptoCard : Claim7 := { stood := { row := bookAllUptoRow, standIns := [], harness := (true, "c5c1848f9e642c3994f925240c50aea25b5ca66c5be079995ae028e73a4b7396"), looks := true }, kinds := [], alts := [], laidByText := true, laidKinds := [.data, .data, .data, .data, .data, .sentinel, .sentinel], laidTests := true, laidLooks := .later }
def BookAllUptoCardSaid : Prop := Claim7.holds Tryz.pinned (.plain (OpenSpec.upto bookAllSpec)) bookAllUptoCard

/-- THE SECOND FORM's CARD OF 'pacesetterlaw12.BookEpochs'. -/
def bookEpochsUptoCard : Claim7 := { stood := { row := bookEpochsUptoRow, standIns := [], harness := (true, "c5c1848f9e642c3994f925240c50aea25b5ca66c5be079995ae028e73a4b7396"), looks := true }, kinds := [], alts := [], laidByText := true, laidKinds := [.data, .data, .data, .data, .data], laidTests := true, laidLooks := .later }
def BookEpochsUptoCardSaid : Prop := Claim7.holds Tryz.pinned (.plain (OpenSpec.upto bookEpochsSpec)) bookEpochsUptoCard

/-- THE SECOND FORM's CARD OF 'pacesetterlaw12.BookStable'. -/
def bookStableUptoCard : Claim7 := { stood := { row := bookStableUptoRow, standIns := [], harness := (true, "c5c1848f9e642c3994f925240c50aea25b5ca66c5be079995ae028e73a4b7396"), looks := true }, kinds := [], alts := [], laidByText := true, laidKinds := [.data, .data, .data, .data, .data], laidTests := true, laidLooks := .later }
def BookStableUptoCardSaid : Prop := Claim7.holds Tryz.pinned (.plain (OpenSpec.upto bookStableSpec)) bookStableUptoCard

/-- THE SECOND FORM's CARD OF 'pacesetterlaw12.BookDigests'. -/
def bookDigestsUptoCard : Claim7 := { stood := { row := bookDigestsUptoRow, standIns := [], harness := (true, "c5c1848f9e642c3994f925240c50aea25b5ca66c5be079995ae028e73a4b7396"), looks := true }, kinds := [], alts := [], laidByText := true, laidKinds := [.data, .data, .data, .data, .data, .sentinel, .sentinel], laidTests := true, laidLooks := .later }
def BookDigestsUptoCardSaid : Prop := Claim7.holds Tryz.pinned (.plain (OpenSpec.upto bookDigestsSpec)) bookDigestsUptoCard

/-- THE SECOND FORM's CARD OF 'pacesetterlaw12.BookCompacts'. -/
def bookCompactsUptoCard : Claim7 := { stood := { row := bookCompactsUptoRow, standIns := [], harness := (true, "c5c1848f9e642c3994f925240c50aea25b5ca66c5be079995ae028e73a4b7396"), looks := true }, kinds := [], alts := [], laidByText := true, laidKinds := [.data, .data, .data, .data, .data, .sentinel, .sentinel], laidTests := true, laidLooks := .later }
def BookCompactsUptoCardSaid : Prop := Claim7.holds Tryz.pinned (.plain (OpenSpec.upto bookCompactsSpec)) bookCompactsUptoCard

/-- THE SECOND FORM's CARD OF 'pacesetterlaw12.BookHistory'. -/
def bookHistoryUptoCard : Claim7 := { stood := { row := bookHistoryUptoRow, standIns := [], harness := (true, "c5c1848f9e642c3994f925240c50aea25b5ca66c5be079995ae028e73a4b7396"), looks := true }, kinds := [], alts := [], laidByText := true, laidKinds := [.data, .data, .data, .data, .data], laidTests := true, laidLooks := .later }
def BookHistoryUptoCardSaid : Prop := Claim7.holds Tryz.pinned (.plain (OpenSpec.upto bookHistorySpec)) bookHistoryUptoCard

/-- THE SECOND FORM's CARD OF 'pacesetterlaw12.BookNil'. -/
def bookNilUptoCard : Claim7 := { stood := { row := bookNilUptoRow, standIns := [], harness := (true, "c5c1848f9e642c3994f925240c50aea25b5ca66c5be079995ae028e73a4b7396"), looks := true }, kinds := [], alts := [], laidByText := true, laidKinds := [.data, .data, .data, .data, .data, .sentinel, .sentinel], laidTests := true, laidLooks := .later }
def BookNilUptoCardSaid : Prop := Claim7.holds Tryz.pinned (.plain (OpenSpec.upto bookNilSpec)) bookNilUptoCard

/-- THE SECOND FORM's CARD OF 'pacesetterlaw12.BookUnits'. -/
def bookUnitsUptoCard : Claim7 := { stood := { row := bookUnitsUptoRow, standIns := [], harness := (true, "c5c1848f9e642c3994f925240c50aea25b5ca66c5be079995ae028e73a4b7396"), looks := true }, kinds := [], alts := [], laidByText := true, laidKinds := [.data, .data, .data, .data, .data], laidTests := true, laidLooks := .later }
def BookUnitsUptoCardSaid : Prop := Claim7.holds Tryz.pinned (.plain (OpenSpec.upto bookUnitsSpec)) bookUnitsUptoCard
end Rows
end Go.Proofs.YtnacjhnfkkddcaaGreatDoor
