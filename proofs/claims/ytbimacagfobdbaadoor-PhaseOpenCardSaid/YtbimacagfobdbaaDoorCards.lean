/-
  DERIVED. GIVEN WITH THE SEED: THE CARDS: each row of YtbimacagfobdbaaDoorRows.lean that lists a variable, with what it lists TIED to the program's text (the seventh form; the later family's looks); each row that meets fmt, with fmt's text TOLD by the authors' own Lean function (tested against real Go, not proved from fmt's source: count such statements apart). THE CARD IS WHAT COUNTS. Prove the row's statement (the work); the ties are given (YtbimacagfobdbaaDoorTie.lean); close each card by the builder's one call (the guide's Derived/Test/ToyasCard.lean, 'card_holds'). Laid BY PROGRAM, IN A SANDBOX (cutbox-door.mjs). By AI agents, Wed Nov 11 2026. No macro, syntax, notation, axiom, sorry.
-/
import Derived.Test.YtbimacagfobdbaaDoorRows
import GoSem.ClaimSeven
namespace Go.Proofs.YtbimacagfobdbaaDoor
namespace Rows

/-- THE TIED CARD OF 'pacesetterlaw11.PhaseNext'. -/
def phaseNextCard : Claim7 := { stood := { row := phaseNextRow, standIns := [], harness := (true, "0eef8b994f58c40aa2f787262845a82370df4cf3c6edf3ded82e20cf054bf5bb"), looks := false }, kinds := [], alts := [], laidByText := true, laidKinds := [.data, .data, .data], laidTests := true, laidLooks := .later }
def PhaseNextCardSaid : Prop := Claim7.holds Tryd.pinned (.plain (OpenSpec.ofChange phaseNextSpec)) phaseNextCard

/-- THE TIED CARD OF 'pacesetterlaw11.PhaseWalks'. -/
def phaseWalksCard : Claim7 := { stood := { row := phaseWalksRow, standIns := [], harness := (true, "0eef8b994f58c40aa2f787262845a82370df4cf3c6edf3ded82e20cf054bf5bb"), looks := false }, kinds := [], alts := [], laidByText := true, laidKinds := [.data, .data, .data], laidTests := true, laidLooks := .later }
def PhaseWalksCardSaid : Prop := Claim7.holds Tryd.pinned (.plain (OpenSpec.ofChange phaseWalksSpec)) phaseWalksCard

/-- THE TIED CARD OF 'pacesetterlaw11.PhaseNames'. -/
def phaseNamesCard : Claim7 := { stood := { row := phaseNamesRow, standIns := [], harness := (true, "0eef8b994f58c40aa2f787262845a82370df4cf3c6edf3ded82e20cf054bf5bb"), looks := false }, kinds := [], alts := [], laidByText := true, laidKinds := [.data, .data, .data], laidTests := true, laidLooks := .later }
def PhaseNamesCardSaid : Prop := Claim7.holds Tryd.pinned (.plain (OpenSpec.ofChange phaseNamesSpec)) phaseNamesCard

/-- THE TIED CARD OF 'pacesetterlaw11.PhaseWays'. -/
def phaseWaysCard : Claim7 := { stood := { row := phaseWaysRow, standIns := [], harness := (true, "0eef8b994f58c40aa2f787262845a82370df4cf3c6edf3ded82e20cf054bf5bb"), looks := false }, kinds := [], alts := [], laidByText := true, laidKinds := [.data, .data, .data], laidTests := true, laidLooks := .later }
def PhaseWaysCardSaid : Prop := Claim7.holds Tryd.pinned (.plain (OpenSpec.ofChange phaseWaysSpec)) phaseWaysCard

/-- THE TIED CARD OF 'pacesetterlaw11.PhaseOpen'. -/
def phaseOpenCard : Claim7 := { stood := { row := phaseOpenRow, standIns := [], harness := (true, "0eef8b994f58c40aa2f787262845a82370df4cf3c6edf3ded82e20cf054bf5bb"), looks := false }, kinds := [], alts := [], laidByText := true, laidKinds := [.data, .data, .data], laidTests := true, laidLooks := .later }
def PhaseOpenCardSaid : Prop := Claim7.holds Tryd.pinned (.plain (OpenSpec.ofChange phaseOpenSpec)) phaseOpenCard

/-- THE SECOND FORM's CARD OF 'pacesetterlaw11.PhaseNext'. -/
def phaseNextUptoCard : Claim7 := { stood := { row := phaseNextUptoRow, standIns := [], harness := (true, "0eef8b994f58c40aa2f787262845a82370df4cf3c6edf3ded82e20cf054bf5bb"), looks := false }, kinds := [], alts := [], laidByText := true, laidKinds := [.data, .data, .data], laidTests := true, laidLooks := .later }
def PhaseNextUptoCardSaid : Prop := Claim7.holds Tryd.pinned (.plain (OpenSpec.upto phaseNextSpec)) phaseNextUptoCard

/-- THE SECOND FORM's CARD OF 'pacesetterlaw11.PhaseWalks'. -/
def phaseWalksUptoCard : Claim7 := { stood := { row := phaseWalksUptoRow, standIns := [], harness := (true, "0eef8b994f58c40aa2f787262845a82370df4cf3c6edf3ded82e20cf054bf5bb"), looks := false }, kinds := [], alts := [], laidByText := true, laidKinds := [.data, .data, .data], laidTests := true, laidLooks := .later }
def PhaseWalksUptoCardSaid : Prop := Claim7.holds Tryd.pinned (.plain (OpenSpec.upto phaseWalksSpec)) phaseWalksUptoCard

/-- THE SECOND FORM's CARD OF 'pacesetterlaw11.PhaseNames'. -/
def phaseNamesUptoCard : Claim7 := { stood := { row := phaseNamesUptoRow, standIns := [], harness := (true, "0eef8b994f58c40aa2f787262845a82370df4cf3c6edf3ded82e20cf054bf5bb"), looks := false }, kinds := [], alts := [], laidByText := true, laidKinds := [.data, .data, .data], laidTests := true, laidLooks := .later }
def PhaseNamesUptoCardSaid : Prop := Claim7.holds Tryd.pinned (.plain (OpenSpec.upto phaseNamesSpec)) phaseNamesUptoCard

/-- THE SECOND FORM's CARD OF 'pacesetterlaw11.PhaseWays'. -/
def phaseWaysUptoCard : Claim7 := { stood := { row := phaseWaysUptoRow, standIns := [], harness := (true, "0eef8b994f58c40aa2f787262845a82370df4cf3c6edf3ded82e20cf054bf5bb"), looks := false }, kinds := [], alts := [], laidByText := true, laidKinds := [.data, .data, .data], laidTests := true, laidLooks := .later }
def PhaseWaysUptoCardSaid : Prop := Claim7.holds Tryd.pinned (.plain (OpenSpec.upto phaseWaysSpec)) phaseWaysUptoCard

/-- THE SECOND FORM's CARD OF 'pacesetterlaw11.PhaseOpen'. -/
def phaseOpenUptoCard : Claim7 := { stood := { row := phaseOpenUptoRow, standIns := [], harness := (true, "0eef8b994f58c40aa2f787262845a82370df4cf3c6edf3ded82e20cf054bf5bb"), looks := false }, kinds := [], alts := [], laidByText := true, laidKinds := [.data, .data, .data], laidTests := true, laidLooks := .later }
def PhaseOpenUptoCardSaid : Prop := Claim7.holds Tryd.pinned (.plain (OpenSpec.upto phaseOpenSpec)) phaseOpenUptoCard
end Rows
end Go.Proofs.YtbimacagfobdbaaDoor
