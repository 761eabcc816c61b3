/-
  DERIVED. GIVEN WITH THE SEED: THE CARDS: each row of YtkcdaigaclpfjaaGreatDoorRows.lean that lists a variable, with what it lists TIED to the program's text (the seventh form; the later family's looks); each row that meets fmt, with fmt's text TOLD by the authors' own Lean function (tested against real Go, not proved from fmt's source: count such statements apart). THE CARD IS WHAT COUNTS. Prove the row's statement (the work); the ties are given (YtkcdaigaclpfjaaGreatDoorTie.lean); close each card by the builder's one call (the guide's Derived/Test/ToyasCard.lean, 'card_holds'). Laid BY PROGRAM, IN A SANDBOX (cutbox-door.mjs). By AI agents, Wed Nov 11 2026. No macro, syntax, notation, axiom, sorry.
-/
import Derived.Test.YtkcdaigaclpfjaaGreatDoorRows
import GoSem.ClaimSeven
namespace Go.Proofs.YtkcdaigaclpfjaaGreatDoor
namespace Rows

/-- THE TIED CARD OF 'pacesetterlaw13.StoreTorn'. -/
def storeTornCard : Claim7 := { stood := { row := storeTornRow, standIns := [], harness := (true, "370a745675f16bd5ca4d185eaf7d86ff4b3d92ac4b3d2f3184bd0a4586c1be2b"), looks := false }, kinds := [], alts := [], laidByText := true, laidKinds := [.data, .data, .data, .data, .data], laidTests := true, laidLooks := .later }
def StoreTornCardSaid : Prop := Claim7.holds Tryz.pinned (.plain (OpenSpec.ofChange storeTornSpec)) storeTornCard

/-- THE SECOND FORM's CARD OF 'pacesetterlaw13.StoreTorn'. -/
def storeTornUptoCard : Claim7 := { stood := { row := storeTornUptoRow, standIns := [], harness := (true, "370a745675f16bd5ca4d185eaf7d86ff4b3d92ac4b3d2f3184bd0a4586c1be2b"), looks := false }, kinds := [], alts := [], laidByText := true, laidKinds := [.data, .data, .data, .data, .data], laidTests := true, laidLooks := .later }
def StoreTornUptoCardSaid : Prop := Claim7.holds Tryz.pinned (.plain (OpenSpec.upto storeTornSpec)) storeTornUptoCard
end Rows
end Go.Proofs.YtkcdaigaclpfjaaGreatDoor
