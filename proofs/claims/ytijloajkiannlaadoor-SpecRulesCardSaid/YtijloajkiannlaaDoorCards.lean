/-
  DERIVED. GIVEN WITH THE SEED: THE CARDS: each row of YtijloajkiannlaaDoorRows.lean that lists a variable, with what it lists TIED to the program's text (the seventh form; the later family's looks); each row that meets fmt, with fmt's text TOLD by the authors' own Lean function (tested against real Go, not proved from fmt's source: count such statements apart). THE CARD IS WHAT COUNTS. Prove the row's statement (the work); the ties are given (YtijloajkiannlaaDoorTie.lean); close each card by the builder's one call (the guide's Derived/Test/ToyasCard.lean, 'card_holds'). Laid BY PROGRAM, IN A SANDBOX (cutbox-door.mjs). By AI agents, Wed Nov 11 2026. No macro, syntax, notation, axiom, sorry.
-/
import Derived.Test.YtijloajkiannlaaDoorRows
import GoSem.ClaimSeven
namespace Go.Proofs.YtijloajkiannlaaDoor
namespace Rows

/-- THE TIED CARD OF 'pacesetterlaw07.SpecReads'. -/
def specReadsCard : Claim7 := { stood := { row := specReadsRow, standIns := [], harness := (true, "7146b2b058228ab35ba279cc0b4c9cf035c597a4d3e18cb753ec2074f00f6dc5"), looks := true }, kinds := [], alts := [], laidByText := true, laidKinds := [.data, .data, .data, .data, .sentinel, .sentinel, .pinned], laidTests := true, laidLooks := .later }
def SpecReadsCardSaid : Prop := Claim7.holds Tryd.pinned (.plain (OpenSpec.ofChange specReadsSpec)) specReadsCard

/-- THE TIED CARD OF 'pacesetterlaw07.SpecBack'. -/
def specBackCard : Claim7 := { stood := { row := specBackRow, standIns := [], harness := (true, "7146b2b058228ab35ba279cc0b4c9cf035c597a4d3e18cb753ec2074f00f6dc5"), looks := true }, kinds := [], alts := [], laidByText := true, laidKinds := [.data, .data, .data, .data, .sentinel, .sentinel, .pinned], laidTests := true, laidLooks := .later }
def SpecBackCardSaid : Prop := Claim7.holds Tryd.pinned (.plain (OpenSpec.ofChange specBackSpec)) specBackCard

/-- THE TIED CARD OF 'pacesetterlaw07.SpecMakes'. -/
def specMakesCard : Claim7 := { stood := { row := specMakesRow, standIns := [], harness := (true, "7146b2b058228ab35ba279cc0b4c9cf035c597a4d3e18cb753ec2074f00f6dc5"), looks := true }, kinds := [], alts := [], laidByText := true, laidKinds := [.data, .data, .data, .data, .sentinel, .sentinel, .pinned], laidTests := true, laidLooks := .later }
def SpecMakesCardSaid : Prop := Claim7.holds Tryd.pinned (.plain (OpenSpec.ofChange specMakesSpec)) specMakesCard

/-- THE TIED CARD OF 'pacesetterlaw07.SpecRules'. -/
def specRulesCard : Claim7 := { stood := { row := specRulesRow, standIns := [], harness := (true, "7146b2b058228ab35ba279cc0b4c9cf035c597a4d3e18cb753ec2074f00f6dc5"), looks := true }, kinds := [], alts := [], laidByText := true, laidKinds := [.data, .data, .data, .data, .sentinel, .sentinel, .pinned], laidTests := true, laidLooks := .later }
def SpecRulesCardSaid : Prop := Claim7.holds Tryd.pinned (.plain (OpenSpec.ofChange specRulesSpec)) specRulesCard

/-- THE SECOND FORM's CARD OF 'pacesetterlaw07.SpecReads'. -/
def specReadsUptoCard : Claim7 := { stood := { row := specReadsUptoRow, standIns := [], harness := (true, "7146b2b058228ab35ba279cc0b4c9cf035c597a4d3e18cb753ec2074f00f6dc5"), looks := true }, kinds := [], alts := [], laidByText := true, laidKinds := [.data, .data, .data, .data, .sentinel, .sentinel, .pinned], laidTests := true, laidLooks := .later }
def SpecReadsUptoCardSaid : Prop := Claim7.holds Tryd.pinned (.plain (OpenSpec.upto specReadsSpec)) specReadsUptoCard

/-- THE SECOND FORM's CARD OF 'pacesetterlaw07.SpecBack'. -/
def specBackUptoCard : Claim7 := { stood := { row := specBackUptoRow, standIns := [], harness := (true, "7146b2b058228ab35ba279cc0b4c9cf035c597a4d3e18cb753ec2074f00f6dc5"), looks := true }, kinds := [], alts := [], laidByText := true, laidKinds := [.data, .data, .data, .data, .sentinel, .sentinel, .pinned], laidTests := true, laidLooks := .later }
def SpecBackUptoCardSaid : Prop := Claim7.holds Tryd.pinned (.plain (OpenSpec.upto specBackSpec)) specBackUptoCard

/-- THE SECOND FORM's CARD OF 'pacesetterlaw07.SpecMakes'. -/
def specMakesUptoCard : Claim7 := { stood := { row := specMakesUptoRow, standIns := [], harness := (true, "7146b2b058228ab35ba279cc0b4c9cf035c597a4d3e18cb753ec2074f00f6dc5"), looks := true }, kinds := [], alts := [], laidByText := true, laidKinds := [.data, .data, .data, .data, .sentinel, .sentinel, .pinned], laidTests := true, laidLooks := .later }
def SpecMakesUptoCardSaid : Prop := Claim7.holds Tryd.pinned (.plain (OpenSpec.upto specMakesSpec)) specMakesUptoCard

/-- THE SECOND FORM's CARD OF 'pacesetterlaw07.SpecRules'. -/
def specRulesUptoCard : Claim7 := { stood := { row := specRulesUptoRow, standIns := [], harness := (true, "7146b2b058228ab35ba279cc0b4c9cf035c597a4d3e18cb753ec2074f00f6dc5"), looks := true }, kinds := [], alts := [], laidByText := true, laidKinds := [.data, .data, .data, .data, .sentinel, .sentinel, .pinned], laidTests := true, laidLooks := .later }
def SpecRulesUptoCardSaid : Prop := Claim7.holds Tryd.pinned (.plain (OpenSpec.upto specRulesSpec)) specRulesUptoCard
end Rows
end Go.Proofs.YtijloajkiannlaaDoor
