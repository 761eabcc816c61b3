/-
  NARROWER THAN 'FOR EVERY INPUT', by the rows' own cells (each row's printed sentence says how): PhaseNext: laid · PhaseWalks: laid · PhaseNames: laid · PhaseWays: laid · PhaseOpen: laid.
  DERIVED. THE GIVEN ROWS OF THIS SEAT. 5 by the template 'for every input the law returns true; each argument reads behind the call as it read before'; 0 by the template 'total and deterministic' (their statements: YtbimacagfobdbaaDoorTotals.lean).
  GIVEN WITH THE SEED: the statements are not yours to turn. If you find one false, say at which input.
  Laid BY PROGRAM, IN A SANDBOX (cutbox-rows.mjs): the forced cells as the released guide's own fill.sh prints them over the translation c788929d87a89142… (all of the seat's roots in one cut). By AI agents, Wed Nov 11 2026. No macro, syntax, notation, axiom, sorry.
-/
import Derived.Test.YtbimacagfobdbaaDoorChecked
import GoSem.Claim
import GoSem.ClaimJoined
import GoSem.ClaimMapViews
import Derived.JoinedTies
import Derived.KernelRfl
namespace Go.Proofs.YtbimacagfobdbaaDoor
/- THE CELL 'sum', in the pinned program and in every row, IS THE sha256 OF THE DUMP (.gsa) THAT YtbimacagfobdbaaDoorProg.lean LOADS. Nothing in Lean hashes anything: it is a label: what it is worth is what the hold of that sum in a sandbox is worth. -/
noncomputable def Tryd.pinned : Pinned := { name := "ytbimacagfobdbaadoor", sum := "c788929d87a89142c027809f4a064fdb473c3e0252a826d31409299ca7789c9b", checked := Tryd.checked }
namespace Rows
def none {H : Type} : Left H := { results := [], args := [] }

/- WHAT THE LISTED PACKAGE-LEVEL VARIABLES READ AS WHEN THE CALL BEGINS. Each datum BY PROGRAM (the guide's laid-datum.mjs) off the statement by which the dump's own 'gosem.cut.vars' lays the variable. In a bare row this is a premise. The card (YtbimacagfobdbaaDoorCards.lean) ties it to the program's text. -/
def laid_pacesetter_phase_leads {H : Type} : DataW H := .agg [.agg [.lit (.int .i64 1), .lit (.int .i64 0), .lit (.int .i64 0), .lit (.int .i64 0), .lit (.int .i64 0), .lit (.int .i64 0), .lit (.int .i64 0), .lit (.int .i64 0), .lit (.int .i64 0)], .agg [.lit (.int .i64 0), .lit (.int .i64 2), .lit (.int .i64 0), .lit (.int .i64 1), .lit (.int .i64 4), .lit (.int .i64 4), .lit (.int .i64 4), .lit (.int .i64 3), .lit (.int .i64 0)], .agg [.lit (.int .i64 0), .lit (.int .i64 0), .lit (.int .i64 1), .lit (.int .i64 0), .lit (.int .i64 0), .lit (.int .i64 0), .lit (.int .i64 4), .lit (.int .i64 0), .lit (.int .i64 0)], .agg [.lit (.int .i64 1), .lit (.int .i64 0), .lit (.int .i64 0), .lit (.int .i64 0), .lit (.int .i64 0), .lit (.int .i64 0), .lit (.int .i64 0), .lit (.int .i64 0), .lit (.int .i64 0)], .agg [.lit (.int .i64 0), .lit (.int .i64 0), .lit (.int .i64 0), .lit (.int .i64 0), .lit (.int .i64 0), .lit (.int .i64 0), .lit (.int .i64 0), .lit (.int .i64 0), .lit (.int .i64 5)], .agg [.lit (.int .i64 1), .lit (.int .i64 0), .lit (.int .i64 0), .lit (.int .i64 0), .lit (.int .i64 0), .lit (.int .i64 0), .lit (.int .i64 0), .lit (.int .i64 0), .lit (.int .i64 0)]]
def laid_pacesetter_phase_names {H : Type} : DataW H := .agg [.lit (.string [105, 100, 108, 101]), .lit (.string [114, 117, 110, 110, 105, 110, 103]), .lit (.string [112, 97, 117, 115, 101, 100]), .lit (.string [99, 111, 109, 112, 108, 101, 116, 101]), .lit (.string [114, 111, 108, 108, 105, 110, 103, 45, 98, 97, 99, 107]), .lit (.string [114, 111, 108, 108, 101, 100, 45, 98, 97, 99, 107])]
def laid_pacesetter_phase_words {H : Type} : DataW H := .agg [.lit (.string [98, 101, 103, 105, 110]), .lit (.string [112, 97, 117, 115, 101]), .lit (.string [114, 101, 115, 117, 109, 101]), .lit (.string [112, 114, 111, 109, 111, 116, 101]), .lit (.string [104, 101, 97, 108, 116, 104]), .lit (.string [100, 101, 97, 100, 108, 105, 110, 101]), .lit (.string [97, 98, 111, 114, 116]), .lit (.string [100, 111, 110, 101]), .lit (.string [98, 97, 99, 107])]

/-- 'pacesetterlaw11.PhaseNext': WHATEVER THE INPUT: true; the input reads as it did. -/
def phaseNextSpec : ChangeSpec := { name := "phaseNext", fn := fun _ => fun
  | [d1, d2, d3] => { results := [.lit (.bool true)], args := [d1, d2, d3] }
  | _ => none }
def phaseNextRow : OpenClaim := { program := "ytbimacagfobdbaadoor", sum := "c788929d87a89142c027809f4a064fdb473c3e0252a826d31409299ca7789c9b", func := "pacesetter/pacesetterlaw11.PhaseNext", spec := "phaseNext", named := ["pacesetter/phase.leads", "pacesetter/phase.names", "pacesetter/phase.words"], apart := false, laid := [("pacesetter/phase.leads", laid_pacesetter_phase_leads), ("pacesetter/phase.names", laid_pacesetter_phase_names), ("pacesetter/phase.words", laid_pacesetter_phase_words)] }
def PhaseNextSaid : Prop := phaseNextRow.holds Tryd.pinned (OpenSpec.ofChange phaseNextSpec)

/-- ITS FALSE NEIGHBOUR: 'it returns false'. Refute it at one input. -/
def phaseNextWrong : ChangeSpec := { name := "phaseNext", fn := fun _ => fun
  | [d1, d2, d3] => { results := [.lit (.bool false)], args := [d1, d2, d3] }
  | _ => none }
def PhaseNextWrongFalsely : Prop := phaseNextRow.holds Tryd.pinned (OpenSpec.ofChange phaseNextWrong)

/-- 'pacesetterlaw11.PhaseWalks': WHATEVER THE INPUT: true; the input reads as it did. -/
def phaseWalksSpec : ChangeSpec := { name := "phaseWalks", fn := fun _ => fun
  | [d1, d2, d3] => { results := [.lit (.bool true)], args := [d1, d2, d3] }
  | _ => none }
def phaseWalksRow : OpenClaim := { program := "ytbimacagfobdbaadoor", sum := "c788929d87a89142c027809f4a064fdb473c3e0252a826d31409299ca7789c9b", func := "pacesetter/pacesetterlaw11.PhaseWalks", spec := "phaseWalks", named := ["pacesetter/phase.leads", "pacesetter/phase.names", "pacesetter/phase.words"], apart := false, laid := [("pacesetter/phase.leads", laid_pacesetter_phase_leads), ("pacesetter/phase.names", laid_pacesetter_phase_names), ("pacesetter/phase.words", laid_pacesetter_phase_words)] }
def PhaseWalksSaid : Prop := phaseWalksRow.holds Tryd.pinned (OpenSpec.ofChange phaseWalksSpec)

/-- ITS FALSE NEIGHBOUR: 'it returns false'. Refute it at one input. -/
def phaseWalksWrong : ChangeSpec := { name := "phaseWalks", fn := fun _ => fun
  | [d1, d2, d3] => { results := [.lit (.bool false)], args := [d1, d2, d3] }
  | _ => none }
def PhaseWalksWrongFalsely : Prop := phaseWalksRow.holds Tryd.pinned (OpenSpec.ofChange phaseWalksWrong)

/-- 'pacesetterlaw11.PhaseNames': WHATEVER THE INPUT: true; the input reads as it did. -/
def phaseNamesSpec : ChangeSpec := { name := "phaseNames", fn := fun _ => fun
  | [d1, d2] => { results := [.lit (.bool true)], args := [d1, d2] }
  | _ => none }
def phaseNamesRow : OpenClaim := { program := "ytbimacagfobdbaadoor", sum := "c788929d87a89142c027809f4a064fdb473c3e0252a826d31409299ca7789c9b", func := "pacesetter/pacesetterlaw11.PhaseNames", spec := "phaseNames", named := ["pacesetter/phase.leads", "pacesetter/phase.names", "pacesetter/phase.words"], apart := false, laid := [("pacesetter/phase.leads", laid_pacesetter_phase_leads), ("pacesetter/phase.names", laid_pacesetter_phase_names), ("pacesetter/phase.words", laid_pacesetter_phase_words)] }
def PhaseNamesSaid : Prop := phaseNamesRow.holds Tryd.pinned (OpenSpec.ofChange phaseNamesSpec)

/-- ITS FALSE NEIGHBOUR: 'it returns false'. Refute it at one input. -/
def phaseNamesWrong : ChangeSpec := { name := "phaseNames", fn := fun _ => fun
  | [d1, d2] => { results := [.lit (.bool false)], args := [d1, d2] }
  | _ => none }
def PhaseNamesWrongFalsely : Prop := phaseNamesRow.holds Tryd.pinned (OpenSpec.ofChange phaseNamesWrong)

/-- 'pacesetterlaw11.PhaseWays': WHATEVER THE INPUT: true; the input reads as it did. -/
def phaseWaysSpec : ChangeSpec := { name := "phaseWays", fn := fun _ => fun
  | [d1, d2] => { results := [.lit (.bool true)], args := [d1, d2] }
  | _ => none }
def phaseWaysRow : OpenClaim := { program := "ytbimacagfobdbaadoor", sum := "c788929d87a89142c027809f4a064fdb473c3e0252a826d31409299ca7789c9b", func := "pacesetter/pacesetterlaw11.PhaseWays", spec := "phaseWays", named := ["pacesetter/phase.leads", "pacesetter/phase.names", "pacesetter/phase.words"], apart := false, laid := [("pacesetter/phase.leads", laid_pacesetter_phase_leads), ("pacesetter/phase.names", laid_pacesetter_phase_names), ("pacesetter/phase.words", laid_pacesetter_phase_words)] }
def PhaseWaysSaid : Prop := phaseWaysRow.holds Tryd.pinned (OpenSpec.ofChange phaseWaysSpec)

/-- ITS FALSE NEIGHBOUR: 'it returns false'. Refute it at one input. -/
def phaseWaysWrong : ChangeSpec := { name := "phaseWays", fn := fun _ => fun
  | [d1, d2] => { results := [.lit (.bool false)], args := [d1, d2] }
  | _ => none }
def PhaseWaysWrongFalsely : Prop := phaseWaysRow.holds Tryd.pinned (OpenSpec.ofChange phaseWaysWrong)

/-- 'pacesetterlaw11.PhaseOpen': WHATEVER THE INPUT: true; the input reads as it did. -/
def phaseOpenSpec : ChangeSpec := { name := "phaseOpen", fn := fun _ => fun
  | [d1, d2] => { results := [.lit (.bool true)], args := [d1, d2] }
  | _ => none }
def phaseOpenRow : OpenClaim := { program := "ytbimacagfobdbaadoor", sum := "c788929d87a89142c027809f4a064fdb473c3e0252a826d31409299ca7789c9b", func := "pacesetter/pacesetterlaw11.PhaseOpen", spec := "phaseOpen", named := ["pacesetter/phase.leads", "pacesetter/phase.names", "pacesetter/phase.words"], apart := false, laid := [("pacesetter/phase.leads", laid_pacesetter_phase_leads), ("pacesetter/phase.names", laid_pacesetter_phase_names), ("pacesetter/phase.words", laid_pacesetter_phase_words)] }
def PhaseOpenSaid : Prop := phaseOpenRow.holds Tryd.pinned (OpenSpec.ofChange phaseOpenSpec)

/-- ITS FALSE NEIGHBOUR: 'it returns false'. Refute it at one input. -/
def phaseOpenWrong : ChangeSpec := { name := "phaseOpen", fn := fun _ => fun
  | [d1, d2] => { results := [.lit (.bool false)], args := [d1, d2] }
  | _ => none }
def PhaseOpenWrongFalsely : Prop := phaseOpenRow.holds Tryd.pinned (OpenSpec.ofChange phaseOpenWrong)

/- THE SECOND FORM. 'bulk': how many values and letters a reading holds, each counted each time it is reached (what is shared counts as often as it is met; a slice's spare places count too). A statement '..UptoSaid' is the law's where the arguments, and the package variables that the reading takes, are together of bulk at most 1048576: NARROWER than '..Said'. Prove '..Said' where nothing that the law and all that it calls make is longer than what came in: it says more and counts as full. Else prove '..UptoSaid'. A law counts once. -/
mutual
def uptoBulk {H : Type} : DataW H → Nat
  | .lit (.string bytes) => bytes.length + 1
  | .lit _ => 1
  | .nil => 1
  | .ptr d => uptoBulk d + 1
  | .slice elems spare => uptoBulkAll elems + uptoBulkAll spare + 1
  | .agg parts => uptoBulkAll parts + 1
  | .iface _ d => uptoBulk d + 1
  | .map entries => uptoBulkEntries entries + 1
  | .held _ => 1
def uptoBulkAll {H : Type} : List (DataW H) → Nat
  | [] => 0
  | d :: r => uptoBulk d + uptoBulkAll r
def uptoBulkEntries {H : Type} : List (Lit × DataW H) → Nat
  | [] => 0
  | x :: r => uptoBulkEntry x + uptoBulkEntries r
def uptoBulkEntry {H : Type} : Lit × DataW H → Nat
  | (.string bytes, d) => bytes.length + uptoBulk d + 1
  | (_, d) => uptoBulk d + 1
 end
def uptoSmall : (H : Type) → List (DataW H) → Bool := fun _ ds => decide (uptoBulkAll ds ≤ 1048576)
def OpenSpec.upto (s : _root_.Go.ChangeSpec) : _root_.Go.OpenSpec := { _root_.Go.OpenSpec.ofChange s with cond := some uptoSmall }

/-- 'pacesetterlaw11.PhaseNext', WHERE WHAT IT READS IS OF BULK AT MOST 1048576: true; the input reads as it did. -/
def phaseNextUptoRow : OpenClaim := { program := "ytbimacagfobdbaadoor", sum := "c788929d87a89142c027809f4a064fdb473c3e0252a826d31409299ca7789c9b", func := "pacesetter/pacesetterlaw11.PhaseNext", spec := "phaseNext", named := ["pacesetter/phase.leads", "pacesetter/phase.names", "pacesetter/phase.words"], apart := false, laid := [("pacesetter/phase.leads", laid_pacesetter_phase_leads), ("pacesetter/phase.names", laid_pacesetter_phase_names), ("pacesetter/phase.words", laid_pacesetter_phase_words)], narrowed := true }
def PhaseNextUptoSaid : Prop := phaseNextUptoRow.holds Tryd.pinned (OpenSpec.upto phaseNextSpec)

/-- 'pacesetterlaw11.PhaseWalks', WHERE WHAT IT READS IS OF BULK AT MOST 1048576: true; the input reads as it did. -/
def phaseWalksUptoRow : OpenClaim := { program := "ytbimacagfobdbaadoor", sum := "c788929d87a89142c027809f4a064fdb473c3e0252a826d31409299ca7789c9b", func := "pacesetter/pacesetterlaw11.PhaseWalks", spec := "phaseWalks", named := ["pacesetter/phase.leads", "pacesetter/phase.names", "pacesetter/phase.words"], apart := false, laid := [("pacesetter/phase.leads", laid_pacesetter_phase_leads), ("pacesetter/phase.names", laid_pacesetter_phase_names), ("pacesetter/phase.words", laid_pacesetter_phase_words)], narrowed := true }
def PhaseWalksUptoSaid : Prop := phaseWalksUptoRow.holds Tryd.pinned (OpenSpec.upto phaseWalksSpec)

/-- 'pacesetterlaw11.PhaseNames', WHERE WHAT IT READS IS OF BULK AT MOST 1048576: true; the input reads as it did. -/
def phaseNamesUptoRow : OpenClaim := { program := "ytbimacagfobdbaadoor", sum := "c788929d87a89142c027809f4a064fdb473c3e0252a826d31409299ca7789c9b", func := "pacesetter/pacesetterlaw11.PhaseNames", spec := "phaseNames", named := ["pacesetter/phase.leads", "pacesetter/phase.names", "pacesetter/phase.words"], apart := false, laid := [("pacesetter/phase.leads", laid_pacesetter_phase_leads), ("pacesetter/phase.names", laid_pacesetter_phase_names), ("pacesetter/phase.words", laid_pacesetter_phase_words)], narrowed := true }
def PhaseNamesUptoSaid : Prop := phaseNamesUptoRow.holds Tryd.pinned (OpenSpec.upto phaseNamesSpec)

/-- 'pacesetterlaw11.PhaseWays', WHERE WHAT IT READS IS OF BULK AT MOST 1048576: true; the input reads as it did. -/
def phaseWaysUptoRow : OpenClaim := { program := "ytbimacagfobdbaadoor", sum := "c788929d87a89142c027809f4a064fdb473c3e0252a826d31409299ca7789c9b", func := "pacesetter/pacesetterlaw11.PhaseWays", spec := "phaseWays", named := ["pacesetter/phase.leads", "pacesetter/phase.names", "pacesetter/phase.words"], apart := false, laid := [("pacesetter/phase.leads", laid_pacesetter_phase_leads), ("pacesetter/phase.names", laid_pacesetter_phase_names), ("pacesetter/phase.words", laid_pacesetter_phase_words)], narrowed := true }
def PhaseWaysUptoSaid : Prop := phaseWaysUptoRow.holds Tryd.pinned (OpenSpec.upto phaseWaysSpec)

/-- 'pacesetterlaw11.PhaseOpen', WHERE WHAT IT READS IS OF BULK AT MOST 1048576: true; the input reads as it did. -/
def phaseOpenUptoRow : OpenClaim := { program := "ytbimacagfobdbaadoor", sum := "c788929d87a89142c027809f4a064fdb473c3e0252a826d31409299ca7789c9b", func := "pacesetter/pacesetterlaw11.PhaseOpen", spec := "phaseOpen", named := ["pacesetter/phase.leads", "pacesetter/phase.names", "pacesetter/phase.words"], apart := false, laid := [("pacesetter/phase.leads", laid_pacesetter_phase_leads), ("pacesetter/phase.names", laid_pacesetter_phase_names), ("pacesetter/phase.words", laid_pacesetter_phase_words)], narrowed := true }
def PhaseOpenUptoSaid : Prop := phaseOpenUptoRow.holds Tryd.pinned (OpenSpec.upto phaseOpenSpec)

end Rows
end Go.Proofs.YtbimacagfobdbaaDoor
