/-
  No cell of these rows narrows 'for every input' (looked for: loops, veiled, ifaces, maps, wideKeys, modest, calm, conditions, laid).
  DERIVED. THE GIVEN ROWS OF THIS SEAT. 4 by the template 'for every input the law returns true; each argument reads behind the call as it read before'; 0 by the template 'total and deterministic' (their statements: YtlkfbnafookjdaaTotals.lean).
  GIVEN WITH THE SEED: the statements are not yours to turn. If you find one false, say at which input.
  Laid BY PROGRAM, IN A SANDBOX (cutbox-rows.mjs): the forced cells as the released guide's own fill.sh prints them over the translation d5bfc6cf935e09d3… (all of the seat's roots in one cut). By AI agents, Wed Nov 11 2026. No macro, syntax, notation, axiom, sorry.
-/
import Derived.Test.YtlkfbnafookjdaaChecked
import GoSem.Claim
import GoSem.ClaimJoined
import GoSem.ClaimMapViews
import Derived.JoinedTies
import Derived.KernelRfl
namespace Go.Proofs.Ytlkfbnafookjdaa
/- THE CELL 'sum', in the pinned program and in every row, IS THE sha256 OF THE DUMP (.gsa) THAT YtlkfbnafookjdaaProg.lean LOADS. Nothing in Lean hashes anything: it is a label: what it is worth is what the hold of that sum in a sandbox is worth. -/
noncomputable def Try.pinned : Pinned := { name := "ytlkfbnafookjdaa", sum := "d5bfc6cf935e09d32063e8bb11678f236389b16b4feb4098992b5fc4013e7a87", checked := Try.checked }
namespace Rows
def none {H : Type} : Left H := { results := [], args := [] }

/-- 'pacesetterlaw15.SlotWalks': WHATEVER THE INPUT: true; the input reads as it did. -/
def slotWalksSpec : ChangeSpec := { name := "slotWalks", fn := fun _ => fun
  | [d1, d2, d3] => { results := [.lit (.bool true)], args := [d1, d2, d3] }
  | _ => none }
def slotWalksRow : OpenClaim := { program := "ytlkfbnafookjdaa", sum := "d5bfc6cf935e09d32063e8bb11678f236389b16b4feb4098992b5fc4013e7a87", func := "pacesetter/pacesetterlaw15.SlotWalks", spec := "slotWalks", unfollowed := true, recurses := true, apart := false }
def SlotWalksSaid : Prop := slotWalksRow.holds Try.pinned (OpenSpec.ofChange slotWalksSpec)

/-- ITS FALSE NEIGHBOUR: 'it returns false'. Refute it at one input. -/
def slotWalksWrong : ChangeSpec := { name := "slotWalks", fn := fun _ => fun
  | [d1, d2, d3] => { results := [.lit (.bool false)], args := [d1, d2, d3] }
  | _ => none }
def SlotWalksWrongFalsely : Prop := slotWalksRow.holds Try.pinned (OpenSpec.ofChange slotWalksWrong)

/-- 'pacesetterlaw15.SlotSettles': WHATEVER THE INPUT: true; the input reads as it did. -/
def slotSettlesSpec : ChangeSpec := { name := "slotSettles", fn := fun _ => fun
  | [d] => { results := [.lit (.bool true)], args := [d] }
  | _ => none }
def slotSettlesRow : OpenClaim := { program := "ytlkfbnafookjdaa", sum := "d5bfc6cf935e09d32063e8bb11678f236389b16b4feb4098992b5fc4013e7a87", func := "pacesetter/pacesetterlaw15.SlotSettles", spec := "slotSettles", unfollowed := true, recurses := true, apart := false }
def SlotSettlesSaid : Prop := slotSettlesRow.holds Try.pinned (OpenSpec.ofChange slotSettlesSpec)

/-- ITS FALSE NEIGHBOUR: 'it returns false'. Refute it at one input. -/
def slotSettlesWrong : ChangeSpec := { name := "slotSettles", fn := fun _ => fun
  | [d] => { results := [.lit (.bool false)], args := [d] }
  | _ => none }
def SlotSettlesWrongFalsely : Prop := slotSettlesRow.holds Try.pinned (OpenSpec.ofChange slotSettlesWrong)

/-- 'pacesetterlaw15.SlotSeq': WHATEVER THE INPUT: true; the input reads as it did. -/
def slotSeqSpec : ChangeSpec := { name := "slotSeq", fn := fun _ => fun
  | [d1, d2, d3] => { results := [.lit (.bool true)], args := [d1, d2, d3] }
  | _ => none }
def slotSeqRow : OpenClaim := { program := "ytlkfbnafookjdaa", sum := "d5bfc6cf935e09d32063e8bb11678f236389b16b4feb4098992b5fc4013e7a87", func := "pacesetter/pacesetterlaw15.SlotSeq", spec := "slotSeq", unfollowed := true, recurses := true, apart := false }
def SlotSeqSaid : Prop := slotSeqRow.holds Try.pinned (OpenSpec.ofChange slotSeqSpec)

/-- ITS FALSE NEIGHBOUR: 'it returns false'. Refute it at one input. -/
def slotSeqWrong : ChangeSpec := { name := "slotSeq", fn := fun _ => fun
  | [d1, d2, d3] => { results := [.lit (.bool false)], args := [d1, d2, d3] }
  | _ => none }
def SlotSeqWrongFalsely : Prop := slotSeqRow.holds Try.pinned (OpenSpec.ofChange slotSeqWrong)

/-- 'pacesetterlaw15.SlotFalls': WHATEVER THE INPUT: true; the input reads as it did. -/
def slotFallsSpec : ChangeSpec := { name := "slotFalls", fn := fun _ => fun
  | [d] => { results := [.lit (.bool true)], args := [d] }
  | _ => none }
def slotFallsRow : OpenClaim := { program := "ytlkfbnafookjdaa", sum := "d5bfc6cf935e09d32063e8bb11678f236389b16b4feb4098992b5fc4013e7a87", func := "pacesetter/pacesetterlaw15.SlotFalls", spec := "slotFalls", unfollowed := true, recurses := true, apart := false }
def SlotFallsSaid : Prop := slotFallsRow.holds Try.pinned (OpenSpec.ofChange slotFallsSpec)

/-- ITS FALSE NEIGHBOUR: 'it returns false'. Refute it at one input. -/
def slotFallsWrong : ChangeSpec := { name := "slotFalls", fn := fun _ => fun
  | [d] => { results := [.lit (.bool false)], args := [d] }
  | _ => none }
def SlotFallsWrongFalsely : Prop := slotFallsRow.holds Try.pinned (OpenSpec.ofChange slotFallsWrong)

/- THE SECOND FORM. 'bulk': how many values and letters a reading holds, each counted each time it is reached (what is shared counts as often as it is met; a slice's spare places count too). A statement '..UptoSaid' is the law's where the arguments, and the package variables that the reading takes, are together of bulk at most 1048576: NARROWER than '..Said'. Prove '..Said' where nothing that the law and all that it calls make is longer than what came in: it says more and counts as full. Else prove '..UptoSaid'. A law counts once. -/
mutual
def uptoBulk {H : Type} : DataW H → Nat
  | .lit (.string bytes) => bytes.length + 1
  | .lit _ => 1
  | .nil => 1
  | .ptr d => uptoBulk d + 1
  | .slice elems spare => uptoBulkAll elems + uptoBulkAll spare + 1
  | .agg parts => uptoBulkAll parts + 1
  | .iface _ d => uptoBulk d + 1
  | .map entries => uptoBulkEntries entries + 1
  | .held _ => 1
def uptoBulkAll {H : Type} : List (DataW H) → Nat
  | [] => 0
  | d :: r => uptoBulk d + uptoBulkAll r
def uptoBulkEntries {H : Type} : List (Lit × DataW H) → Nat
  | [] => 0
  | x :: r => uptoBulkEntry x + uptoBulkEntries r
def uptoBulkEntry {H : Type} : Lit × DataW H → Nat
  | (.string bytes, d) => bytes.length + uptoBulk d + 1
  | (_, d) => uptoBulk d + 1
 end
def uptoSmall : (H : Type) → List (DataW H) → Bool := fun _ ds => decide (uptoBulkAll ds ≤ 1048576)
def OpenSpec.upto (s : _root_.Go.ChangeSpec) : _root_.Go.OpenSpec := { _root_.Go.OpenSpec.ofChange s with cond := some uptoSmall }

/-- 'pacesetterlaw15.SlotWalks', WHERE WHAT IT READS IS OF BULK AT MOST 1048576: true; the input reads as it did. -/
def slotWalksUptoRow : OpenClaim := { program := "ytlkfbnafookjdaa", sum := "d5bfc6cf935e09d32063e8bb11678f236389b16b4feb4098992b5fc4013e7a87", func := "pacesetter/pacesetterlaw15.SlotWalks", spec := "slotWalks", unfollowed := true, recurses := true, apart := false, narrowed := true }
def SlotWalksUptoSaid : Prop := slotWalksUptoRow.holds Try.pinned (OpenSpec.upto slotWalksSpec)

/-- 'pacesetterlaw15.SlotSettles', WHERE WHAT IT READS IS OF BULK AT MOST 1048576: true; the input reads as it did. -/
def slotSettlesUptoRow : OpenClaim := { program := "ytlkfbnafookjdaa", sum := "d5bfc6cf935e09d32063e8bb11678f236389b16b4feb4098992b5fc4013e7a87", func := "pacesetter/pacesetterlaw15.SlotSettles", spec := "slotSettles", unfollowed := true, recurses := true, apart := false, narrowed := true }
def SlotSettlesUptoSaid : Prop := slotSettlesUptoRow.holds Try.pinned (OpenSpec.upto slotSettlesSpec)

/-- 'pacesetterlaw15.SlotSeq', WHERE WHAT IT READS IS OF BULK AT MOST 1048576: true; the input reads as it did. -/
def slotSeqUptoRow : OpenClaim := { program := "ytlkfbnafookjdaa", sum := "d5bfc6cf935e09d32063e8bb11678f236389b16b4feb4098992b5fc4013e7a87", func := "pacesetter/pacesetterlaw15.SlotSeq", spec := "slotSeq", unfollowed := true, recurses := true, apart := false, narrowed := true }
def SlotSeqUptoSaid : Prop := slotSeqUptoRow.holds Try.pinned (OpenSpec.upto slotSeqSpec)

/-- 'pacesetterlaw15.SlotFalls', WHERE WHAT IT READS IS OF BULK AT MOST 1048576: true; the input reads as it did. -/
def slotFallsUptoRow : OpenClaim := { program := "ytlkfbnafookjdaa", sum := "d5bfc6cf935e09d32063e8bb11678f236389b16b4feb4098992b5fc4013e7a87", func := "pacesetter/pacesetterlaw15.SlotFalls", spec := "slotFalls", unfollowed := true, recurses := true, apart := false, narrowed := true }
def SlotFallsUptoSaid : Prop := slotFallsUptoRow.holds Try.pinned (OpenSpec.upto slotFallsSpec)

end Rows
end Go.Proofs.Ytlkfbnafookjdaa
