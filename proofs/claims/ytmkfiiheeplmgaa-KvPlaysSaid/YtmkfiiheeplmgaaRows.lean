/-
  No cell of these rows narrows 'for every input' (looked for: loops, veiled, ifaces, maps, wideKeys, modest, calm, conditions, laid).
  DERIVED. THE GIVEN ROWS OF THIS SEAT. 6 by the template 'for every input the law returns true; each argument reads behind the call as it read before'; 0 by the template 'total and deterministic' (their statements: YtmkfiiheeplmgaaTotals.lean).
  GIVEN WITH THE SEED: the statements are not yours to turn. If you find one false, say at which input.
  Laid BY PROGRAM, IN A SANDBOX (cutbox-rows.mjs): the forced cells as the released guide's own fill.sh prints them over the translation c7f930aec2fd553d… (all of the seat's roots in one cut). By AI agents, Wed Nov 11 2026. No macro, syntax, notation, axiom, sorry.
-/
import Derived.Test.YtmkfiiheeplmgaaChecked
import GoSem.Claim
import GoSem.ClaimJoined
import GoSem.ClaimMapViews
import Derived.JoinedTies
import Derived.KernelRfl
namespace Go.Proofs.Ytmkfiiheeplmgaa
/- THE CELL 'sum', in the pinned program and in every row, IS THE sha256 OF THE DUMP (.gsa) THAT YtmkfiiheeplmgaaProg.lean LOADS. Nothing in Lean hashes anything: it is a label: what it is worth is what the hold of that sum in a sandbox is worth. -/
noncomputable def Try.pinned : Pinned := { name := "ytmkfiiheeplmgaa", sum := "c7f930aec2fd553df2bb2082b16497480141c4fd56182bbc98bd3a311722575d", checked := Try.checked }
namespace Rows
def none {H : Type} : Left H := { results := [], args := [] }

/-- 'pacesetterlaw08.KvPlays': WHATEVER THE INPUT: true; the input reads as it did. -/
def kvPlaysSpec : ChangeSpec := { name := "kvPlays", fn := fun _ => fun
  | [d1, d2] => { results := [.lit (.bool true)], args := [d1, d2] }
  | _ => none }
def kvPlaysRow : OpenClaim := { program := "ytmkfiiheeplmgaa", sum := "c7f930aec2fd553df2bb2082b16497480141c4fd56182bbc98bd3a311722575d", func := "pacesetter/pacesetterlaw08.KvPlays", spec := "kvPlays", unfollowed := true, recurses := true, apart := false }
def KvPlaysSaid : Prop := kvPlaysRow.holds Try.pinned (OpenSpec.ofChange kvPlaysSpec)

/-- ITS FALSE NEIGHBOUR: 'it returns false'. Refute it at one input. -/
def kvPlaysWrong : ChangeSpec := { name := "kvPlays", fn := fun _ => fun
  | [d1, d2] => { results := [.lit (.bool false)], args := [d1, d2] }
  | _ => none }
def KvPlaysWrongFalsely : Prop := kvPlaysRow.holds Try.pinned (OpenSpec.ofChange kvPlaysWrong)

/-- 'pacesetterlaw08.KvWhole': WHATEVER THE INPUT: true; the input reads as it did. -/
def kvWholeSpec : ChangeSpec := { name := "kvWhole", fn := fun _ => fun
  | [d] => { results := [.lit (.bool true)], args := [d] }
  | _ => none }
def kvWholeRow : OpenClaim := { program := "ytmkfiiheeplmgaa", sum := "c7f930aec2fd553df2bb2082b16497480141c4fd56182bbc98bd3a311722575d", func := "pacesetter/pacesetterlaw08.KvWhole", spec := "kvWhole", unfollowed := true, recurses := true, apart := false }
def KvWholeSaid : Prop := kvWholeRow.holds Try.pinned (OpenSpec.ofChange kvWholeSpec)

/-- ITS FALSE NEIGHBOUR: 'it returns false'. Refute it at one input. -/
def kvWholeWrong : ChangeSpec := { name := "kvWhole", fn := fun _ => fun
  | [d] => { results := [.lit (.bool false)], args := [d] }
  | _ => none }
def KvWholeWrongFalsely : Prop := kvWholeRow.holds Try.pinned (OpenSpec.ofChange kvWholeWrong)

/-- 'pacesetterlaw08.KvRaces': WHATEVER THE INPUT: true; the input reads as it did. -/
def kvRacesSpec : ChangeSpec := { name := "kvRaces", fn := fun _ => fun
  | [d1, d2, d3] => { results := [.lit (.bool true)], args := [d1, d2, d3] }
  | _ => none }
def kvRacesRow : OpenClaim := { program := "ytmkfiiheeplmgaa", sum := "c7f930aec2fd553df2bb2082b16497480141c4fd56182bbc98bd3a311722575d", func := "pacesetter/pacesetterlaw08.KvRaces", spec := "kvRaces", unfollowed := true, recurses := true, apart := false }
def KvRacesSaid : Prop := kvRacesRow.holds Try.pinned (OpenSpec.ofChange kvRacesSpec)

/-- ITS FALSE NEIGHBOUR: 'it returns false'. Refute it at one input. -/
def kvRacesWrong : ChangeSpec := { name := "kvRaces", fn := fun _ => fun
  | [d1, d2, d3] => { results := [.lit (.bool false)], args := [d1, d2, d3] }
  | _ => none }
def KvRacesWrongFalsely : Prop := kvRacesRow.holds Try.pinned (OpenSpec.ofChange kvRacesWrong)

/-- 'pacesetterlaw08.KvSince': WHATEVER THE INPUT: true; the input reads as it did. -/
def kvSinceSpec : ChangeSpec := { name := "kvSince", fn := fun _ => fun
  | [d1, d2] => { results := [.lit (.bool true)], args := [d1, d2] }
  | _ => none }
def kvSinceRow : OpenClaim := { program := "ytmkfiiheeplmgaa", sum := "c7f930aec2fd553df2bb2082b16497480141c4fd56182bbc98bd3a311722575d", func := "pacesetter/pacesetterlaw08.KvSince", spec := "kvSince", unfollowed := true, recurses := true, apart := false }
def KvSinceSaid : Prop := kvSinceRow.holds Try.pinned (OpenSpec.ofChange kvSinceSpec)

/-- ITS FALSE NEIGHBOUR: 'it returns false'. Refute it at one input. -/
def kvSinceWrong : ChangeSpec := { name := "kvSince", fn := fun _ => fun
  | [d1, d2] => { results := [.lit (.bool false)], args := [d1, d2] }
  | _ => none }
def KvSinceWrongFalsely : Prop := kvSinceRow.holds Try.pinned (OpenSpec.ofChange kvSinceWrong)

/-- 'pacesetterlaw08.KvNil': WHATEVER THE INPUT: true; the input reads as it did. -/
def kvNilSpec : ChangeSpec := { name := "kvNil", fn := fun _ => fun
  | [d1, d2] => { results := [.lit (.bool true)], args := [d1, d2] }
  | _ => none }
def kvNilRow : OpenClaim := { program := "ytmkfiiheeplmgaa", sum := "c7f930aec2fd553df2bb2082b16497480141c4fd56182bbc98bd3a311722575d", func := "pacesetter/pacesetterlaw08.KvNil", spec := "kvNil", unfollowed := true, recurses := true, apart := false }
def KvNilSaid : Prop := kvNilRow.holds Try.pinned (OpenSpec.ofChange kvNilSpec)

/-- ITS FALSE NEIGHBOUR: 'it returns false'. Refute it at one input. -/
def kvNilWrong : ChangeSpec := { name := "kvNil", fn := fun _ => fun
  | [d1, d2] => { results := [.lit (.bool false)], args := [d1, d2] }
  | _ => none }
def KvNilWrongFalsely : Prop := kvNilRow.holds Try.pinned (OpenSpec.ofChange kvNilWrong)

/-- 'pacesetterlaw08.KvAgain': WHATEVER THE INPUT: true; the input reads as it did. -/
def kvAgainSpec : ChangeSpec := { name := "kvAgain", fn := fun _ => fun
  | [d] => { results := [.lit (.bool true)], args := [d] }
  | _ => none }
def kvAgainRow : OpenClaim := { program := "ytmkfiiheeplmgaa", sum := "c7f930aec2fd553df2bb2082b16497480141c4fd56182bbc98bd3a311722575d", func := "pacesetter/pacesetterlaw08.KvAgain", spec := "kvAgain", unfollowed := true, recurses := true, apart := false }
def KvAgainSaid : Prop := kvAgainRow.holds Try.pinned (OpenSpec.ofChange kvAgainSpec)

/-- ITS FALSE NEIGHBOUR: 'it returns false'. Refute it at one input. -/
def kvAgainWrong : ChangeSpec := { name := "kvAgain", fn := fun _ => fun
  | [d] => { results := [.lit (.bool false)], args := [d] }
  | _ => none }
def KvAgainWrongFalsely : Prop := kvAgainRow.holds Try.pinned (OpenSpec.ofChange kvAgainWrong)

/- THE SECOND FORM. 'bulk': how many values and letters a reading holds, each counted each time it is reached (what is shared counts as often as it is met; a slice's spare places count too). A statement '..UptoSaid' is the law's where the arguments, and the package variables that the reading takes, are together of bulk at most 1048576: NARROWER than '..Said'. Prove '..Said' where nothing that the law and all that it calls make is longer than what came in: it says more and counts as full. Else prove '..UptoSaid'. A law counts once. -/
mutual
def uptoBulk {H : Type} : DataW H → Nat
  | .lit (.string bytes) => bytes.length + 1
  | .lit _ => 1
  | .nil => 1
  | .ptr d => uptoBulk d + 1
  | .slice elems spare => uptoBulkAll elems + uptoBulkAll spare + 1
  | .agg parts => uptoBulkAll parts + 1
  | .iface _ d => uptoBulk d + 1
  | .map entries => uptoBulkEntries entries + 1
  | .held _ => 1
def uptoBulkAll {H : Type} : List (DataW H) → Nat
  | [] => 0
  | d :: r => uptoBulk d + uptoBulkAll r
def uptoBulkEntries {H : Type} : List (Lit × DataW H) → Nat
  | [] => 0
  | x :: r => uptoBulkEntry x + uptoBulkEntries r
def uptoBulkEntry {H : Type} : Lit × DataW H → Nat
  | (.string bytes, d) => bytes.length + uptoBulk d + 1
  | (_, d) => uptoBulk d + 1
 end
def uptoSmall : (H : Type) → List (DataW H) → Bool := fun _ ds => decide (uptoBulkAll ds ≤ 1048576)
def OpenSpec.upto (s : _root_.Go.ChangeSpec) : _root_.Go.OpenSpec := { _root_.Go.OpenSpec.ofChange s with cond := some uptoSmall }

/-- 'pacesetterlaw08.KvPlays', WHERE WHAT IT READS IS OF BULK AT MOST 1048576: true; the input reads as it did. -/
def kvPlaysUptoRow : OpenClaim := { program := "ytmkfiiheeplmgaa", sum := "c7f930aec2fd553df2bb2082b16497480141c4fd56182bbc98bd3a311722575d", func := "pacesetter/pacesetterlaw08.KvPlays", spec := "kvPlays", unfollowed := true, recurses := true, apart := false, narrowed := true }
def KvPlaysUptoSaid : Prop := kvPlaysUptoRow.holds Try.pinned (OpenSpec.upto kvPlaysSpec)

/-- 'pacesetterlaw08.KvWhole', WHERE WHAT IT READS IS OF BULK AT MOST 1048576: true; the input reads as it did. -/
def kvWholeUptoRow : OpenClaim := { program := "ytmkfiiheeplmgaa", sum := "c7f930aec2fd553df2bb2082b16497480141c4fd56182bbc98bd3a311722575d", func := "pacesetter/pacesetterlaw08.KvWhole", spec := "kvWhole", unfollowed := true, recurses := true, apart := false, narrowed := true }
def KvWholeUptoSaid : Prop := kvWholeUptoRow.holds Try.pinned (OpenSpec.upto kvWholeSpec)

/-- 'pacesetterlaw08.KvRaces', WHERE WHAT IT READS IS OF BULK AT MOST 1048576: true; the input reads as it did. -/
def kvRacesUptoRow : OpenClaim := { program := "ytmkfiiheeplmgaa", sum := "c7f930aec2fd553df2bb2082b16497480141c4fd56182bbc98bd3a311722575d", func := "pacesetter/pacesetterlaw08.KvRaces", spec := "kvRaces", unfollowed := true, recurses := true, apart := false, narrowed := true }
def KvRacesUptoSaid : Prop := kvRacesUptoRow.holds Try.pinned (OpenSpec.upto kvRacesSpec)

/-- 'pacesetterlaw08.KvSince', WHERE WHAT IT READS IS OF BULK AT MOST 1048576: true; the input reads as it did. -/
def kvSinceUptoRow : OpenClaim := { program := "ytmkfiiheeplmgaa", sum := "c7f930aec2fd553df2bb2082b16497480141c4fd56182bbc98bd3a311722575d", func := "pacesetter/pacesetterlaw08.KvSince", spec := "kvSince", unfollowed := true, recurses := true, apart := false, narrowed := true }
def KvSinceUptoSaid : Prop := kvSinceUptoRow.holds Try.pinned (OpenSpec.upto kvSinceSpec)

/-- 'pacesetterlaw08.KvNil', WHERE WHAT IT READS IS OF BULK AT MOST 1048576: true; the input reads as it did. -/
def kvNilUptoRow : OpenClaim := { program := "ytmkfiiheeplmgaa", sum := "c7f930aec2fd553df2bb2082b16497480141c4fd56182bbc98bd3a311722575d", func := "pacesetter/pacesetterlaw08.KvNil", spec := "kvNil", unfollowed := true, recurses := true, apart := false, narrowed := true }
def KvNilUptoSaid : Prop := kvNilUptoRow.holds Try.pinned (OpenSpec.upto kvNilSpec)

/-- 'pacesetterlaw08.KvAgain', WHERE WHAT IT READS IS OF BULK AT MOST 1048576: true; the input reads as it did. -/
def kvAgainUptoRow : OpenClaim := { program := "ytmkfiiheeplmgaa", sum := "c7f930aec2fd553df2bb2082b16497480141c4fd56182bbc98bd3a311722575d", func := "pacesetter/pacesetterlaw08.KvAgain", spec := "kvAgain", unfollowed := true, recurses := true, apart := false, narrowed := true }
def KvAgainUptoSaid : Prop := kvAgainUptoRow.holds Try.pinned (OpenSpec.upto kvAgainSpec)

end Rows
end Go.Proofs.Ytmkfiiheeplmgaa
