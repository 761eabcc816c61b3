/-
  No cell of these rows narrows 'for every input' (looked for: loops, veiled, ifaces, maps, wideKeys, modest, calm, conditions, laid).
  DERIVED. THE GIVEN ROWS OF THIS SEAT. 7 by the template 'for every input the law returns true; each argument reads behind the call as it read before'; 0 by the template 'total and deterministic' (their statements: YtghbaoliokkfhaaTotals.lean).
  GIVEN WITH THE SEED: the statements are not yours to turn. If you find one false, say at which input.
  Laid BY PROGRAM, IN A SANDBOX (cutbox-rows.mjs): the forced cells as the released guide's own fill.sh prints them over the translation e6af3f3085fabc08… (all of the seat's roots in one cut). By AI agents, Wed Nov 11 2026. No macro, syntax, notation, axiom, sorry.
-/
import Derived.Test.YtghbaoliokkfhaaChecked
import GoSem.Claim
import GoSem.ClaimJoined
import GoSem.ClaimMapViews
import Derived.JoinedTies
import Derived.KernelRfl
namespace Go.Proofs.Ytghbaoliokkfhaa
/- THE CELL 'sum', in the pinned program and in every row, IS THE sha256 OF THE DUMP (.gsa) THAT YtghbaoliokkfhaaProg.lean LOADS. Nothing in Lean hashes anything: it is a label: what it is worth is what the hold of that sum in a sandbox is worth. -/
noncomputable def Try.pinned : Pinned := { name := "ytghbaoliokkfhaa", sum := "e6af3f3085fabc08a2b13db0d4f2e5778b5ed14cbece2b7f8e2a734d7bc28c64", checked := Try.checked }
namespace Rows
def none {H : Type} : Left H := { results := [], args := [] }

/-- 'pacesetterlaw02.NumSums': WHATEVER THE INPUT: true; the input reads as it did. -/
def numSumsSpec : ChangeSpec := { name := "numSums", fn := fun _ => fun
  | [d1, d2] => { results := [.lit (.bool true)], args := [d1, d2] }
  | _ => none }
def numSumsRow : OpenClaim := { program := "ytghbaoliokkfhaa", sum := "e6af3f3085fabc08a2b13db0d4f2e5778b5ed14cbece2b7f8e2a734d7bc28c64", func := "pacesetter/pacesetterlaw02.NumSums", spec := "numSums", unfollowed := true, recurses := true, apart := false }
def NumSumsSaid : Prop := numSumsRow.holds Try.pinned (OpenSpec.ofChange numSumsSpec)

/-- ITS FALSE NEIGHBOUR: 'it returns false'. Refute it at one input. -/
def numSumsWrong : ChangeSpec := { name := "numSums", fn := fun _ => fun
  | [d1, d2] => { results := [.lit (.bool false)], args := [d1, d2] }
  | _ => none }
def NumSumsWrongFalsely : Prop := numSumsRow.holds Try.pinned (OpenSpec.ofChange numSumsWrong)

/-- 'pacesetterlaw02.NumBudgets': WHATEVER THE INPUT: true; the input reads as it did. -/
def numBudgetsSpec : ChangeSpec := { name := "numBudgets", fn := fun _ => fun
  | [d1, d2] => { results := [.lit (.bool true)], args := [d1, d2] }
  | _ => none }
def numBudgetsRow : OpenClaim := { program := "ytghbaoliokkfhaa", sum := "e6af3f3085fabc08a2b13db0d4f2e5778b5ed14cbece2b7f8e2a734d7bc28c64", func := "pacesetter/pacesetterlaw02.NumBudgets", spec := "numBudgets", apart := false }
def NumBudgetsSaid : Prop := numBudgetsRow.holds Try.pinned (OpenSpec.ofChange numBudgetsSpec)

/-- ITS FALSE NEIGHBOUR: 'it returns false'. Refute it at one input. -/
def numBudgetsWrong : ChangeSpec := { name := "numBudgets", fn := fun _ => fun
  | [d1, d2] => { results := [.lit (.bool false)], args := [d1, d2] }
  | _ => none }
def NumBudgetsWrongFalsely : Prop := numBudgetsRow.holds Try.pinned (OpenSpec.ofChange numBudgetsWrong)

/-- 'pacesetterlaw02.NumShares': WHATEVER THE INPUT: true; the input reads as it did. -/
def numSharesSpec : ChangeSpec := { name := "numShares", fn := fun _ => fun
  | [d1, d2] => { results := [.lit (.bool true)], args := [d1, d2] }
  | _ => none }
def numSharesRow : OpenClaim := { program := "ytghbaoliokkfhaa", sum := "e6af3f3085fabc08a2b13db0d4f2e5778b5ed14cbece2b7f8e2a734d7bc28c64", func := "pacesetter/pacesetterlaw02.NumShares", spec := "numShares", apart := false }
def NumSharesSaid : Prop := numSharesRow.holds Try.pinned (OpenSpec.ofChange numSharesSpec)

/-- ITS FALSE NEIGHBOUR: 'it returns false'. Refute it at one input. -/
def numSharesWrong : ChangeSpec := { name := "numShares", fn := fun _ => fun
  | [d1, d2] => { results := [.lit (.bool false)], args := [d1, d2] }
  | _ => none }
def NumSharesWrongFalsely : Prop := numSharesRow.holds Try.pinned (OpenSpec.ofChange numSharesWrong)

/-- 'pacesetterlaw02.NumRounds': WHATEVER THE INPUT: true; the input reads as it did. -/
def numRoundsSpec : ChangeSpec := { name := "numRounds", fn := fun _ => fun
  | [d1, d2, d3] => { results := [.lit (.bool true)], args := [d1, d2, d3] }
  | _ => none }
def numRoundsRow : OpenClaim := { program := "ytghbaoliokkfhaa", sum := "e6af3f3085fabc08a2b13db0d4f2e5778b5ed14cbece2b7f8e2a734d7bc28c64", func := "pacesetter/pacesetterlaw02.NumRounds", spec := "numRounds", apart := false }
def NumRoundsSaid : Prop := numRoundsRow.holds Try.pinned (OpenSpec.ofChange numRoundsSpec)

/-- ITS FALSE NEIGHBOUR: 'it returns false'. Refute it at one input. -/
def numRoundsWrong : ChangeSpec := { name := "numRounds", fn := fun _ => fun
  | [d1, d2, d3] => { results := [.lit (.bool false)], args := [d1, d2, d3] }
  | _ => none }
def NumRoundsWrongFalsely : Prop := numRoundsRow.holds Try.pinned (OpenSpec.ofChange numRoundsWrong)

/-- 'pacesetterlaw02.NumSpares': WHATEVER THE INPUT: true; the input reads as it did. -/
def numSparesSpec : ChangeSpec := { name := "numSpares", fn := fun _ => fun
  | [d1, d2, d3] => { results := [.lit (.bool true)], args := [d1, d2, d3] }
  | _ => none }
def numSparesRow : OpenClaim := { program := "ytghbaoliokkfhaa", sum := "e6af3f3085fabc08a2b13db0d4f2e5778b5ed14cbece2b7f8e2a734d7bc28c64", func := "pacesetter/pacesetterlaw02.NumSpares", spec := "numSpares", apart := false }
def NumSparesSaid : Prop := numSparesRow.holds Try.pinned (OpenSpec.ofChange numSparesSpec)

/-- ITS FALSE NEIGHBOUR: 'it returns false'. Refute it at one input. -/
def numSparesWrong : ChangeSpec := { name := "numSpares", fn := fun _ => fun
  | [d1, d2, d3] => { results := [.lit (.bool false)], args := [d1, d2, d3] }
  | _ => none }
def NumSparesWrongFalsely : Prop := numSparesRow.holds Try.pinned (OpenSpec.ofChange numSparesWrong)

/-- 'pacesetterlaw02.NumRooms': WHATEVER THE INPUT: true; the input reads as it did. -/
def numRoomsSpec : ChangeSpec := { name := "numRooms", fn := fun _ => fun
  | [d1, d2, d3] => { results := [.lit (.bool true)], args := [d1, d2, d3] }
  | _ => none }
def numRoomsRow : OpenClaim := { program := "ytghbaoliokkfhaa", sum := "e6af3f3085fabc08a2b13db0d4f2e5778b5ed14cbece2b7f8e2a734d7bc28c64", func := "pacesetter/pacesetterlaw02.NumRooms", spec := "numRooms", apart := false }
def NumRoomsSaid : Prop := numRoomsRow.holds Try.pinned (OpenSpec.ofChange numRoomsSpec)

/-- ITS FALSE NEIGHBOUR: 'it returns false'. Refute it at one input. -/
def numRoomsWrong : ChangeSpec := { name := "numRooms", fn := fun _ => fun
  | [d1, d2, d3] => { results := [.lit (.bool false)], args := [d1, d2, d3] }
  | _ => none }
def NumRoomsWrongFalsely : Prop := numRoomsRow.holds Try.pinned (OpenSpec.ofChange numRoomsWrong)

/-- 'pacesetterlaw02.NumOver': WHATEVER THE INPUT: true; the input reads as it did. -/
def numOverSpec : ChangeSpec := { name := "numOver", fn := fun _ => fun
  | [d1, d2] => { results := [.lit (.bool true)], args := [d1, d2] }
  | _ => none }
def numOverRow : OpenClaim := { program := "ytghbaoliokkfhaa", sum := "e6af3f3085fabc08a2b13db0d4f2e5778b5ed14cbece2b7f8e2a734d7bc28c64", func := "pacesetter/pacesetterlaw02.NumOver", spec := "numOver", unfollowed := true, recurses := true, apart := false }
def NumOverSaid : Prop := numOverRow.holds Try.pinned (OpenSpec.ofChange numOverSpec)

/-- ITS FALSE NEIGHBOUR: 'it returns false'. Refute it at one input. -/
def numOverWrong : ChangeSpec := { name := "numOver", fn := fun _ => fun
  | [d1, d2] => { results := [.lit (.bool false)], args := [d1, d2] }
  | _ => none }
def NumOverWrongFalsely : Prop := numOverRow.holds Try.pinned (OpenSpec.ofChange numOverWrong)

/- THE SECOND FORM. 'bulk': how many values and letters a reading holds, each counted each time it is reached (what is shared counts as often as it is met; a slice's spare places count too). A statement '..UptoSaid' is the law's where the arguments, and the package variables that the reading takes, are together of bulk at most 1048576: NARROWER than '..Said'. Prove '..Said' where nothing that the law and all that it calls make is longer than what came in: it says more and counts as full. Else prove '..UptoSaid'. A law counts once. -/
mutual
def uptoBulk {H : Type} : DataW H → Nat
  | .lit (.string bytes) => bytes.length + 1
  | .lit _ => 1
  | .nil => 1
  | .ptr d => uptoBulk d + 1
  | .slice elems spare => uptoBulkAll elems + uptoBulkAll spare + 1
  | .agg parts => uptoBulkAll parts + 1
  | .iface _ d => uptoBulk d + 1
  | .map entries => uptoBulkEntries entries + 1
  | .held _ => 1
def uptoBulkAll {H : Type} : List (DataW H) → Nat
  | [] => 0
  | d :: r => uptoBulk d + uptoBulkAll r
def uptoBulkEntries {H : Type} : List (Lit × DataW H) → Nat
  | [] => 0
  | x :: r => uptoBulkEntry x + uptoBulkEntries r
def uptoBulkEntry {H : Type} : Lit × DataW H → Nat
  | (.string bytes, d) => bytes.length + uptoBulk d + 1
  | (_, d) => uptoBulk d + 1
 end
def uptoSmall : (H : Type) → List (DataW H) → Bool := fun _ ds => decide (uptoBulkAll ds ≤ 1048576)
def OpenSpec.upto (s : _root_.Go.ChangeSpec) : _root_.Go.OpenSpec := { _root_.Go.OpenSpec.ofChange s with cond := some uptoSmall }

/-- 'pacesetterlaw02.NumSums', WHERE WHAT IT READS IS OF BULK AT MOST 1048576: true; the input reads as it did. -/
def numSumsUptoRow : OpenClaim := { program := "ytghbaoliokkfhaa", sum := "e6af3f3085fabc08a2b13db0d4f2e5778b5ed14cbece2b7f8e2a734d7bc28c64", func := "pacesetter/pacesetterlaw02.NumSums", spec := "numSums", unfollowed := true, recurses := true, apart := false, narrowed := true }
def NumSumsUptoSaid : Prop := numSumsUptoRow.holds Try.pinned (OpenSpec.upto numSumsSpec)

/-- 'pacesetterlaw02.NumBudgets', WHERE WHAT IT READS IS OF BULK AT MOST 1048576: true; the input reads as it did. -/
def numBudgetsUptoRow : OpenClaim := { program := "ytghbaoliokkfhaa", sum := "e6af3f3085fabc08a2b13db0d4f2e5778b5ed14cbece2b7f8e2a734d7bc28c64", func := "pacesetter/pacesetterlaw02.NumBudgets", spec := "numBudgets", apart := false, narrowed := true }
def NumBudgetsUptoSaid : Prop := numBudgetsUptoRow.holds Try.pinned (OpenSpec.upto numBudgetsSpec)

/-- 'pacesetterlaw02.NumShares', WHERE WHAT IT READS IS OF BULK AT MOST 1048576: true; the input reads as it did. -/
def numSharesUptoRow : OpenClaim := { program := "ytghbaoliokkfhaa", sum := "e6af3f3085fabc08a2b13db0d4f2e5778b5ed14cbece2b7f8e2a734d7bc28c64", func := "pacesetter/pacesetterlaw02.NumShares", spec := "numShares", apart := false, narrowed := true }
def NumSharesUptoSaid : Prop := numSharesUptoRow.holds Try.pinned (OpenSpec.upto numSharesSpec)

/-- 'pacesetterlaw02.NumRounds', WHERE WHAT IT READS IS OF BULK AT MOST 1048576: true; the input reads as it did. -/
def numRoundsUptoRow : OpenClaim := { program := "ytghbaoliokkfhaa", sum := "e6af3f3085fabc08a2b13db0d4f2e5778b5ed14cbece2b7f8e2a734d7bc28c64", func := "pacesetter/pacesetterlaw02.NumRounds", spec := "numRounds", apart := false, narrowed := true }
def NumRoundsUptoSaid : Prop := numRoundsUptoRow.holds Try.pinned (OpenSpec.upto numRoundsSpec)

/-- 'pacesetterlaw02.NumSpares', WHERE WHAT IT READS IS OF BULK AT MOST 1048576: true; the input reads as it did. -/
def numSparesUptoRow : OpenClaim := { program := "ytghbaoliokkfhaa", sum := "e6af3f3085fabc08a2b13db0d4f2e5778b5ed14cbece2b7f8e2a734d7bc28c64", func := "pacesetter/pacesetterlaw02.NumSpares", spec := "numSpares", apart := false, narrowed := true }
def NumSparesUptoSaid : Prop := numSparesUptoRow.holds Try.pinned (OpenSpec.upto numSparesSpec)

/-- 'pacesetterlaw02.NumRooms', WHERE WHAT IT READS IS OF BULK AT MOST 1048576: true; the input reads as it did. -/
def numRoomsUptoRow : OpenClaim := { program := "ytghbaoliokkfhaa", sum := "e6af3f3085fabc08a2b13db0d4f2e5778b5ed14cbece2b7f8e2a734d7bc28c64", func := "pacesetter/pacesetterlaw02.NumRooms", spec := "numRooms", apart := false, narrowed := true }
def NumRoomsUptoSaid : Prop := numRoomsUptoRow.holds Try.pinned (OpenSpec.upto numRoomsSpec)

/-- 'pacesetterlaw02.NumOver', WHERE WHAT IT READS IS OF BULK AT MOST 1048576: true; the input reads as it did. -/
def numOverUptoRow : OpenClaim := { program := "ytghbaoliokkfhaa", sum := "e6af3f3085fabc08a2b13db0d4f2e5778b5ed14cbece2b7f8e2a734d7bc28c64", func := "pacesetter/pacesetterlaw02.NumOver", spec := "numOver", unfollowed := true, recurses := true, apart := false, narrowed := true }
def NumOverUptoSaid : Prop := numOverUptoRow.holds Try.pinned (OpenSpec.upto numOverSpec)

end Rows
end Go.Proofs.Ytghbaoliokkfhaa
