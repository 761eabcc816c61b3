/-
  No cell of these rows narrows 'for every input' (looked for: loops, veiled, ifaces, maps, wideKeys, modest, calm, conditions, laid).
  DERIVED. THE GIVEN ROWS OF THIS SEAT. 6 by the template 'for every input the law returns true; each argument reads behind the call as it read before'; 0 by the template 'total and deterministic' (their statements: YtgljepjflpijiaaTotals.lean).
  GIVEN WITH THE SEED: the statements are not yours to turn. If you find one false, say at which input.
  Laid BY PROGRAM, IN A SANDBOX (cutbox-rows.mjs): the forced cells as the released guide's own fill.sh prints them over the translation 3f56e2d5186648fa… (all of the seat's roots in one cut). By AI agents, Wed Nov 11 2026. No macro, syntax, notation, axiom, sorry.
-/
import Derived.Test.YtgljepjflpijiaaChecked
import GoSem.Claim
import GoSem.ClaimJoined
import GoSem.ClaimMapViews
import Derived.JoinedTies
import Derived.KernelRfl
namespace Go.Proofs.Ytgljepjflpijiaa
/- THE CELL 'sum', in the pinned program and in every row, IS THE sha256 OF THE DUMP (.gsa) THAT YtgljepjflpijiaaProg.lean LOADS. Nothing in Lean hashes anything: it is a label: what it is worth is what the hold of that sum in a sandbox is worth. -/
noncomputable def Try.pinned : Pinned := { name := "ytgljepjflpijiaa", sum := "3f56e2d5186648fa070af38dd309a0e60d8c91daabb69eab4ffc81c42f08f849", checked := Try.checked }
namespace Rows
def none {H : Type} : Left H := { results := [], args := [] }

/-- 'pacesetterlaw16.WorkerPlays': WHATEVER THE INPUT: true; the input reads as it did. -/
def workerPlaysSpec : ChangeSpec := { name := "workerPlays", fn := fun _ => fun
  | [d1, d2, d3] => { results := [.lit (.bool true)], args := [d1, d2, d3] }
  | _ => none }
def workerPlaysRow : OpenClaim := { program := "ytgljepjflpijiaa", sum := "3f56e2d5186648fa070af38dd309a0e60d8c91daabb69eab4ffc81c42f08f849", func := "pacesetter/pacesetterlaw16.WorkerPlays", spec := "workerPlays", unfollowed := true, recurses := true, apart := false }
def WorkerPlaysSaid : Prop := workerPlaysRow.holds Try.pinned (OpenSpec.ofChange workerPlaysSpec)

/-- ITS FALSE NEIGHBOUR: 'it returns false'. Refute it at one input. -/
def workerPlaysWrong : ChangeSpec := { name := "workerPlays", fn := fun _ => fun
  | [d1, d2, d3] => { results := [.lit (.bool false)], args := [d1, d2, d3] }
  | _ => none }
def WorkerPlaysWrongFalsely : Prop := workerPlaysRow.holds Try.pinned (OpenSpec.ofChange workerPlaysWrong)

/-- 'pacesetterlaw16.WorkerFence': WHATEVER THE INPUT: true; the input reads as it did. -/
def workerFenceSpec : ChangeSpec := { name := "workerFence", fn := fun _ => fun
  | [d] => { results := [.lit (.bool true)], args := [d] }
  | _ => none }
def workerFenceRow : OpenClaim := { program := "ytgljepjflpijiaa", sum := "3f56e2d5186648fa070af38dd309a0e60d8c91daabb69eab4ffc81c42f08f849", func := "pacesetter/pacesetterlaw16.WorkerFence", spec := "workerFence", unfollowed := true, recurses := true, apart := false }
def WorkerFenceSaid : Prop := workerFenceRow.holds Try.pinned (OpenSpec.ofChange workerFenceSpec)

/-- ITS FALSE NEIGHBOUR: 'it returns false'. Refute it at one input. -/
def workerFenceWrong : ChangeSpec := { name := "workerFence", fn := fun _ => fun
  | [d] => { results := [.lit (.bool false)], args := [d] }
  | _ => none }
def WorkerFenceWrongFalsely : Prop := workerFenceRow.holds Try.pinned (OpenSpec.ofChange workerFenceWrong)

/-- 'pacesetterlaw16.WorkerRows': WHATEVER THE INPUT: true; the input reads as it did. -/
def workerRowsSpec : ChangeSpec := { name := "workerRows", fn := fun _ => fun
  | [d1, d2] => { results := [.lit (.bool true)], args := [d1, d2] }
  | _ => none }
def workerRowsRow : OpenClaim := { program := "ytgljepjflpijiaa", sum := "3f56e2d5186648fa070af38dd309a0e60d8c91daabb69eab4ffc81c42f08f849", func := "pacesetter/pacesetterlaw16.WorkerRows", spec := "workerRows", unfollowed := true, recurses := true, apart := false }
def WorkerRowsSaid : Prop := workerRowsRow.holds Try.pinned (OpenSpec.ofChange workerRowsSpec)

/-- ITS FALSE NEIGHBOUR: 'it returns false'. Refute it at one input. -/
def workerRowsWrong : ChangeSpec := { name := "workerRows", fn := fun _ => fun
  | [d1, d2] => { results := [.lit (.bool false)], args := [d1, d2] }
  | _ => none }
def WorkerRowsWrongFalsely : Prop := workerRowsRow.holds Try.pinned (OpenSpec.ofChange workerRowsWrong)

/-- 'pacesetterlaw16.WorkerApart': WHATEVER THE INPUT: true; the input reads as it did. -/
def workerApartSpec : ChangeSpec := { name := "workerApart", fn := fun _ => fun
  | [d1, d2] => { results := [.lit (.bool true)], args := [d1, d2] }
  | _ => none }
def workerApartRow : OpenClaim := { program := "ytgljepjflpijiaa", sum := "3f56e2d5186648fa070af38dd309a0e60d8c91daabb69eab4ffc81c42f08f849", func := "pacesetter/pacesetterlaw16.WorkerApart", spec := "workerApart", unfollowed := true, recurses := true, apart := false }
def WorkerApartSaid : Prop := workerApartRow.holds Try.pinned (OpenSpec.ofChange workerApartSpec)

/-- ITS FALSE NEIGHBOUR: 'it returns false'. Refute it at one input. -/
def workerApartWrong : ChangeSpec := { name := "workerApart", fn := fun _ => fun
  | [d1, d2] => { results := [.lit (.bool false)], args := [d1, d2] }
  | _ => none }
def WorkerApartWrongFalsely : Prop := workerApartRow.holds Try.pinned (OpenSpec.ofChange workerApartWrong)

/-- 'pacesetterlaw16.WorkerFalls': WHATEVER THE INPUT: true; the input reads as it did. -/
def workerFallsSpec : ChangeSpec := { name := "workerFalls", fn := fun _ => fun
  | [d] => { results := [.lit (.bool true)], args := [d] }
  | _ => none }
def workerFallsRow : OpenClaim := { program := "ytgljepjflpijiaa", sum := "3f56e2d5186648fa070af38dd309a0e60d8c91daabb69eab4ffc81c42f08f849", func := "pacesetter/pacesetterlaw16.WorkerFalls", spec := "workerFalls", unfollowed := true, recurses := true, apart := false }
def WorkerFallsSaid : Prop := workerFallsRow.holds Try.pinned (OpenSpec.ofChange workerFallsSpec)

/-- ITS FALSE NEIGHBOUR: 'it returns false'. Refute it at one input. -/
def workerFallsWrong : ChangeSpec := { name := "workerFalls", fn := fun _ => fun
  | [d] => { results := [.lit (.bool false)], args := [d] }
  | _ => none }
def WorkerFallsWrongFalsely : Prop := workerFallsRow.holds Try.pinned (OpenSpec.ofChange workerFallsWrong)

/-- 'pacesetterlaw16.WorkerNil': WHATEVER THE INPUT: true; the input reads as it did. -/
def workerNilSpec : ChangeSpec := { name := "workerNil", fn := fun _ => fun
  | [d1, d2] => { results := [.lit (.bool true)], args := [d1, d2] }
  | _ => none }
def workerNilRow : OpenClaim := { program := "ytgljepjflpijiaa", sum := "3f56e2d5186648fa070af38dd309a0e60d8c91daabb69eab4ffc81c42f08f849", func := "pacesetter/pacesetterlaw16.WorkerNil", spec := "workerNil", unfollowed := true, recurses := true, apart := false }
def WorkerNilSaid : Prop := workerNilRow.holds Try.pinned (OpenSpec.ofChange workerNilSpec)

/-- ITS FALSE NEIGHBOUR: 'it returns false'. Refute it at one input. -/
def workerNilWrong : ChangeSpec := { name := "workerNil", fn := fun _ => fun
  | [d1, d2] => { results := [.lit (.bool false)], args := [d1, d2] }
  | _ => none }
def WorkerNilWrongFalsely : Prop := workerNilRow.holds Try.pinned (OpenSpec.ofChange workerNilWrong)

/- THE SECOND FORM. 'bulk': how many values and letters a reading holds, each counted each time it is reached (what is shared counts as often as it is met; a slice's spare places count too). A statement '..UptoSaid' is the law's where the arguments, and the package variables that the reading takes, are together of bulk at most 1048576: NARROWER than '..Said'. Prove '..Said' where nothing that the law and all that it calls make is longer than what came in: it says more and counts as full. Else prove '..UptoSaid'. A law counts once. -/
mutual
def uptoBulk {H : Type} : DataW H → Nat
  | .lit (.string bytes) => bytes.length + 1
  | .lit _ => 1
  | .nil => 1
  | .ptr d => uptoBulk d + 1
  | .slice elems spare => uptoBulkAll elems + uptoBulkAll spare + 1
  | .agg parts => uptoBulkAll parts + 1
  | .iface _ d => uptoBulk d + 1
  | .map entries => uptoBulkEntries entries + 1
  | .held _ => 1
def uptoBulkAll {H : Type} : List (DataW H) → Nat
  | [] => 0
  | d :: r => uptoBulk d + uptoBulkAll r
def uptoBulkEntries {H : Type} : List (Lit × DataW H) → Nat
  | [] => 0
  | x :: r => uptoBulkEntry x + uptoBulkEntries r
def uptoBulkEntry {H : Type} : Lit × DataW H → Nat
  | (.string bytes, d) => bytes.length + uptoBulk d + 1
  | (_, d) => uptoBulk d + 1
 end
def uptoSmall : (H : Type) → List (DataW H) → Bool := fun _ ds => decide (uptoBulkAll ds ≤ 1048576)
def OpenSpec.upto (s : _root_.Go.ChangeSpec) : _root_.Go.OpenSpec := { _root_.Go.OpenSpec.ofChange s with cond := some uptoSmall }

/-- 'pacesetterlaw16.WorkerPlays', WHERE WHAT IT READS IS OF BULK AT MOST 1048576: true; the input reads as it did. -/
def workerPlaysUptoRow : OpenClaim := { program := "ytgljepjflpijiaa", sum := "3f56e2d5186648fa070af38dd309a0e60d8c91daabb69eab4ffc81c42f08f849", func := "pacesetter/pacesetterlaw16.WorkerPlays", spec := "workerPlays", unfollowed := true, recurses := true, apart := false, narrowed := true }
def WorkerPlaysUptoSaid : Prop := workerPlaysUptoRow.holds Try.pinned (OpenSpec.upto workerPlaysSpec)

/-- 'pacesetterlaw16.WorkerFence', WHERE WHAT IT READS IS OF BULK AT MOST 1048576: true; the input reads as it did. -/
def workerFenceUptoRow : OpenClaim := { program := "ytgljepjflpijiaa", sum := "3f56e2d5186648fa070af38dd309a0e60d8c91daabb69eab4ffc81c42f08f849", func := "pacesetter/pacesetterlaw16.WorkerFence", spec := "workerFence", unfollowed := true, recurses := true, apart := false, narrowed := true }
def WorkerFenceUptoSaid : Prop := workerFenceUptoRow.holds Try.pinned (OpenSpec.upto workerFenceSpec)

/-- 'pacesetterlaw16.WorkerRows', WHERE WHAT IT READS IS OF BULK AT MOST 1048576: true; the input reads as it did. -/
def workerRowsUptoRow : OpenClaim := { program := "ytgljepjflpijiaa", sum := "3f56e2d5186648fa070af38dd309a0e60d8c91daabb69eab4ffc81c42f08f849", func := "pacesetter/pacesetterlaw16.WorkerRows", spec := "workerRows", unfollowed := true, recurses := true, apart := false, narrowed := true }
def WorkerRowsUptoSaid : Prop := workerRowsUptoRow.holds Try.pinned (OpenSpec.upto workerRowsSpec)

/-- 'pacesetterlaw16.WorkerApart', WHERE WHAT IT READS IS OF BULK AT MOST 1048576: true; the input reads as it did. -/
def workerApartUptoRow : OpenClaim := { program := "ytgljepjflpijiaa", sum := "3f56e2d5186648fa070af38dd309a0e60d8c91daabb69eab4ffc81c42f08f849", func := "pacesetter/pacesetterlaw16.WorkerApart", spec := "workerApart", unfollowed := true, recurses := true, apart := false, narrowed := true }
def WorkerApartUptoSaid : Prop := workerApartUptoRow.holds Try.pinned (OpenSpec.upto workerApartSpec)

/-- 'pacesetterlaw16.WorkerFalls', WHERE WHAT IT READS IS OF BULK AT MOST 1048576: true; the input reads as it did. -/
def workerFallsUptoRow : OpenClaim := { program := "ytgljepjflpijiaa", sum := "3f56e2d5186648fa070af38dd309a0e60d8c91daabb69eab4ffc81c42f08f849", func := "pacesetter/pacesetterlaw16.WorkerFalls", spec := "workerFalls", unfollowed := true, recurses := true, apart := false, narrowed := true }
def WorkerFallsUptoSaid : Prop := workerFallsUptoRow.holds Try.pinned (OpenSpec.upto workerFallsSpec)

/-- 'pacesetterlaw16.WorkerNil', WHERE WHAT IT READS IS OF BULK AT MOST 1048576: true; the input reads as it did. -/
def workerNilUptoRow : OpenClaim := { program := "ytgljepjflpijiaa", sum := "3f56e2d5186648fa070af38dd309a0e60d8c91daabb69eab4ffc81c42f08f849", func := "pacesetter/pacesetterlaw16.WorkerNil", spec := "workerNil", unfollowed := true, recurses := true, apart := false, narrowed := true }
def WorkerNilUptoSaid : Prop := workerNilUptoRow.holds Try.pinned (OpenSpec.upto workerNilSpec)

end Rows
end Go.Proofs.Ytgljepjflpijiaa
