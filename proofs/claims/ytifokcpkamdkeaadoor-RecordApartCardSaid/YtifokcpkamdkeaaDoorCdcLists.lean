/-
  Numbers read one behind the other, as plain lists. No program is named.
-/
import Derived.Test.YtifokcpkamdkeaaDoorCdcWrite
namespace Go.Proofs.YtifokcpkamdkeaaDoor
open Go.RowKit Cdc

theorem num_len (s : St) : (num s).l.length ≤ s.l.length := by
  unfold num lost
  split
  · split
    · simp
    · simp
  · omega
theorem cnt_len (s : St) : (cnt s).l.length ≤ s.l.length := by
  unfold cnt lost
  split
  · exact num_len s
  · simp
theorem nums_len (s : St) (k : Nat) : (numsAt s k).l.length ≤ s.l.length := by
  induction k with
  | zero => exact Nat.le_refl _
  | succ k ih => exact Nat.le_trans (num_len _) ih
def nI (l : List Nat) : List Int := l.map fun x => ((x : Nat) : Int)
theorem nI_length (l : List Nat) : (nI l).length = l.length := by simp [nI]
theorem nI_snoc (l : List Nat) (x : Nat) : nI (l ++ [x]) = nI l ++ [(x : Int)] := by simp [nI]
end Go.Proofs.YtifokcpkamdkeaaDoor
