/-
  Bytes as texts: sizes, one behind the other, cut.
-/
import Derived.Test.YtoapdkncddhgiaaBytes
import Derived.Laws.Concat
namespace Go.Proofs.Ytoapdkncddhgiaa
open Go.RowKit

theorem txt_size (l : List Nat) : (txt l).size = l.length := by unfold txt; rw [strOfNums_size, List.length_map]
theorem txt_ext {s t : ByteArray} (h : s.data.toList = t.data.toList) : s = t := ByteArray.ext (Array.toList_inj.1 h)
theorem txt_append (a b : List Nat) : txt a ++ txt b = txt (a ++ b) := by
  apply txt_ext
  rw [ByteArray.data_append, Array.toList_append, txt_list, txt_list, txt_list, List.map_append]
theorem txt_cut (l : List Nat) (k : Nat) : (txt l).extract 0 k = txt (l.take k) := by
  apply txt_ext
  rw [ByteArray.data_extract, Array.toList_extract, txt_list, txt_list]
  simp [List.extract, List.map_take]
theorem txt_nil : txt [] = ⟨#[]⟩ := rfl
theorem txt_le (l : List Nat) (h : l.length ≤ 1000000000) : ((txt l).size : Int) ≤ 1000000000 := by rw [txt_size]; omega
end Go.Proofs.Ytoapdkncddhgiaa
