/-
  Bytes as texts: sizes, one behind the other, cut.
-/
import Derived.Test.YtdamnamhbjfnlaaBytes
import Derived.Laws.Concat
import Derived.Lib.ConvBytes
namespace Go.Proofs.Ytdamnamhbjfnlaa
open Go.RowKit

theorem txt_size (l : List Nat) : (txt l).size = l.length := by unfold txt; rw [strOfNums_size, List.length_map]
theorem txt_ext {s t : ByteArray} (h : s.data.toList = t.data.toList) : s = t := ByteArray.ext (Array.toList_inj.1 h)
theorem txt_append (a b : List Nat) : txt a ++ txt b = txt (a ++ b) := by
  apply txt_ext
  rw [ByteArray.data_append, Array.toList_append, txt_list, txt_list, txt_list, List.map_append]
theorem txt_cut (l : List Nat) (k : Nat) : (txt l).extract 0 k = txt (l.take k) := by
  apply txt_ext
  rw [ByteArray.data_extract, Array.toList_extract, txt_list, txt_list]
  simp [List.extract, List.map_take]
theorem txt_nil : txt [] = ⟨#[]⟩ := rfl
theorem txt_le (l : List Nat) (h : l.length ≤ 1000000000) : ((txt l).size : Int) ≤ 1000000000 := by rw [txt_size]; omega
/-- '[]byte(s)' of a text of bytes. -/
theorem conv_txt (l : List Nat) (hb : ∀ x ∈ l, x < 256) (w : World) (hl : l.length ≤ 1000000000) :
    ∃ A c W', (convert 9 33 (.string (txt l))).run Try.prog w = .ok (.slice A l.length c) W' ∧ Sl W' A l.length c l ∧ Below w.heap.size w W' := by
  have hz := txt_size l
  have h := Lib.run_convert_string_bytes (P := Try.prog) w 9 33 5 (txt l) Try.underlying9 Try.underlying33 Try.underlying5
  rw [hz] at h
  have hs : w.heap.size < (Lib.bytesWorld w 5 (txt l)).heap.size := by rw [Lib.bytesWorld_size]; omega
  refine ⟨some ⟨w.heap.size, 0, none⟩, _, _, h, ⟨⟨hb, fun _ => ⟨w.heap.size, 0, rfl, hs, fun j hj => ?_⟩⟩, rfl, ?_, ?_, fun h => by cases h⟩, rfl, rfl, rfl, Nat.le_of_lt hs, fun k hk => Lib.bytesWorld_at_old _ _ _ _ hk⟩
  · have hjt : j < (txt l).data.toList.length := by rw [txt_list, List.length_map]; exact hj
    have e : ((txt l).data.toList[j]'hjt).toNat = l.getD j 0 := by
      have h1 : (txt l).data.toList[j]? = (l.map fun x => UInt8.ofNat x)[j]? := by rw [txt_list]
      rw [List.getElem?_eq_getElem hjt, List.getElem?_map, List.getElem?_eq_getElem hj, Option.map_some] at h1
      injection h1 with h1
      rw [h1, getD_at hj]
      have := hb _ (List.getElem_mem hj)
      simp; omega
    rw [Nat.zero_add, Lib.bytesWorld_cell _ _ _ _ (by rw [hz]; exact hj)]
    rw [← e, getD_at hjt]
  · have := grownCap_ge w (txt l).size 0 5; rw [hz] at this; exact this
  · have := grownCap_le_maxLen w (txt l).size 0 5 (by rw [hz]; unfold maxLen; omega); rw [hz] at this; exact this
end Go.Proofs.Ytdamnamhbjfnlaa
