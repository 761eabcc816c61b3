/-
  Bytes as texts: sizes, one behind the other, cut, the same. No program is named.
-/
import Derived.Test.YtbimacagfobdbaaDoorBase
import Derived.Laws.BytesArg
import Derived.Laws.Concat
namespace Go.Proofs.YtbimacagfobdbaaDoor
open Go.RowKit

/-- Bytes as a text. -/
def txt (l : List Nat) : ByteArray := strOfNums (l.map fun x => ((x : Nat) : Int))
theorem txt_list (l : List Nat) : (txt l).data.toList = l.map fun x => UInt8.ofNat x := by
  unfold txt; rw [strOfNums_data, List.map_map]; rfl
theorem txt_inj {a b : List Nat} (ha : ∀ x ∈ a, x < 256) (hb : ∀ x ∈ b, x < 256) (h : (txt a).data.toList = (txt b).data.toList) : a = b := by
  rw [txt_list, txt_list] at h
  have h2 : (a.map fun x => UInt8.ofNat x).map UInt8.toNat = (b.map fun x => UInt8.ofNat x).map UInt8.toNat := by rw [h]
  rw [List.map_map, List.map_map] at h2
  have e : ∀ l : List Nat, (∀ x ∈ l, x < 256) → l.map (UInt8.toNat ∘ fun x => UInt8.ofNat x) = l := by
    intro l hl
    conv => rhs; rw [← List.map_id l]
    apply List.map_congr_left
    intro x hx
    have := hl x hx
    simp; omega
  rwa [e a ha, e b hb] at h2
theorem bytes_toList (s : ByteArray) : s.toList = s.data.toList := ByteArray.toList_eq s
theorem txt_same (a : List Nat) : ((txt a).toList == (txt a).toList) = true := by simp
theorem txt_eq {a b : List Nat} (ha : ∀ x ∈ a, x < 256) (hb : ∀ x ∈ b, x < 256) : ((txt a).toList == (txt b).toList) = decide (a = b) := by
  by_cases h : a = b
  · subst h; simp
  · rw [decide_eq_false h, beq_eq_false_iff_ne]
    intro e
    rw [bytes_toList, bytes_toList] at e
    exact h (txt_inj ha hb e)
theorem txt_size (l : List Nat) : (txt l).size = l.length := by unfold txt; rw [strOfNums_size, List.length_map]
theorem txt_ext {s t : ByteArray} (h : s.data.toList = t.data.toList) : s = t := ByteArray.ext (Array.toList_inj.1 h)
theorem txt_append (a b : List Nat) : txt a ++ txt b = txt (a ++ b) := by
  apply txt_ext
  rw [ByteArray.data_append, Array.toList_append, txt_list, txt_list, txt_list, List.map_append]
theorem txt_cut (l : List Nat) (k : Nat) : (txt l).extract 0 k = txt (l.take k) := by
  apply txt_ext
  rw [ByteArray.data_extract, Array.toList_extract, txt_list, txt_list]
  simp [List.extract, List.map_take]
theorem txt_nil : txt [] = ⟨#[]⟩ := rfl
theorem txt_le (l : List Nat) (h : l.length ≤ 1000000000) : ((txt l).size : Int) ≤ 1000000000 := by rw [txt_size]; omega
end Go.Proofs.YtbimacagfobdbaaDoor
