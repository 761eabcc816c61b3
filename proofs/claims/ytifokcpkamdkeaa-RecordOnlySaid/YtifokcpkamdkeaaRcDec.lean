/-
  What is read of bytes is within bounds; when it is whole. No condition.
-/
import Derived.Test.YtifokcpkamdkeaaRcC
namespace Go.Proofs.Ytifokcpkamdkeaa
open Go.RowKit Cdc
namespace Rc
theorem numsV_small (s : St) : ∀ k, ∀ x ∈ numsV s k, x < 4611686018427387904
  | 0, x, h => by cases h
  | k + 1, x, h => by
    rcases List.mem_append.1 (show x ∈ numsV s k ++ [numV (numsAt s k)] from h) with h | h
    · exact numsV_small s k x h
    · rw [List.mem_singleton] at h; subst h; exact numV_lt _
theorem nI_i64 {l : List Nat} (h : ∀ x ∈ l, x < 4611686018427387904) : ∀ x ∈ nI l, Spc.i64 x := by
  intro x hx
  unfold nI at hx
  obtain ⟨y, hy, rfl⟩ := List.mem_map.1 hx
  have := h y hy
  unfold Spc.i64; omega
theorem getD_i64 {l : List Int} (h : ∀ x ∈ l, Spc.i64 x) (j : Nat) : Spc.i64 (l.getD j 0) := by
  by_cases hj : j < l.length
  · rw [getD_at hj]; exact h _ (List.getElem_mem _)
  · have : l.getD j 0 = 0 := by simp [List.getD, List.getElem?_eq_none (show l.length ≤ j by omega)]
    rw [this]; unfold Spc.i64; omega
theorem listV_small (s : St) : ∀ x ∈ listV s, x < 4611686018427387904 := by
  intro x hx
  unfold listV at hx
  split at hx
  · exact numsV_small _ _ x hx
  · cases hx
theorem of_in {l : List Int} (h : ∀ x ∈ l, Spc.i64 x) : Spc.In (Spc.of l) := by
  intro n hn
  have k := getD_i64 h
  simp only [Spc.flds, Spc.of, List.mem_cons, List.not_mem_nil, or_false] at hn
  rcases hn with rfl | rfl | rfl | rfl | rfl | rfl | rfl | rfl | rfl | rfl | rfl | rfl <;> exact k _
theorem zero_in : Spc.In Spc.zero := by
  intro x hx
  simp [Spc.flds, Spc.zero] at hx
  unfold Spc.i64; omega
theorem textV_len (s : St) : (textV s).length ≤ 64 := by
  unfold textV tkV
  split
  · split
    · rw [List.length_take]; have := cntV_le s; omega
    · simp
  · simp
theorem dec_in (l : List Nat) : In (dec l) := by
  have hv := nI_i64 (numsV_small ⟨l, 0⟩ 5)
  have k := getD_i64 hv
  refine ⟨?_, ?_, ?_⟩
  · intro x hx
    simp only [nums, dec, List.mem_cons, List.not_mem_nil, or_false] at hx
    rcases hx with rfl | rfl | rfl | rfl | rfl <;> exact k _
  · show (txt (textV (k1 l))).size ≤ _
    rw [txt_size]
    have := textV_len (k1 l)
    unfold maxLen; omega
  · show Spc.In (s3 l)
    unfold s3
    split
    · split
      · exact of_in (nI_i64 (listV_small _))
      · exact zero_in
    · exact zero_in
theorem whole_end {l : List Nat} (h : whole l) : endE (k3 l) = 0 := by
  have := (dec_bytes h.1).2
  rw [h.2] at this
  rw [this]; rfl
end Rc
theorem rc_okay_text {s : St} (h : Okay s) : Okay (Cdc.text s) := h.cnt.tk _
theorem rc_okay_list {s : St} (h : Okay s) : Okay (Cdc.list s) := h.cnt.numsAt _
theorem text_less (s : St) : (Cdc.text s).l.length ≤ s.l.length := by
  unfold Cdc.text tk
  split
  · split
    · rw [List.length_drop]; have := cnt_len s; show _ - _ ≤ _; omega
    · simp [lost]
  · exact cnt_len s
end Go.Proofs.Ytifokcpkamdkeaa
