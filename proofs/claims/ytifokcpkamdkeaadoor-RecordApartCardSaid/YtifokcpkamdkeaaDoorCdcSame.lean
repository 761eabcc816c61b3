/-
  Same: two rows of numbers that read alike. What is written is read as it was: plain lists.
-/
import Derived.Test.YtifokcpkamdkeaaDoorCdcLists
namespace Go.Proofs.YtifokcpkamdkeaaDoor
open Go.RowKit Cdc

theorem cnt_digs {n : Nat} (h : n ≤ 64) (r : List Nat) : cnt ⟨digs n ++ r, 0⟩ = ⟨r, 0⟩ ∧ cntV ⟨digs n ++ r, 0⟩ = n := by
  have h1 := num_digs (n := n) (by omega) r
  unfold cnt cntV
  rw [h1.2, if_pos h, if_pos h, h1.1]
  exact ⟨rfl, rfl⟩
theorem text_back (s : ByteArray) (h : s.size ≤ 64) (r : List Nat) : text ⟨digs s.size ++ (sb s ++ r), 0⟩ = ⟨r, 0⟩ ∧ textV ⟨digs s.size ++ (sb s ++ r), 0⟩ = sb s := by
  have h1 := cnt_digs h (sb s ++ r)
  have hl : s.size ≤ (sb s ++ r).length := by rw [List.length_append, sb_length]; omega
  unfold text textV
  rw [h1.1, h1.2]
  unfold tk tkV
  simp only [if_pos, if_pos hl]
  have e := sb_length s
  rw [← e]
  exact ⟨by rw [List.drop_left], List.take_left⟩
theorem fl_nat (ns : List Int) : fl ns = (ns.map Int.toNat).flatMap digs := by
  unfold fl; rw [List.flatMap_map]
theorem nI_nat {ns : List Int} (h : allOk ns = true) : nI (ns.map Int.toNat) = ns := by
  unfold nI
  rw [List.map_map]
  conv => rhs; rw [← List.map_id ns]
  apply List.map_congr_left
  intro x hx
  obtain ⟨j, hj, rfl⟩ := List.mem_iff_getElem.1 hx
  obtain ⟨m, hm, _⟩ := allOk_at h hj
  rw [getD_at hj] at hm
  simp [hm]
theorem nat_lt {ns : List Int} (h : allOk ns = true) : ∀ n ∈ ns.map Int.toNat, n < 4611686018427387904 := by
  intro n hn
  obtain ⟨x, hx, rfl⟩ := List.mem_map.1 hn
  obtain ⟨j, hj, rfl⟩ := List.mem_iff_getElem.1 hx
  obtain ⟨m, hm, hlt⟩ := allOk_at h hj
  rw [getD_at hj] at hm
  rw [hm]; simpa using hlt
theorem nums_fl {ns : List Int} (h : allOk ns = true) (r : List Nat) (k : Nat) (hk : k ≤ ns.length) : numsAt ⟨fl ns ++ r, 0⟩ k = ⟨fl (ns.drop k) ++ r, 0⟩ ∧ numsV ⟨fl ns ++ r, 0⟩ k = (ns.take k).map Int.toNat := by
  have := numsAt_all (ns.map Int.toNat) (nat_lt h) r k (by simpa using hk)
  rw [fl_nat, fl_nat, List.map_drop, List.map_take]
  exact this
theorem list_back {ns : List Int} (h : allOk ns = true) (hk : ns.length ≤ 64) (r : List Nat) : list ⟨digs ns.length ++ (fl ns ++ r), 0⟩ = ⟨r, 0⟩ ∧ nI (listV ⟨digs ns.length ++ (fl ns ++ r), 0⟩) = ns := by
  have h1 := cnt_digs hk (fl ns ++ r)
  have h2 := nums_fl h r ns.length (Nat.le_refl _)
  have h3 : list ⟨digs ns.length ++ (fl ns ++ r), 0⟩ = ⟨r, 0⟩ := by
    unfold list
    rw [h1.1, h1.2, h2.1, List.drop_length]
    simp [fl]
  refine ⟨h3, ?_⟩
  unfold listV
  rw [h3, if_pos rfl, h1.1, h1.2, h2.2, List.take_length, nI_nat h]
end Go.Proofs.YtifokcpkamdkeaaDoor
