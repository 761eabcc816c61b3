/-
  The walk of the statement CrcJoins.
-/
import Derived.Test.YtlandgoifaleaaaCrcBase
import Derived.Deep.RegionWith
import Derived.BigRegion
namespace Go.Proofs.Ytlandgoifaleaaa
open Go.RowKit

theorem pick_at (at_ : Int) (m : Nat) (hm : m ≤ 100000) : ∃ k : Nat, wrap64 ((IntKind.u64.wrap at_).tmod ((m : Int) + 1)) = (k : Int) ∧ k ≤ m := by
  rw [IntKind.wrap_u64]
  have h0 : 0 ≤ at_ % 18446744073709551616 := Int.emod_nonneg _ (by omega)
  generalize at_ % 18446744073709551616 = x at h0
  rw [Int.tmod_eq_emod_of_nonneg h0]
  have h1 := Int.emod_nonneg x (b := (m : Int) + 1) (by omega)
  have h2 := Int.emod_lt_of_pos x (b := (m : Int) + 1) (by omega)
  generalize x % ((m : Int) + 1) = y at h1 h2
  refine ⟨y.toNat, ?_, by omega⟩
  unfold wrap64
  omega

set_option maxHeartbeats 4000000 in
theorem joins_walk (A : Option Addr) (n c : Nat) (l : List Nat) (at_ : Int) (w : World) (h : Sl w A n c l) (hat : (Lit.int .i64 at_).wf = true) :
    Calls Try.prog 5 #[.slice A n c, .int .i64 at_] w fun e w' => e = .returned (.bool true) ∧ Below w.heap.size w w' := by
  have hn := h.cap
  have hm := h.max
  have H := Lib.hid h; clear h
  have ha : -9223372036854775808 ≤ at_ ∧ at_ ≤ 9223372036854775807 := by simpa [Lit.wf, IntKind.min, IntKind.max, IntKind.signed, IntKind.bits] using hat
  obtain ⟨ha1, ha2⟩ := ha
  clear hat
  unfold maxLen at hm
  go_enter Try.func5, Try.ntmps5
  go_wp2_with fail
  refine (lives_at _ (Below.refl _ _)).mono ?_
  rintro e w1 ⟨rfl, hb1⟩
  go_wp2_with fail
  refine (few_any n c A _ (by omega) (by unfold maxLen; omega)).mono ?_
  rintro e w2 ⟨rfl, rfl⟩
  have HF := Lib.hid (H.out.few); clear H
  have hk : min n 300 ≤ 300 := Nat.min_le_right _ _
  have hk2 : min n 300 ≤ c := by omega
  generalize min n 300 = m at *
  generalize l.take 300 = L at *
  go_wp2_with fail
  obtain ⟨k, hke, hkm⟩ := pick_at at_ m (by omega)
  rw [hke]
  clear hke
  generalize (IntKind.u64.wrap at_).tmod ((m : Int) + 1) = q1
  generalize IntKind.u64.wrap at_ = q2
  have hE : Crc.more (Crc.sum (L.take k)) (L.drop k) = Crc.sum L := by
    unfold Crc.sum
    rw [Crc.more_more (fun x hx => HF.out.rd.1 x (List.mem_of_mem_take hx)), List.take_append_drop]
  have hE0 : Crc.more (Crc.sum L) [] = Crc.sum L := Crc.more_nil (Crc.sum_lt _)
  have S1 := Lib.hid (HF.out.take hkm)
  have L0 : Hid (L.length ≤ 100000) := by show _ ≤ _; rw [← HF.out.len]; omega
  have L1 : Hid ((L.take k).length ≤ 100000) := by show _ ≤ _; rw [List.length_take]; omega
  have L2 : Hid ((L.drop k).length ≤ 100000) := by show _ ≤ _; rw [List.length_drop]; have := L0.out; omega
  by_cases hck : c = k
  · subst hck
    obtain rfl : m = c := by omega
    have S2 : Hid (Sl w A 0 0 []) := ⟨Rd.empty _ _ _, rfl, Nat.le_refl _, Nat.zero_le _, fun _ => rfl⟩
    clear hE S1 L1 L2
    go_region_with (first
      | (go_at_call 11; (with_reducible refine (sum_at _ HF.out L0.out ?_).mono ?_); (first | assumption | (refine Below.drew ?_; assumption)); rintro e w' ⟨rfl, hb⟩)
      | (go_at_call 13; (with_reducible refine (more_at _ _ (Crc.sum_lt _) S2.out (Nat.zero_le _) ?_).mono ?_); (first | assumption | (refine Below.drew ?_; assumption)); rintro e w' ⟨rfl, hb⟩)
      | (go_at_call 13; (with_reducible refine (more_at _ _ (Crc.sum_lt _) (Sl.none_ w) (Nat.zero_le _) ?_).mono ?_); (first | assumption | (refine Below.drew ?_; assumption)); rintro e w' ⟨rfl, hb⟩))
    all_goals (go_wp2_with fail; go_ret; exact ⟨rfl, by assumption⟩)
  · have S2 := Lib.hid (HF.out.drop hkm hck)
    go_region_with (first
      | (go_at_call 11; (with_reducible refine (sum_at _ S1.out L1.out ?_).mono ?_); (first | assumption | (refine Below.drew ?_; assumption)); rintro e w' ⟨rfl, hb⟩)
      | (go_at_call 11; (with_reducible refine (sum_at _ HF.out L0.out ?_).mono ?_); (first | assumption | (refine Below.drew ?_; assumption)); rintro e w' ⟨rfl, hb⟩)
      | (go_at_call 13; (with_reducible refine (more_at _ _ (Crc.sum_lt _) S2.out L2.out ?_).mono ?_); (first | assumption | (refine Below.drew ?_; assumption)); rintro e w' ⟨rfl, hb⟩)
      | (go_at_call 13; (with_reducible refine (more_at _ _ (Crc.sum_lt _) (Sl.none_ w) (Nat.zero_le _) ?_).mono ?_); (first | assumption | (refine Below.drew ?_; assumption)); rintro e w' ⟨rfl, hb⟩))
    all_goals (go_wp2_with fail; go_ret; exact ⟨rfl, by assumption⟩)
end Go.Proofs.Ytlandgoifaleaaa
