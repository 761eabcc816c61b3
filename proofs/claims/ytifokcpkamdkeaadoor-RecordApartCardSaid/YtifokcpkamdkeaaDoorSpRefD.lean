/-
  The document's package of layer 7: a number's digits.
-/
import Derived.Test.YtifokcpkamdkeaaDoorSpRef1
namespace Go.Proofs.YtifokcpkamdkeaaDoor
open Go.RowKit

theorem ten_cut (k : Nat) (hk : k < 10) : (⟨#[48, 49, 50, 51, 52, 53, 54, 55, 56, 57]⟩ : ByteArray).extract k (k + 1) = txt [48 + k] := by
  rcases k with _ | _ | _ | _ | _ | _ | _ | _ | _ | _ | k <;> first | rfl | omega
theorem ten_run (k : Nat) (hk : k < 10) (W : World) : (Instr.slice 9 (.string ⟨#[48, 49, 50, 51, 52, 53, 54, 55, 56, 57]⟩) (some (.int .i64 (k : Int))) (some (.int .i64 ((k : Int) + 1))) none).run Tryd.prog W = .ok (.string (txt [48 + k])) W := by
  rw [run_slice_string (P := Tryd.prog) W 9 ⟨#[48, 49, 50, 51, 52, 53, 54, 55, 56, 57]⟩ .i64 .i64 (k : Int) ((k : Int) + 1) Tryd.underlying9 (by omega) (by omega) (by show (k : Int) + 1 ≤ 10; omega), Int.toNat_natCast, show ((k : Int) + 1).toNat = k + 1 by omega, ten_cut k hk]
set_option maxHeartbeats 800000 in
theorem rdg_any (n : Int) (h0 : 0 ≤ n) (hn : n ≤ 9223372036854775807) (w : World) : Calls Tryd.prog 33 #[.int .i64 n] w fun e w' => e = .returned (.string (txt (Spc.dg n.natAbs))) ∧ w' = w := by
  go_enter Tryd.func33, Tryd.ntmps33
  go_wp2_with fail
  have HL : Hid ((Spc.dg n.natAbs).length ≤ 19) := Spc.dg_len n.natAbs 18 (by omega)
  go_loopw [0, 3] (fun i s wr => ∃ (m : Nat) (q : List Nat), i = .int .i64 (m : Int) ∧ (m : Int) ≤ 9223372036854775807 ∧ s = .string (txt q) ∧ Spc.dg n.natAbs = Spc.dg m ++ q ∧ wr = w) (fun i _ _ => (intOf i).toNat)
  case atStart => exact ⟨n.natAbs, [], by rw [show ((n.natAbs : Nat) : Int) = n by omega], by omega, rfl, by simp, rfl⟩
  case round =>
    obtain ⟨m, q, rfl, hm, rfl, hd, rfl⟩ := hrel
    have HD := Lib.hid hd
    have hq : q.length ≤ 19 := by have := HL.out; rw [hd, List.length_append] at this; omega
    obtain ⟨k, hk⟩ : ∃ k, k = m % 10 := ⟨_, rfl⟩
    obtain ⟨d, hdd⟩ : ∃ d, d = m / 10 := ⟨_, rfl⟩
    have hk10 : k < 10 := by omega
    have hx := ten_run k hk10
    have hz := txt_size q
    have hz1 := txt_size [48 + k]
    have hap := txt_append [48 + k] q
    have hmod : (m : Int) % 10 = (k : Int) := by omega
    have hdiv : (m : Int) / 10 = (d : Int) := by omega
    have HK := Lib.hid hk
    have HDD := Lib.hid hdd
    clear hd hk hdd
    by_cases h10 : m < 10
    · have hz0 : d = 0 := by have := HDD.out; omega
      subst hz0
      go_wp2_with fail
      go_ret
      refine ⟨?_, rfl⟩
      have e : Spc.dg n.natAbs = (48 + k) :: q := by rw [HD.out, Spc.dg_one h10, HK.out, Nat.mod_eq_of_lt h10]; rfl
      rw [e]; rfl
    · go_wp2_with fail
      exact ⟨⟨d, (48 + k) :: q, rfl, by have := HDD.out; omega, rfl, by rw [HD.out, Spc.dg_more h10, HK.out, HDD.out]; simp, trivial⟩, by simp [intOf]; have := HDD.out; omega⟩
theorem min_text : (⟨#[45, 57, 50, 50, 51, 51, 55, 50, 48, 51, 54, 56, 53, 52, 55, 55, 53, 56, 48, 56]⟩ : ByteArray) = txt (Spc.digs (-9223372036854775808)) := by
  have : Spc.digs (-9223372036854775808) = [45, 57, 50, 50, 51, 51, 55, 50, 48, 51, 54, 56, 53, 52, 55, 55, 53, 56, 48, 56] := by
    unfold Spc.digs
    rw [if_pos (by omega), show (-9223372036854775808 : Int).natAbs = 9223372036854775808 from rfl]
    iterate 18 rw [Spc.dg_more (by omega)]
    rw [Spc.dg_one (by omega)]
    rfl
  rw [this]; rfl
theorem sdigs_any (n : Int) (hn : Spc.i64 n) (w : World) : Calls Tryd.prog 33 #[.int .i64 n] w fun e w' => e = .returned (.string (txt (Spc.digs n))) ∧ w' = w := by
  unfold Spc.i64 at hn
  by_cases h0 : 0 ≤ n
  · have e : Spc.digs n = Spc.dg n.natAbs := by unfold Spc.digs; rw [if_neg (by omega)]
    rw [e]
    exact rdg_any n h0 hn.2 w
  · by_cases hm : n = -9223372036854775808
    · subst hm
      rw [← min_text]
      go_enter Tryd.func33, Tryd.ntmps33
      go_wp2_with fail
      go_ret
      exact ⟨rfl, rfl⟩
    · obtain ⟨q, hq⟩ : ∃ q, q = Spc.dg (-n).natAbs := ⟨_, rfl⟩
      have e : Spc.digs n = [45] ++ q := by rw [hq]; unfold Spc.digs; rw [if_pos (by omega), Int.natAbs_neg]; rfl
      have C := Lib.hid (rdg_any (-n) (by omega) (by omega) w)
      have hql : q.length ≤ 1000 := by rw [hq]; have := Spc.dg_len (-n).natAbs 18 (by omega); omega
      rw [← hq] at C
      have hz := txt_size q
      have HE := Lib.hid e
      clear e hq
      go_enter Tryd.func33, Tryd.ntmps33
      go_wp2_with fail
      refine C.out.mono ?_
      rintro e w1 ⟨rfl, rfl⟩
      go_wp2_with fail
      go_ret
      exact ⟨by rw [HE.out, ← txt_append]; rfl, rfl⟩
/-! A spec as a value. -/
end Go.Proofs.YtifokcpkamdkeaaDoor
