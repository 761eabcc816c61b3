/-
  The walk of the statement NumShares.
-/
import Derived.Test.YtghbaoliokkfhaaNumLives
namespace Go.Proofs.Ytghbaoliokkfhaa
open Go.RowKit

/-- The sum of the parts below m. -/
def psum (n : Int) (k m : Nat) : Int := (m : Int) * (cut n / (k : Int)) + min (m : Int) (cut n % (k : Int))
theorem psum_zero (n : Int) (k : Nat) (hk : 1 ≤ k) : psum n k 0 = 0 := by
  have := rem_bd (c := cut n) hk
  unfold psum; simp; omega
theorem psum_next (n : Int) (k m : Nat) : psum n k m + part n k m = psum n k (m + 1) := by
  unfold psum part
  have e : ((m + 1 : Nat) : Int) * (cut n / (k : Int)) = (m : Int) * (cut n / (k : Int)) + cut n / (k : Int) := by rw [Int.natCast_add, Int.add_mul]; simp
  rw [e]
  split <;> omega
theorem psum_all (n : Int) (k : Nat) (hk : 1 ≤ k) : psum n k k = cut n := by
  have h1 := rem_bd (c := cut n) hk
  have h2 := Int.mul_ediv_add_emod (cut n) (k : Int)
  unfold psum
  omega
theorem psum_bd (n : Int) (k m : Nat) (hk : 1 ≤ k) (hk2 : k ≤ 64) (hm : m ≤ k) : 0 ≤ psum n k m ∧ psum n k m ≤ 67109888 := by
  have h1 := rem_bd (c := cut n) hk
  have h2 := quo_bd (cut_bd n).1 (cut_bd n).2 hk
  have h3 := mul_bd (a := (m : Int)) (A := 64) ⟨by omega, by omega⟩ h2
  unfold psum
  omega
theorem part_bd (n : Int) (k i : Nat) (hk : 1 ≤ k) : 0 ≤ part n k i ∧ part n k i ≤ 1048577 := by
  have h2 := quo_bd (cut_bd n).1 (cut_bd n).2 hk
  unfold part
  split <;> omega
theorem part_falls (n : Int) (k i j : Nat) (h : i ≤ j) : part n k j ≤ part n k i := by unfold part; split <;> split <;> omega
theorem part_like (n : Int) (k i j : Nat) : part n k i - part n k j ≤ 1 := by unfold part; split <;> split <;> omega

set_option maxRecDepth 100000 in
set_option maxHeartbeats 1600000 in
theorem shares_walk (n p : Int) (w : World) :
    Calls Try.prog 5 #[.int .i64 n, .int .i64 p] w fun e w' => e = .returned (.bool true) ∧ Below w.heap.size w w' := by
  obtain ⟨k1, k2⟩ := prts_bd p
  have HS := Lib.hid (fun W => share_any n p W)
  have HR := Lib.hid (fun W => refShare_any n p W)
  generalize prts p = k at *
  have HA := Lib.hid (psum_all n k k1)
  go_enter Try.func5, Try.ntmps5
  go_wp2_with fail
  refine (lives_at _ (Below.refl _ _)).mono ?_
  rintro e w1 ⟨rfl, hb1⟩
  have B1 := Lib.hid hb1; clear hb1
  go_wp2_with fail
  refine (HS.out _).mono ?_
  rintro e w2 ⟨g, rfl, hr2, hg2, hb2⟩
  have R2 := Lib.hid hr2
  have B2 := Lib.hid (B1.out.trans (hb2.mono B1.out.size)); clear hb2 B1 hr2 hg2
  go_wp2_with fail
  refine (HR.out _).mono ?_
  rintro e w3 ⟨h, rfl, hr3, hg3, hb3⟩
  have Q3 := Lib.hid hr3
  have R3 := Lib.hid (R2.out.of_block (hb3.block _ R2.out.lt))
  have B3 := Lib.hid (B2.out.trans (hb3.mono B2.out.size)); clear hb3 hr3 hg3 R2 B2
  go_wp2_with fail
  refine (same_any k g h k k (part n k) w3 (by omega) (fun i hi => R3.out.cell hi) (fun i hi => Q3.out.cell hi)).mono ?_
  rintro e w4 ⟨rfl, hb4⟩
  have R4 := Lib.hid (R3.out.of_block (hb4.block _ R3.out.lt))
  have B4 := Lib.hid (B3.out.trans (hb4.mono B3.out.size)); clear hb4 R3 B3 Q3 HS HR
  go_wp2_with fail
  go_loopw [6, 7] (fun s i wr => ∃ m : Nat, m ≤ k ∧ i = .int .i64 m ∧ s = .int .i64 (psum n k m) ∧ ∃ d, wr = w4.drewN d) (fun _ i _ => k - (intOf i).toNat)
  case atStart => exact ⟨0, by omega, rfl, by rw [psum_zero n k k1], 0, rfl⟩
  case round =>
    obtain ⟨m, hm, rfl, rfl, d, rfl⟩ := hrel
    by_cases hlt : m < k
    · have HN := Lib.hid (psum_next n k m)
      obtain ⟨s1, s2⟩ := psum_bd n k m k1 k2 hm
      obtain ⟨x1, x2⟩ := part_bd n k m k1
      obtain ⟨y1, y2⟩ := part_bd n k 0 k1
      have z1 := part_like n k 0 m
      have e1 := R4.out.cell (i := m) hlt
      have e2 := R4.out.cell (i := 0) (by omega)
      unfold partV at e1 e2
      have i1 : (0 : Int) ≤ (m : Int) := by omega
      have i2 : (m : Int) < (k : Int) := by omega
      have i3 : 0 < k := by omega
      generalize psum n k m = s at *
      by_cases h0 : 0 < m
      · have e3 := R4.out.cell (i := m - 1) (by omega)
        unfold partV at e3
        have z2 := part_falls n k (m - 1) m (by omega)
        have z3 : decide (part n k (m - 1) < part n k m) = false := decide_eq_false (by omega)
        have z4 : decide (1 < part n k 0 - part n k m) = false := decide_eq_false (by omega)
        have i4 : 1 ≤ m := h0
        have i5 : (0 : Int) < (m : Int) := by omega
        go_wp2_with fail
        go_quiet (fail)
        go_wp2_with fail
        refine ⟨⟨m + 1, by omega, by go_num, by rw [HN.out], _, rfl⟩, by simp [intOf]; omega⟩
      · have z4 : decide (1 < part n k 0 - part n k m) = false := decide_eq_false (by omega)
        have i5 : decide ((0 : Int) < (m : Int)) = false := decide_eq_false (by omega)
        have i6 : decide (0 < m) = false := decide_eq_false (by omega)
        go_wp2_with fail
        go_quiet (fail)
        go_wp2_with fail
        refine ⟨⟨m + 1, by omega, by go_num, by rw [HN.out], _, rfl⟩, by simp [intOf]; omega⟩
    · obtain rfl : m = k := by omega
      rw [HA.out]
      go_wp2_with fail
      refine (cut_any n _).mono ?_
      rintro e w5 ⟨rfl, rfl⟩
      go_wp2_with fail
      go_ret
      exact ⟨rfl, below_drewN B4.out _⟩
end Go.Proofs.Ytghbaoliokkfhaa
