/-
  The walk of the statement NumRounds.
-/
import Derived.Test.YtghbaoliokkfhaaNumLives
namespace Go.Proofs.Ytghbaoliokkfhaa
open Go.RowKit

theorem pct_down_up (p n : Int) : pct p n false ≤ pct p n true := by unfold pct; simp; omega
theorem pct_one (p n : Int) : pct p n true - pct p n false ≤ 1 := by unfold pct; simp; omega
theorem pct_nonneg (p n : Int) (u : Bool) : 0 ≤ pct p n u := by
  have h := mul_bd (pc_bd p) (cut_bd n)
  unfold pct
  cases u <;> simp <;> omega
theorem pct_le (p n : Int) (u : Bool) : pct p n u ≤ cut n := by
  have h := mul_bd (pc_bd p) (cut_bd n)
  have h1 : pc p * cut n ≤ 100 * cut n := Int.mul_le_mul_of_nonneg_right (pc_bd p).2 (cut_bd n).1
  unfold pct
  cases u <;> simp <;> omega
theorem pct_mono (p q n : Int) (h : p ≤ q) : pct p n true ≤ pct q n true := by
  have h1 : pc p * cut n ≤ pc q * cut n := Int.mul_le_mul_of_nonneg_right (by unfold pc; omega) (cut_bd n).1
  unfold pct
  simp
  omega
theorem pct_zero (n : Int) : pct 0 n true = 0 := by unfold pct; rw [show pc 0 = 0 from by decide]; simp
theorem pct_all (n : Int) : pct 100 n false = cut n := by unfold pct; rw [show pc 100 = 100 from by decide]; simp

set_option maxHeartbeats 800000 in
theorem rounds_walk (p q n : Int) (w : World) :
    Calls Try.prog 6 #[.int .i64 p, .int .i64 q, .int .i64 n] w fun e w' => e = .returned (.bool true) ∧ Below w.heap.size w w' := by
  have d1 := pct_down_up p n
  have d2 := pct_one p n
  have d3 := pct_nonneg p n false
  have d4 := pct_le p n true
  have d5 := pct_mono (min p q) (max p q) n (by omega)
  have d6 := (cut_bd n).2
  have d7 := (cut_bd n).1
  go_enter Try.func6, Try.ntmps6
  go_wp2_with fail
  refine (lives_at _ (Below.refl _ _)).mono ?_
  rintro e w1 ⟨rfl, hb1⟩
  have B1 := Lib.hid hb1; clear hb1
  go_wp2_with fail
  refine (percent_any p n false _).mono ?_
  rintro e w3 ⟨rfl, rfl⟩
  go_wp2_with fail
  refine (percent_any p n true _).mono ?_
  rintro e w3 ⟨rfl, rfl⟩
  go_wp2_with fail
  refine (percent_any (min p q) n true _).mono ?_
  rintro e w3 ⟨rfl, rfl⟩
  go_wp2_with fail
  refine (percent_any (max p q) n true _).mono ?_
  rintro e w3 ⟨rfl, rfl⟩
  go_wp2_with fail
  refine (cut_any n _).mono ?_
  rintro e w3 ⟨rfl, rfl⟩
  go_wp2_with fail
  refine (percent_any 0 n true _).mono ?_
  rintro e w3 ⟨rfl, rfl⟩
  rw [pct_zero]
  go_wp2_with fail
  refine (percent_any 100 n false _).mono ?_
  rintro e w3 ⟨rfl, rfl⟩
  rw [pct_all]
  go_wp2_with fail
  refine (cut_any n _).mono ?_
  rintro e w3 ⟨rfl, rfl⟩
  go_wp2_with fail
  go_ret
  exact ⟨rfl, B1.out⟩
end Go.Proofs.Ytghbaoliokkfhaa
