/-
  The walk of the statement NumSums.
-/
import Derived.Test.YtghbaoliokkfhaaNumLives
namespace Go.Proofs.Ytghbaoliokkfhaa
open Go.RowKit

set_option maxHeartbeats 400000 in
theorem sums_walk (a b : Int) (w : World) :
    Calls Try.prog 3 #[.int .i64 a, .int .i64 b] w fun e w' => e = .returned (.bool true) ∧ Below w.heap.size w w' := by
  go_enter Try.func3, Try.ntmps3
  go_wp2_with fail
  refine (lives_at _ (Below.refl _ _)).mono ?_
  rintro e w1 ⟨rfl, hb1⟩
  have B1 := Lib.hid hb1; clear hb1
  go_wp2_with fail
  refine (add_at a b _ B1.out).mono ?_
  rintro e w2 ⟨rfl, hb2⟩
  have B2 := Lib.hid hb2; clear hb2 B1
  unfold pair
  go_wp2_with fail
  refine (refAdd_any a b _).mono ?_
  rintro e w3 ⟨rfl, rfl⟩
  unfold pair
  go_wp2_with fail
  refine (mul_at a b _ B2.out).mono ?_
  rintro e w3 ⟨rfl, hb3⟩
  have B3 := Lib.hid hb3; clear hb3 B2
  unfold pair
  go_wp2_with fail
  refine (refMul_any a b _).mono ?_
  rintro e w4 ⟨rfl, rfl⟩
  unfold pair
  go_wp2_with fail
  refine (cut_any a _).mono ?_
  rintro e w4 ⟨rfl, rfl⟩
  go_wp2_with fail
  refine (refCut_any a _).mono ?_
  rintro e w4 ⟨rfl, rfl⟩
  go_wp2_with fail
  go_ret
  exact ⟨rfl, B3.out⟩
end Go.Proofs.Ytghbaoliokkfhaa
