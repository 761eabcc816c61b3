/-
  Layer 15: what is left of a number that is seen without its sign; a slot that may be, made of any, purely (parted from XSuGood in round 15). No condition.
-/
import Derived.Test.YtgljepjflpijiaaSuMath
import Derived.IntWalk
import Derived.WalkKit
namespace Go.Proofs.Ytgljepjflpijiaa
open Go.RowKit
namespace Su
/-- What is left of a number that is seen without its sign. -/
def um (x n : Int) : Int := x % 18446744073709551616 % n
theorem um_bd (x : Int) {n : Int} (h : 0 < n) : 0 ≤ um x n ∧ um x n < n := ⟨Int.emod_nonneg _ (by omega), Int.emod_lt_of_pos _ h⟩
theorem um_is (x : Int) {n : Int} (h : 0 < n) (hn : n ≤ 100) : wrap64 ((IntKind.u64.wrap x).tmod n) = um x n := by
  rw [IntKind.wrap_u64, Int.tmod_eq_emod_of_nonneg (Int.emod_nonneg _ (by omega))]
  have := um_bd x h
  unfold um at *
  exact IntWalk.wrap64_in _ ⟨by omega, by omega⟩
def goodOf (s : S) : S := ⟨um s.st 5, if um s.st 5 = 0 then 0 else 1 + um s.v 3, um s.wa 4, um s.sq 9⟩
theorem goodOf_right (s : S) : Right (goodOf s) := by
  have h1 := um_bd s.st (n := 5) (by omega)
  have h2 := um_bd s.v (n := 3) (by omega)
  have h3 := um_bd s.wa (n := 4) (by omega)
  have h4 := um_bd s.sq (n := 9) (by omega)
  unfold Right goodOf
  simp only
  split <;> omega
end Su
end Go.Proofs.Ytgljepjflpijiaa
