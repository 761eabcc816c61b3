/-
  The walk of the statement DiskNil.
-/
import Derived.Test.YtoapdkncddhgiaaDskLives
import Derived.Test.YtoapdkncddhgiaaDskNil
namespace Go.Proofs.Ytoapdkncddhgiaa
open Go.RowKit

set_option maxRecDepth 100000 in
set_option maxHeartbeats 1600000 in
theorem dnil_walk (n c : Nat) (A : Option Addr) (k : Int) (w : World) :
    Calls Try.prog 7 #[.slice A n c, .int .i64 k] w fun e w' => e = .returned (.bool true) ∧ Below w.heap.size w w' := by
  go_enter Try.func7, Try.ntmps7
  go_wp2_with fail
  (with_reducible refine (dlives_at _ (Below.refl _ _)).mono ?_)
  rintro e w1 ⟨rfl, hb1⟩
  have B1 := Lib.hid hb1; clear hb1
  go_wp2_with (first
    | ((with_reducible refine (nWrite_any _ _ _ _).mono ?_); rintro e w' ⟨rfl, rfl⟩)
    | ((with_reducible refine (nSync_any _).mono ?_); rintro e w' ⟨rfl, rfl⟩)
    | ((with_reducible refine (nCrash_any _ _).mono ?_); rintro e w' ⟨rfl, rfl⟩)
    | ((with_reducible refine (nCut_any _ _).mono ?_); rintro e w' ⟨rfl, rfl⟩)
    | ((with_reducible refine (nSwap_any _ _ _ _).mono ?_); rintro e w' ⟨rfl, rfl⟩)
    | ((with_reducible refine (nAll_any _).mono ?_); rintro e w' ⟨rfl, rfl⟩)
    | ((with_reducible refine (nLen_any _).mono ?_); rintro e w' ⟨rfl, rfl⟩)
    | ((with_reducible refine (nSafe_any _).mono ?_); rintro e w' ⟨rfl, rfl⟩)
    | ((with_reducible refine (nRoom_any _).mono ?_); rintro e w' ⟨rfl, rfl⟩))
  go_ret
  exact ⟨rfl, B1.out⟩
end Go.Proofs.Ytoapdkncddhgiaa
