/-
  The document's examples hold: 'lives' of the statements of layer 2; and each call told from a base world on.
-/
import Derived.Test.YtghbaoliokkfhaaNumC
namespace Go.Proofs.Ytghbaoliokkfhaa
open Go.RowKit

theorem pct_ex0 : pct 25 10 false = 2 := by decide
theorem pct_ex1 : pct 25 10 true = 3 := by decide
theorem cut_ex : cut (-1) = 0 := by decide
theorem prts_ex : prts 3 = 3 := by decide
def ex (i : Nat) : Int := part 7 3 i

set_option maxHeartbeats 400000 in
theorem lives_any (w : World) :
    Calls Try.prog 10 #[] w fun e w' => e = .returned (.bool true) ∧ Below w.heap.size w w' := by
  have hs := share_any 7 3 w
  rw [prts_ex] at hs
  have HS := Lib.hid hs; clear hs
  go_enter Try.func10, Try.ntmps10
  go_wp2_with fail
  refine HS.out.mono ?_
  rintro e w1 ⟨g, rfl, hr, hg, hb⟩
  have R := Lib.hid hr; clear hr
  have B := Lib.hid hb; clear hb HS
  go_wp2_with fail
  refine (percent_any 25 10 false w1).mono ?_
  rintro e w2 ⟨rfl, rfl⟩
  rw [pct_ex0]
  go_wp2_with fail
  refine (percent_any 25 10 true w1).mono ?_
  rintro e w2 ⟨rfl, rfl⟩
  rw [pct_ex1]
  go_wp2_with fail
  have B2 := Lib.hid (B.out.alloc B.out.size (.cells #[.int .i64 3, .int .i64 2, .int .i64 2] 3))
  refine (same_any 3 g w1.heap.size 3 3 ex _ (by omega) ?h1 ?h2).mono ?_
  case h1 => exact fun i hi => (R.out.alloc _).cell hi
  case h2 =>
    intro i hi
    have hx : i = 0 ∨ i = 1 ∨ i = 2 := by omega
    rcases hx with rfl | rfl | rfl <;> simp [ex, go_sem] <;> decide
  rintro e w2 ⟨rfl, hb2⟩
  have B3 := Lib.hid (B2.out.trans (hb2.mono (by have := B2.out.size; simpa using this))); clear hb2
  go_wp2_with fail
  refine (cut_any (-1) w2).mono ?_
  rintro e w3 ⟨rfl, rfl⟩
  rw [cut_ex]
  go_wp2_with fail
  go_ret
  exact ⟨rfl, B3.out⟩
theorem lives_at {w0 : World} (W : World) (hb : Below w0.heap.size w0 W) :
    Calls Try.prog 10 #[] W fun e w' => e = .returned (.bool true) ∧ Below w0.heap.size w0 w' :=
  (lives_any W).mono fun _ _ ⟨he, h2⟩ => ⟨he, hb.trans (h2.mono hb.size)⟩
theorem add_at {w0 : World} (a b : Int) (W : World) (hb : Below w0.heap.size w0 W) :
    Calls Try.prog 11 #[.int .i64 a, .int .i64 b] W fun e w' => e = .returned (pair (bothN a b (a + b)) (bothE a b (a + b))) ∧ Below w0.heap.size w0 w' :=
  (add_any a b W).mono fun _ _ ⟨he, h2⟩ => ⟨he, hb.trans (h2.mono hb.size)⟩
theorem mul_at {w0 : World} (a b : Int) (W : World) (hb : Below w0.heap.size w0 W) :
    Calls Try.prog 13 #[.int .i64 a, .int .i64 b] W fun e w' => e = .returned (pair (bothN a b (a * b)) (bothE a b (a * b))) ∧ Below w0.heap.size w0 w' :=
  (mul_any a b W).mono fun _ _ ⟨he, h2⟩ => ⟨he, hb.trans (h2.mono hb.size)⟩
end Go.Proofs.Ytghbaoliokkfhaa
