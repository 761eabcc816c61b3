/-
  The walk of the statement NumBudgets.
-/
import Derived.Test.YtghbaoliokkfhaaNumLives
import Derived.Deep.RegionWith
import Derived.BigRegion
namespace Go.Proofs.Ytghbaoliokkfhaa
open Go.RowKit

theorem same_of {P : Program} {f : FuncId} {args : Array Value} {w : World} {v : Value} (h : Calls P f args w fun e w' => e = .returned v ∧ w = w') : Calls P f args w fun e w' => e = .returned v ∧ w' = w :=
  h.mono fun _ _ ⟨he, hw⟩ => ⟨he, hw.symm⟩

set_option maxRecDepth 100000 in
set_option maxHeartbeats 1600000 in
theorem budgets_walk (a b c : Int) (up : Bool) (w : World) :
    Calls Try.prog 4 #[.agg #[.int .i64 a, .int .i64 b, .int .i64 c], .bool up] w fun e w' => e = .returned (.bool true) ∧ Below w.heap.size w w' := by
  go_enter Try.func4, Try.ntmps4
  go_wp2_with fail
  have R0 := Lib.hid (World.rowIs_alloc w #[.int .i64 a, .int .i64 b, .int .i64 c] 28 (fun i => #[Value.int .i64 a, .int .i64 b, .int .i64 c].getD i undef) (fun i hi => by simp at hi; simp [hi]))
  have B0 := Lib.hid ((Below.refl w.heap.size w).alloc (Nat.le_refl _) (.cells #[.int .i64 a, .int .i64 b, .int .i64 c] 28))
  generalize w.alloc (.cells #[.int .i64 a, .int .i64 b, .int .i64 c] 28) = w0 at *
  refine (lives_any w0).mono ?_
  rintro e w1 ⟨rfl, hb1⟩
  have hlt := R0.out.lt
  have hr := R0.out.of_block (hb1.block _ hlt)
  have h0 := hr.cell (i := 0) (by simp)
  have h1 := hr.cell (i := 1) (by simp)
  have h2 := hr.cell (i := 2) (by simp)
  simp at h0 h1 h2
  have B1 := Lib.hid (B0.out.trans (hb1.mono B0.out.size)); clear hb1 hr hlt R0 B0
  go_wp2_with fail
  go_quiet (first
    | (go_at_call 17; exact Calls.quiet_of_same (same_of (percent_any _ _ _ _)))
    | (go_at_call 18; exact Calls.quiet_of_same (same_of (refPercent_any _ _ _ _)))
    | (go_at_call 19; exact Calls.quiet_of_same (same_of (need_any _ _ _ _)))
    | (go_at_call 20; exact Calls.quiet_of_same (same_of (refNeed_any _ _ _ _)))
    | (go_at_call 21; exact Calls.quiet_of_same (same_of (room_any _ _ _ _)))
    | (go_at_call 22; exact Calls.quiet_of_same (same_of (refRoom_any _ _ _ _)))
    | (go_at_call 23; exact Calls.quiet_of_same (same_of (spare_any _ _ _ _)))
    | (go_at_call 24; exact Calls.quiet_of_same (same_of (refSpare_any _ _ _ _))))
  go_wp2_with fail
  go_ret
  exact ⟨rfl, below_drewN B1.out _⟩
end Go.Proofs.Ytghbaoliokkfhaa
