/-
  The document's package of layer 10: Name. No condition.
-/
import Derived.Test.YtifokcpkamdkeaaDoorRcGood
import Derived.Test.YtifokcpkamdkeaaDoorSpRef7
import Derived.BigQuiet
namespace Go.Proofs.YtifokcpkamdkeaaDoor
open Go.RowKit Cdc
set_option linter.unusedSimpArgs false

set_option maxRecDepth 100000 in
set_option maxHeartbeats 1600000 in
theorem rcname_any (k : Int) (hk : Spc.i64 k) (w : World) : Calls Tryd.prog 14 #[.int .i64 k] w (APos w (.string (Rc.nameB k))) := by
  have B0 := Lib.hid (Below.refl w.heap.size w)
  unfold Spc.i64 at hk
  have B1 := Lib.hid ((Below.refl w.heap.size w).alloc (Nat.le_refl _) (.cells #[.string ⟨#[108, 101, 97, 100]⟩, .string ⟨#[112, 117, 98, 108, 105, 115, 104]⟩, .string ⟨#[98, 101, 103, 105, 110]⟩, .string ⟨#[109, 111, 118, 101]⟩, .string ⟨#[105, 110, 116, 101, 110, 116]⟩, .string ⟨#[97, 99, 107]⟩, .string ⟨#[115, 116, 101, 112]⟩] 9))
  by_cases h0 : k < 1
  · have E : Hid (Rc.nameB k = ⟨#[]⟩) := by
      show _ = _
      unfold Rc.nameB
      rw [if_neg (by omega), if_neg (by omega), if_neg (by omega), if_neg (by omega), if_neg (by omega), if_neg (by omega), if_neg (by omega)]
    rw [E.out]
    go_enter Tryd.func14, Tryd.ntmps14
    go_wp2_with fail
    go_ret
    exact ⟨rfl, B0.out⟩
  by_cases h7 : 7 < k
  · have E : Hid (Rc.nameB k = ⟨#[]⟩) := by
      show _ = _
      unfold Rc.nameB
      rw [if_neg (by omega), if_neg (by omega), if_neg (by omega), if_neg (by omega), if_neg (by omega), if_neg (by omega), if_neg (by omega)]
    rw [E.out]
    go_enter Tryd.func14, Tryd.ntmps14
    go_wp2_with fail
    go_ret
    exact ⟨rfl, B0.out⟩
  have hkk : k = 1 ∨ k = 2 ∨ k = 3 ∨ k = 4 ∨ k = 5 ∨ k = 6 ∨ k = 7 := by omega
  rcases hkk with rfl | rfl | rfl | rfl | rfl | rfl | rfl
  all_goals
    go_enter Tryd.func14, Tryd.ntmps14
    go_wp2_with fail
    go_ret
    exact ⟨rfl, B1.out⟩
end Go.Proofs.YtifokcpkamdkeaaDoor
