/-
  What is asked of package phase; the document's package of layer 11. Written by wip/tools/gen/ph.py. No condition.
-/
import Derived.Test.YtbimacagfobdbaaDoorPhMath
import Derived.Test.YtbimacagfobdbaaDoorInts
import Derived.Test.YtbimacagfobdbaaDoorSameI
import Derived.Lib.MinMax
namespace Go.Proofs.YtbimacagfobdbaaDoor
open Go.RowKit
set_option linter.unusedSimpArgs false
set_option linter.unusedVariables false

def i64P (n : Int) : Prop := -9223372036854775808 ≤ n ∧ n ≤ 9223372036854775807
/-- What Next and Walk tell. -/
def PhPost (w : World) (a : Value) (b : Value) (e : Ending) (w' : World) : Prop := e = .returned (.tuple #[a, b]) ∧ Below w.heap.size w w'
def PhRet (w : World) (a : Value) (e : Ending) (w' : World) : Prop := e = .returned a ∧ Below w.heap.size w w'
def PhList (w : World) (l : List Int) (e : Ending) (w' : World) : Prop := ∃ A c, e = .returned (.slice A l.length c) ∧ SlI w' A l.length c l ∧ Below w.heap.size w w'
theorem rphnext_any (p e : Int) (w : World) : Calls Tryd.prog 10 #[.int .i64 p, .int .i64 e] w fun x w' => x = .returned (.tuple #[.int .i64 (Ph.next p e), .bool (Ph.did p e)]) ∧ w' = w := by
  by_cases hd : Ph.to_ p e = -1
  · rw [(Ph.next_no hd).1, (Ph.next_no hd).2]
    by_cases he : 0 ≤ e ∧ e ≤ 8
    · have hk : e = 0 ∨ e = 1 ∨ e = 2 ∨ e = 3 ∨ e = 4 ∨ e = 5 ∨ e = 6 ∨ e = 7 ∨ e = 8 := by omega
      clear he
      rcases hk with rfl | rfl | rfl | rfl | rfl | rfl | rfl | rfl | rfl
      · have q0 : (p == 0) = false := by rw [beq_eq_false_iff_ne]; rintro rfl; revert hd; decide
        have q3 : (p == 3) = false := by rw [beq_eq_false_iff_ne]; rintro rfl; revert hd; decide
        have q5 : (p == 5) = false := by rw [beq_eq_false_iff_ne]; rintro rfl; revert hd; decide
        clear hd
        go_enter Tryd.func10, Tryd.ntmps10
        go_wp2_with fail
        go_ret2
        exact ⟨rfl, rfl⟩
      · have q1 : (p == 1) = false := by rw [beq_eq_false_iff_ne]; rintro rfl; revert hd; decide
        clear hd
        go_enter Tryd.func10, Tryd.ntmps10
        go_wp2_with fail
        go_ret2
        exact ⟨rfl, rfl⟩
      · have q2 : (p == 2) = false := by rw [beq_eq_false_iff_ne]; rintro rfl; revert hd; decide
        clear hd
        go_enter Tryd.func10, Tryd.ntmps10
        go_wp2_with fail
        go_ret2
        exact ⟨rfl, rfl⟩
      · have q1 : (p == 1) = false := by rw [beq_eq_false_iff_ne]; rintro rfl; revert hd; decide
        clear hd
        go_enter Tryd.func10, Tryd.ntmps10
        go_wp2_with fail
        go_ret2
        exact ⟨rfl, rfl⟩
      · have q1 : (p == 1) = false := by rw [beq_eq_false_iff_ne]; rintro rfl; revert hd; decide
        clear hd
        go_enter Tryd.func10, Tryd.ntmps10
        go_wp2_with fail
        go_ret2
        exact ⟨rfl, rfl⟩
      · have q1 : (p == 1) = false := by rw [beq_eq_false_iff_ne]; rintro rfl; revert hd; decide
        clear hd
        go_enter Tryd.func10, Tryd.ntmps10
        go_wp2_with fail
        go_ret2
        exact ⟨rfl, rfl⟩
      · have q1 : (p == 1) = false := by rw [beq_eq_false_iff_ne]; rintro rfl; revert hd; decide
        have q2 : (p == 2) = false := by rw [beq_eq_false_iff_ne]; rintro rfl; revert hd; decide
        clear hd
        go_enter Tryd.func10, Tryd.ntmps10
        go_wp2_with fail
        go_ret2
        exact ⟨rfl, rfl⟩
      · have q1 : (p == 1) = false := by rw [beq_eq_false_iff_ne]; rintro rfl; revert hd; decide
        clear hd
        go_enter Tryd.func10, Tryd.ntmps10
        go_wp2_with fail
        go_ret2
        exact ⟨rfl, rfl⟩
      · have q4 : (p == 4) = false := by rw [beq_eq_false_iff_ne]; rintro rfl; revert hd; decide
        clear hd
        go_enter Tryd.func10, Tryd.ntmps10
        go_wp2_with fail
        go_ret2
        exact ⟨rfl, rfl⟩
    · have r0 : (e == 0) = false := by rw [beq_eq_false_iff_ne]; omega
      have r1 : (e == 1) = false := by rw [beq_eq_false_iff_ne]; omega
      have r2 : (e == 2) = false := by rw [beq_eq_false_iff_ne]; omega
      have r3 : (e == 3) = false := by rw [beq_eq_false_iff_ne]; omega
      have r4 : (e == 4) = false := by rw [beq_eq_false_iff_ne]; omega
      have r5 : (e == 5) = false := by rw [beq_eq_false_iff_ne]; omega
      have r6 : (e == 6) = false := by rw [beq_eq_false_iff_ne]; omega
      have r7 : (e == 7) = false := by rw [beq_eq_false_iff_ne]; omega
      have r8 : (e == 8) = false := by rw [beq_eq_false_iff_ne]; omega
      clear hd he
      go_enter Tryd.func10, Tryd.ntmps10
      go_wp2_with fail
      go_ret2
      exact ⟨rfl, rfl⟩
  · have hp := Ph.pairs hd
    clear hd
    rcases hp with ⟨rfl, rfl⟩ | ⟨rfl, rfl⟩ | ⟨rfl, rfl⟩ | ⟨rfl, rfl⟩ | ⟨rfl, rfl⟩ | ⟨rfl, rfl⟩ | ⟨rfl, rfl⟩ | ⟨rfl, rfl⟩ | ⟨rfl, rfl⟩ | ⟨rfl, rfl⟩ | ⟨rfl, rfl⟩ | ⟨rfl, rfl⟩
    all_goals
      go_enter Tryd.func10, Tryd.ntmps10
      go_wp2_with fail
      go_ret2
      exact ⟨rfl, rfl⟩
end Go.Proofs.YtbimacagfobdbaaDoor
