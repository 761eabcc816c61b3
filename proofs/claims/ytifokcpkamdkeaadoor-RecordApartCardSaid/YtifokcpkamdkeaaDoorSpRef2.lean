/-
  The document's package of layer 7: which steps may be.
-/
import Derived.Test.YtifokcpkamdkeaaDoorSpRef1
namespace Go.Proofs.YtifokcpkamdkeaaDoor
open Go.RowKit

def APos (w : World) (x : Value) (e : Ending) (w' : World) : Prop := e = .returned x ∧ Below w.heap.size w w'
set_option maxHeartbeats 800000 in
theorem rstep0 (v d u n g a b c f wi x k : Int) (w : World) : Calls Tryd.prog 52 #[.agg #[.int .i64 v, .int .i64 d, .int .i64 u, .int .i64 n, .int .i64 g, .int .i64 a, .int .i64 b, .int .i64 c, .int .i64 f, .int .i64 wi, .int .i64 x, .int .i64 k], .int .i64 0] w (APos w (.bool (Spc.st ⟨v, d, u, n, g, a, b, c, f, wi, x, k⟩ 0))) := by
  have hb := (Below.refl w.heap.size w).alloc (Nat.le_refl _) (.cells #[.int .i64 v, .int .i64 d, .int .i64 u, .int .i64 n, .int .i64 g, .int .i64 a, .int .i64 b, .int .i64 c, .int .i64 f, .int .i64 wi, .int .i64 x, .int .i64 k] 24)
  have B1 := Lib.hid hb
  clear hb
  by_cases hg : g = 0
  · subst hg
    have e1 : Spc.st ⟨v, d, u, n, 0, a, b, c, f, wi, x, k⟩ 0 = Spc.inn a 1 100 := rfl
    rw [e1]
    clear e1
    go_enter Tryd.func52, Tryd.ntmps52
    go_wp2_with fail
    refine (rin_any a 1 100 _).mono ?_
    rintro e w1 ⟨rfl, rfl⟩
    generalize Spc.inn a 1 100 = z at *
    go_wp2_with fail
    go_ret
    exact ⟨rfl, B1.out⟩
  · have e1 : Spc.st ⟨v, d, u, n, g, a, b, c, f, wi, x, k⟩ 0 = decide (a = 0) := by unfold Spc.st; rw [if_pos hg]; rfl
    rw [e1]
    have hgn : (g != 0) = true := by rw [bne_iff_ne]; exact hg
    clear e1
    go_enter Tryd.func52, Tryd.ntmps52
    go_wp2_with fail
    go_ret
    exact ⟨ret_bool (by by_cases hx : a = 0 <;> simp [hx]), B1.out⟩
set_option maxHeartbeats 800000 in
theorem rstep1 (v d u n g a b c f wi x k : Int) (w : World) (hs : g = 0 → -9223372036854775808 ≤ a ∧ a ≤ 1000) : Calls Tryd.prog 52 #[.agg #[.int .i64 v, .int .i64 d, .int .i64 u, .int .i64 n, .int .i64 g, .int .i64 a, .int .i64 b, .int .i64 c, .int .i64 f, .int .i64 wi, .int .i64 x, .int .i64 k], .int .i64 1] w (APos w (.bool (Spc.st ⟨v, d, u, n, g, a, b, c, f, wi, x, k⟩ 1))) := by
  have hb := (Below.refl w.heap.size w).alloc (Nat.le_refl _) (.cells #[.int .i64 v, .int .i64 d, .int .i64 u, .int .i64 n, .int .i64 g, .int .i64 a, .int .i64 b, .int .i64 c, .int .i64 f, .int .i64 wi, .int .i64 x, .int .i64 k] 24)
  have B1 := Lib.hid hb
  clear hb
  by_cases hg : g = 0
  · subst hg
    obtain ⟨hs1, hs2⟩ := hs rfl
    have e1 : Spc.st ⟨v, d, u, n, 0, a, b, c, f, wi, x, k⟩ 1 = (decide (b = 0) || (decide (0 < a) && Spc.inn b (a + 1) 100)) := rfl
    rw [e1]
    clear e1
    have wr0 : IntKind.i64.wrap 0 = 0 := rfl
    by_cases hx : b = 0
    · rw [decide_eq_true hx, Bool.true_or]
      subst hx
      go_enter Tryd.func52, Tryd.ntmps52
      go_wp2_with fail
      go_quiet (fail)
      go_wp2_with fail
      go_ret
      exact ⟨rfl, Below.drewN B1.out _⟩
    · have hxn : (b == 0) = false := by rw [beq_eq_false_iff_ne]; exact hx
      rw [decide_eq_false hx, Bool.false_or]
      by_cases hy : 0 < a
      · rw [decide_eq_true hy, Bool.true_and]
        have C : Hid (∀ W, Calls Tryd.prog 51 #[.int .i64 b, .int .i64 (a + 1), .int .i64 100] W fun e w' => e = .returned (.bool (Spc.inn b (a + 1) 100)) ∧ w' = W) := rin_any b (a + 1) 100
        generalize Spc.inn b (a + 1) 100 = z at *
        go_enter Tryd.func52, Tryd.ntmps52
        go_wp2_with fail
        go_quiet ((go_at_call 51; exact Calls.quiet_of_same (C.out _)))
        go_wp2_with fail
        go_ret
        exact ⟨rfl, Below.drewN B1.out _⟩
      · rw [decide_eq_false hy, Bool.false_and]
        have hyn := decide_eq_false hy
        clear hy
        go_enter Tryd.func52, Tryd.ntmps52
        go_wp2_with fail
        go_quiet ((go_at_call 51; fail))
        go_wp2_with fail
        go_ret
        exact ⟨rfl, Below.drewN B1.out _⟩
  · have e1 : Spc.st ⟨v, d, u, n, g, a, b, c, f, wi, x, k⟩ 1 = decide (b = 0) := by unfold Spc.st; rw [if_pos hg]; rfl
    rw [e1]
    have hgn : (g != 0) = true := by rw [bne_iff_ne]; exact hg
    clear e1
    go_enter Tryd.func52, Tryd.ntmps52
    go_wp2_with fail
    go_ret
    exact ⟨ret_bool (by by_cases hx : b = 0 <;> simp [hx]), B1.out⟩
set_option maxHeartbeats 800000 in
theorem rstep2 (v d u n g a b c f wi x k : Int) (w : World) (hs : g = 0 → -9223372036854775808 ≤ b ∧ b ≤ 1000) : Calls Tryd.prog 52 #[.agg #[.int .i64 v, .int .i64 d, .int .i64 u, .int .i64 n, .int .i64 g, .int .i64 a, .int .i64 b, .int .i64 c, .int .i64 f, .int .i64 wi, .int .i64 x, .int .i64 k], .int .i64 2] w (APos w (.bool (Spc.st ⟨v, d, u, n, g, a, b, c, f, wi, x, k⟩ 2))) := by
  have hb := (Below.refl w.heap.size w).alloc (Nat.le_refl _) (.cells #[.int .i64 v, .int .i64 d, .int .i64 u, .int .i64 n, .int .i64 g, .int .i64 a, .int .i64 b, .int .i64 c, .int .i64 f, .int .i64 wi, .int .i64 x, .int .i64 k] 24)
  have B1 := Lib.hid hb
  clear hb
  by_cases hg : g = 0
  · subst hg
    obtain ⟨hs1, hs2⟩ := hs rfl
    have e1 : Spc.st ⟨v, d, u, n, 0, a, b, c, f, wi, x, k⟩ 2 = (decide (c = 0) || (decide (0 < b) && Spc.inn c (b + 1) 100)) := rfl
    rw [e1]
    clear e1
    have wr0 : IntKind.i64.wrap 1 = 1 := rfl
    by_cases hx : c = 0
    · rw [decide_eq_true hx, Bool.true_or]
      subst hx
      go_enter Tryd.func52, Tryd.ntmps52
      go_wp2_with fail
      go_quiet (fail)
      go_wp2_with fail
      go_ret
      exact ⟨rfl, Below.drewN B1.out _⟩
    · have hxn : (c == 0) = false := by rw [beq_eq_false_iff_ne]; exact hx
      rw [decide_eq_false hx, Bool.false_or]
      by_cases hy : 0 < b
      · rw [decide_eq_true hy, Bool.true_and]
        have C : Hid (∀ W, Calls Tryd.prog 51 #[.int .i64 c, .int .i64 (b + 1), .int .i64 100] W fun e w' => e = .returned (.bool (Spc.inn c (b + 1) 100)) ∧ w' = W) := rin_any c (b + 1) 100
        generalize Spc.inn c (b + 1) 100 = z at *
        go_enter Tryd.func52, Tryd.ntmps52
        go_wp2_with fail
        go_quiet ((go_at_call 51; exact Calls.quiet_of_same (C.out _)))
        go_wp2_with fail
        go_ret
        exact ⟨rfl, Below.drewN B1.out _⟩
      · rw [decide_eq_false hy, Bool.false_and]
        have hyn := decide_eq_false hy
        clear hy
        go_enter Tryd.func52, Tryd.ntmps52
        go_wp2_with fail
        go_quiet ((go_at_call 51; fail))
        go_wp2_with fail
        go_ret
        exact ⟨rfl, Below.drewN B1.out _⟩
  · have e1 : Spc.st ⟨v, d, u, n, g, a, b, c, f, wi, x, k⟩ 2 = decide (c = 0) := by unfold Spc.st; rw [if_pos hg]; rfl
    rw [e1]
    have hgn : (g != 0) = true := by rw [bne_iff_ne]; exact hg
    clear e1
    go_enter Tryd.func52, Tryd.ntmps52
    go_wp2_with fail
    go_ret
    exact ⟨ret_bool (by by_cases hx : c = 0 <;> simp [hx]), B1.out⟩
set_option maxHeartbeats 800000 in
theorem rstep3 (v d u n g a b c f wi x k : Int) (w : World) (hs : g = 0 → -9223372036854775808 ≤ c ∧ c ≤ 1000) : Calls Tryd.prog 52 #[.agg #[.int .i64 v, .int .i64 d, .int .i64 u, .int .i64 n, .int .i64 g, .int .i64 a, .int .i64 b, .int .i64 c, .int .i64 f, .int .i64 wi, .int .i64 x, .int .i64 k], .int .i64 3] w (APos w (.bool (Spc.st ⟨v, d, u, n, g, a, b, c, f, wi, x, k⟩ 3))) := by
  have hb := (Below.refl w.heap.size w).alloc (Nat.le_refl _) (.cells #[.int .i64 v, .int .i64 d, .int .i64 u, .int .i64 n, .int .i64 g, .int .i64 a, .int .i64 b, .int .i64 c, .int .i64 f, .int .i64 wi, .int .i64 x, .int .i64 k] 24)
  have B1 := Lib.hid hb
  clear hb
  by_cases hg : g = 0
  · subst hg
    obtain ⟨hs1, hs2⟩ := hs rfl
    have e1 : Spc.st ⟨v, d, u, n, 0, a, b, c, f, wi, x, k⟩ 3 = (decide (f = 0) || (decide (0 < c) && Spc.inn f (c + 1) 100)) := rfl
    rw [e1]
    clear e1
    have wr0 : IntKind.i64.wrap 2 = 2 := rfl
    by_cases hx : f = 0
    · rw [decide_eq_true hx, Bool.true_or]
      subst hx
      go_enter Tryd.func52, Tryd.ntmps52
      go_wp2_with fail
      go_quiet (fail)
      go_wp2_with fail
      go_ret
      exact ⟨rfl, Below.drewN B1.out _⟩
    · have hxn : (f == 0) = false := by rw [beq_eq_false_iff_ne]; exact hx
      rw [decide_eq_false hx, Bool.false_or]
      by_cases hy : 0 < c
      · rw [decide_eq_true hy, Bool.true_and]
        have C : Hid (∀ W, Calls Tryd.prog 51 #[.int .i64 f, .int .i64 (c + 1), .int .i64 100] W fun e w' => e = .returned (.bool (Spc.inn f (c + 1) 100)) ∧ w' = W) := rin_any f (c + 1) 100
        generalize Spc.inn f (c + 1) 100 = z at *
        go_enter Tryd.func52, Tryd.ntmps52
        go_wp2_with fail
        go_quiet ((go_at_call 51; exact Calls.quiet_of_same (C.out _)))
        go_wp2_with fail
        go_ret
        exact ⟨rfl, Below.drewN B1.out _⟩
      · rw [decide_eq_false hy, Bool.false_and]
        have hyn := decide_eq_false hy
        clear hy
        go_enter Tryd.func52, Tryd.ntmps52
        go_wp2_with fail
        go_quiet ((go_at_call 51; fail))
        go_wp2_with fail
        go_ret
        exact ⟨rfl, Below.drewN B1.out _⟩
  · have e1 : Spc.st ⟨v, d, u, n, g, a, b, c, f, wi, x, k⟩ 3 = decide (f = 0) := by unfold Spc.st; rw [if_pos hg]; rfl
    rw [e1]
    have hgn : (g != 0) = true := by rw [bne_iff_ne]; exact hg
    clear e1
    go_enter Tryd.func52, Tryd.ntmps52
    go_wp2_with fail
    go_ret
    exact ⟨ret_bool (by by_cases hx : f = 0 <;> simp [hx]), B1.out⟩
end Go.Proofs.YtifokcpkamdkeaaDoor
