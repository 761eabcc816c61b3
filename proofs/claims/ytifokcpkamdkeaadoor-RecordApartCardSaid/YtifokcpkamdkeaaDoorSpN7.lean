/-
  The developers' package spec: what each step may be; a span.
-/
import Derived.Test.YtifokcpkamdkeaaDoorSpRef3
import Derived.Handy
namespace Go.Proofs.YtifokcpkamdkeaaDoor
open Go.RowKit
set_option linter.unusedSimpArgs false
set_option linter.unusedVariables false

/-- Is a number within a span? -/
def hasB (lo hi : Int) (no : Bool) (n : Int) : Bool := decide (lo ≤ n) && decide (n ≤ hi) || no && decide (n = 0)
theorem has_any (lo hi : Int) (no : Bool) (n : Int) (w : World) : Calls Tryd.prog 64 #[.agg #[.int .i64 lo, .int .i64 hi, .bool no], .int .i64 n] w (APos w (.bool (hasB lo hi no n))) := by
  have HB := Lib.hid ((Below.refl w.heap.size w).alloc (Nat.le_refl _) (.cells #[.int .i64 lo, .int .i64 hi, .bool no] 88))
  have HE : Hid (hasB lo hi no n = (decide (lo ≤ n) && decide (n ≤ hi) || no && decide (n = 0))) := rfl
  obtain ⟨B, hB⟩ : ∃ B, B = hasB lo hi no n := ⟨_, rfl⟩
  rw [← hB] at HE ⊢
  clear hB
  by_cases h1 : lo ≤ n
  · by_cases h2 : n ≤ hi
    · obtain rfl : B = true := by rw [HE.out]; simp [h1, h2]
      clear HE
      go_enter Tryd.func64, Tryd.ntmps64
      go_wp2_with fail
      go_ret
      exact ⟨rfl, HB.out⟩
    · cases no with
      | false =>
        obtain rfl : B = false := by rw [HE.out]; simp [h1, h2]
        clear HE
        go_enter Tryd.func64, Tryd.ntmps64
        go_wp2_with fail
        go_ret
        exact ⟨rfl, HB.out⟩
      | true =>
        obtain rfl : B = (n == 0) := by rw [HE.out]; simp [h1, h2]; rfl
        clear HE
        go_enter Tryd.func64, Tryd.ntmps64
        go_wp2_with fail
        go_ret
        exact ⟨rfl, HB.out⟩
  · cases no with
    | false =>
      obtain rfl : B = false := by rw [HE.out]; simp [h1]
      clear HE
      go_enter Tryd.func64, Tryd.ntmps64
      go_wp2_with fail
      go_ret
      exact ⟨rfl, HB.out⟩
    | true =>
      obtain rfl : B = (n == 0) := by rw [HE.out]; simp [h1]; rfl
      clear HE
      go_enter Tryd.func64, Tryd.ntmps64
      go_wp2_with fail
      go_ret
      exact ⟨rfl, HB.out⟩
theorem least_any (s : Spc.Sp) (w : World) : Calls Tryd.prog 72 #[Spc.val s] w (APos w (.int .i64 (if s.u = 0 then 1 else 0))) := by
  have HB := Lib.hid ((Below.refl w.heap.size w).alloc (Nat.le_refl _) (.cells #[.int .i64 s.v, .int .i64 s.d, .int .i64 s.u, .int .i64 s.n, .int .i64 s.g, .int .i64 s.a, .int .i64 s.b, .int .i64 s.c, .int .i64 s.e, .int .i64 s.w, .int .i64 s.x, .int .i64 s.k] 24))
  unfold Spc.val Spc.cells
  by_cases h : s.u = 0
  · have hq : (s.u == 0) = true := by rw [h]; rfl
    rw [if_pos h]
    clear h
    go_enter Tryd.func72, Tryd.ntmps72
    go_wp2_with fail
    go_ret
    exact ⟨rfl, HB.out⟩
  · have hq : (s.u == 0) = false := by rw [beq_eq_false_iff_ne]; exact h
    rw [if_neg h]
    clear h
    go_enter Tryd.func72, Tryd.ntmps72
    go_wp2_with fail
    go_ret
    exact ⟨rfl, HB.out⟩
theorem last_any (s : Spc.Sp) (w : World) : Calls Tryd.prog 73 #[Spc.val s] w (APos w (.int .i64 (if s.u < s.d then 1 else 2))) := by
  have HB := Lib.hid ((Below.refl w.heap.size w).alloc (Nat.le_refl _) (.cells #[.int .i64 s.v, .int .i64 s.d, .int .i64 s.u, .int .i64 s.n, .int .i64 s.g, .int .i64 s.a, .int .i64 s.b, .int .i64 s.c, .int .i64 s.e, .int .i64 s.w, .int .i64 s.x, .int .i64 s.k] 24))
  unfold Spc.val Spc.cells
  by_cases h : s.u < s.d
  · rw [if_pos h]
    go_enter Tryd.func73, Tryd.ntmps73
    go_wp2_with fail
    go_ret
    exact ⟨rfl, HB.out⟩
  · rw [if_neg h]
    go_enter Tryd.func73, Tryd.ntmps73
    go_wp2_with fail
    go_ret
    exact ⟨rfl, HB.out⟩
/-- What each step may be. -/
def slo (g a : Int) : Int := if g = 0 ∧ a ≠ 0 then wrap64 (a + 1) else 0
def shi (g a : Int) : Int := if g = 0 ∧ a ≠ 0 then 100 else 0
def sno (g a : Int) : Bool := decide (g = 0 ∧ a ≠ 0)
def stc (s : Spc.Sp) : Array Value := #[.int .i64 (if s.g = 0 then 1 else 0), .int .i64 (if s.g = 0 then 100 else 0), .bool false,
  .int .i64 (slo s.g s.a), .int .i64 (shi s.g s.a), .bool (sno s.g s.a), .int .i64 (slo s.g s.b), .int .i64 (shi s.g s.b), .bool (sno s.g s.b), .int .i64 (slo s.g s.c), .int .i64 (shi s.g s.c), .bool (sno s.g s.c)]
set_option maxRecDepth 100000 in
set_option maxHeartbeats 3200000 in
theorem stepSpans_any (s : Spc.Sp) (w : World) : Calls Tryd.prog 71 #[Spc.val s] w (APos w (.agg (stc s))) := by
  have HV : Hid (Spc.val s = .agg #[.int .i64 s.v, .int .i64 s.d, .int .i64 s.u, .int .i64 s.n, .int .i64 s.g, .int .i64 s.a, .int .i64 s.b, .int .i64 s.c, .int .i64 s.e, .int .i64 s.w, .int .i64 s.x, .int .i64 s.k]) := rfl
  rw [HV.out]
  by_cases hg : s.g = 0
  · have hg1 : (s.g != 0) = false := by rw [bne_eq_false_iff_eq]; exact hg
    have G := Lib.hid hg
    clear hg HV
    by_cases ha : s.a = 0
    · have ha1 : (s.a != 0) = false := by rw [bne_eq_false_iff_eq]; exact ha
      have HA := Lib.hid ha
      clear ha
      by_cases hb : s.b = 0
      · have hb1 : (s.b != 0) = false := by rw [bne_eq_false_iff_eq]; exact hb
        have HB := Lib.hid hb
        clear hb
        by_cases hc : s.c = 0
        · have hc1 : (s.c != 0) = false := by rw [bne_eq_false_iff_eq]; exact hc
          have HC := Lib.hid hc
          clear hc
          go_enter Tryd.func71, Tryd.ntmps71
          go_wp2_with fail
          go_rounds 4
          exact bodyPost_ret (v := .agg #[.int .i64 1, .int .i64 100, .bool false, .int .i64 0, .int .i64 0, .bool false, .int .i64 0, .int .i64 0, .bool false, .int .i64 0, .int .i64 0, .bool false]) (by simp [results, Tryd.results71, go_sem]) rfl ⟨by unfold stc slo shi sno; simp [G.out, HA.out, HB.out, HC.out], by go_grown⟩
        · have hc1 : (s.c != 0) = true := by rw [bne_iff_ne]; exact hc
          have HC := Lib.hid hc
          clear hc
          go_enter Tryd.func71, Tryd.ntmps71
          go_wp2_with fail
          go_rounds 4
          exact bodyPost_ret (v := .agg #[.int .i64 1, .int .i64 100, .bool false, .int .i64 0, .int .i64 0, .bool false, .int .i64 0, .int .i64 0, .bool false, .int .i64 (wrap64 (s.c + 1)), .int .i64 100, .bool true]) (by simp [results, Tryd.results71, go_sem]) rfl ⟨by unfold stc slo shi sno; simp [G.out, HA.out, HB.out, HC.out], by go_grown⟩
      · have hb1 : (s.b != 0) = true := by rw [bne_iff_ne]; exact hb
        have HB := Lib.hid hb
        clear hb
        by_cases hc : s.c = 0
        · have hc1 : (s.c != 0) = false := by rw [bne_eq_false_iff_eq]; exact hc
          have HC := Lib.hid hc
          clear hc
          go_enter Tryd.func71, Tryd.ntmps71
          go_wp2_with fail
          go_rounds 4
          exact bodyPost_ret (v := .agg #[.int .i64 1, .int .i64 100, .bool false, .int .i64 0, .int .i64 0, .bool false, .int .i64 (wrap64 (s.b + 1)), .int .i64 100, .bool true, .int .i64 0, .int .i64 0, .bool false]) (by simp [results, Tryd.results71, go_sem]) rfl ⟨by unfold stc slo shi sno; simp [G.out, HA.out, HB.out, HC.out], by go_grown⟩
        · have hc1 : (s.c != 0) = true := by rw [bne_iff_ne]; exact hc
          have HC := Lib.hid hc
          clear hc
          go_enter Tryd.func71, Tryd.ntmps71
          go_wp2_with fail
          go_rounds 4
          exact bodyPost_ret (v := .agg #[.int .i64 1, .int .i64 100, .bool false, .int .i64 0, .int .i64 0, .bool false, .int .i64 (wrap64 (s.b + 1)), .int .i64 100, .bool true, .int .i64 (wrap64 (s.c + 1)), .int .i64 100, .bool true]) (by simp [results, Tryd.results71, go_sem]) rfl ⟨by unfold stc slo shi sno; simp [G.out, HA.out, HB.out, HC.out], by go_grown⟩
    · have ha1 : (s.a != 0) = true := by rw [bne_iff_ne]; exact ha
      have HA := Lib.hid ha
      clear ha
      by_cases hb : s.b = 0
      · have hb1 : (s.b != 0) = false := by rw [bne_eq_false_iff_eq]; exact hb
        have HB := Lib.hid hb
        clear hb
        by_cases hc : s.c = 0
        · have hc1 : (s.c != 0) = false := by rw [bne_eq_false_iff_eq]; exact hc
          have HC := Lib.hid hc
          clear hc
          go_enter Tryd.func71, Tryd.ntmps71
          go_wp2_with fail
          go_rounds 4
          exact bodyPost_ret (v := .agg #[.int .i64 1, .int .i64 100, .bool false, .int .i64 (wrap64 (s.a + 1)), .int .i64 100, .bool true, .int .i64 0, .int .i64 0, .bool false, .int .i64 0, .int .i64 0, .bool false]) (by simp [results, Tryd.results71, go_sem]) rfl ⟨by unfold stc slo shi sno; simp [G.out, HA.out, HB.out, HC.out], by go_grown⟩
        · have hc1 : (s.c != 0) = true := by rw [bne_iff_ne]; exact hc
          have HC := Lib.hid hc
          clear hc
          go_enter Tryd.func71, Tryd.ntmps71
          go_wp2_with fail
          go_rounds 4
          exact bodyPost_ret (v := .agg #[.int .i64 1, .int .i64 100, .bool false, .int .i64 (wrap64 (s.a + 1)), .int .i64 100, .bool true, .int .i64 0, .int .i64 0, .bool false, .int .i64 (wrap64 (s.c + 1)), .int .i64 100, .bool true]) (by simp [results, Tryd.results71, go_sem]) rfl ⟨by unfold stc slo shi sno; simp [G.out, HA.out, HB.out, HC.out], by go_grown⟩
      · have hb1 : (s.b != 0) = true := by rw [bne_iff_ne]; exact hb
        have HB := Lib.hid hb
        clear hb
        by_cases hc : s.c = 0
        · have hc1 : (s.c != 0) = false := by rw [bne_eq_false_iff_eq]; exact hc
          have HC := Lib.hid hc
          clear hc
          go_enter Tryd.func71, Tryd.ntmps71
          go_wp2_with fail
          go_rounds 4
          exact bodyPost_ret (v := .agg #[.int .i64 1, .int .i64 100, .bool false, .int .i64 (wrap64 (s.a + 1)), .int .i64 100, .bool true, .int .i64 (wrap64 (s.b + 1)), .int .i64 100, .bool true, .int .i64 0, .int .i64 0, .bool false]) (by simp [results, Tryd.results71, go_sem]) rfl ⟨by unfold stc slo shi sno; simp [G.out, HA.out, HB.out, HC.out], by go_grown⟩
        · have hc1 : (s.c != 0) = true := by rw [bne_iff_ne]; exact hc
          have HC := Lib.hid hc
          clear hc
          go_enter Tryd.func71, Tryd.ntmps71
          go_wp2_with fail
          go_rounds 4
          exact bodyPost_ret (v := .agg #[.int .i64 1, .int .i64 100, .bool false, .int .i64 (wrap64 (s.a + 1)), .int .i64 100, .bool true, .int .i64 (wrap64 (s.b + 1)), .int .i64 100, .bool true, .int .i64 (wrap64 (s.c + 1)), .int .i64 100, .bool true]) (by simp [results, Tryd.results71, go_sem]) rfl ⟨by unfold stc slo shi sno; simp [G.out, HA.out, HB.out, HC.out], by go_grown⟩
  · have hg1 : (s.g != 0) = true := by rw [bne_iff_ne]; exact hg
    have G := Lib.hid hg
    clear hg HV
    go_enter Tryd.func71, Tryd.ntmps71
    go_wp2_with fail
    exact bodyPost_ret (v := .agg #[.int .i64 0, .int .i64 0, .bool false, .int .i64 0, .int .i64 0, .bool false, .int .i64 0, .int .i64 0, .bool false, .int .i64 0, .int .i64 0, .bool false]) (by simp [results, Tryd.results71, go_sem]) rfl ⟨by unfold stc slo shi sno; simp [G.out], by go_grown⟩
end Go.Proofs.YtifokcpkamdkeaaDoor
