/-
  Which specs may be, number by number: held against spans that hang on the numbers ahead. No program is named.
-/
import Derived.Test.YtifokcpkamdkeaaDoorSpN8
namespace Go.Proofs.YtifokcpkamdkeaaDoor
open Go.RowKit
set_option linter.unusedSimpArgs false
set_option linter.unusedVariables false
namespace Spc
def ok (s : Sp) : Nat → Bool
  | 0 => inn s.v 1 1048576
  | 1 => inn s.d 1 16
  | 2 => inn s.u 0 (16 - s.d)
  | 3 => !(!inn s.n 0 s.d || (decide (s.n = 0) && decide (s.u = 0)))
  | 4 => !(!inn s.g 0 2 || (decide (s.g = 2) && decide (s.u < s.d)))
  | 5 => st s 0
  | 6 => st s 1
  | 7 => st s 2
  | 8 => st s 3
  | 9 => inn s.w 1 1048576
  | 10 => inn s.x 0 1048576
  | 11 => inn s.k 1 1048576
  | _ => true
theorem chk_first {s : Sp} {j : Nat} (hj : j < 12) (h : ∀ m, m < j → ok s m = true) (hb : ok s j = false) : chk s = j + 1 := by
  rcases j with _ | _ | _ | _ | _ | _ | _ | _ | _ | _ | _ | _ | j
  · have hc : inn s.v 1 1048576 = false := hb
    unfold chk
    simp only [hc, Bool.not_true, Bool.not_false, if_true, if_false, Bool.false_eq_true, reduceIte]
  · have h0 : inn s.v 1 1048576 = true := h 0 (by omega)
    have hc : inn s.d 1 16 = false := hb
    unfold chk
    simp only [h0, hc, Bool.not_true, Bool.not_false, if_true, if_false, Bool.false_eq_true, reduceIte]
  · have h0 : inn s.v 1 1048576 = true := h 0 (by omega)
    have h1 : inn s.d 1 16 = true := h 1 (by omega)
    have hc : inn s.u 0 (16 - s.d) = false := hb
    unfold chk
    simp only [h0, h1, hc, Bool.not_true, Bool.not_false, if_true, if_false, Bool.false_eq_true, reduceIte]
  · have h0 : inn s.v 1 1048576 = true := h 0 (by omega)
    have h1 : inn s.d 1 16 = true := h 1 (by omega)
    have h2 : inn s.u 0 (16 - s.d) = true := h 2 (by omega)
    have hc : (!inn s.n 0 s.d || (decide (s.n = 0) && decide (s.u = 0))) = true := by simpa only [ok, Bool.not_eq_false'] using hb
    unfold chk
    simp only [h0, h1, h2, hc, Bool.not_true, Bool.not_false, if_true, if_false, Bool.false_eq_true, reduceIte]
  · have h0 : inn s.v 1 1048576 = true := h 0 (by omega)
    have h1 : inn s.d 1 16 = true := h 1 (by omega)
    have h2 : inn s.u 0 (16 - s.d) = true := h 2 (by omega)
    have h3 : (!inn s.n 0 s.d || (decide (s.n = 0) && decide (s.u = 0))) = false := by simpa only [ok, Bool.not_eq_true'] using h 3 (by omega)
    have hc : (!inn s.g 0 2 || (decide (s.g = 2) && decide (s.u < s.d))) = true := by simpa only [ok, Bool.not_eq_false'] using hb
    unfold chk
    simp only [h0, h1, h2, h3, hc, Bool.not_true, Bool.not_false, if_true, if_false, Bool.false_eq_true, reduceIte]
  · have h0 : inn s.v 1 1048576 = true := h 0 (by omega)
    have h1 : inn s.d 1 16 = true := h 1 (by omega)
    have h2 : inn s.u 0 (16 - s.d) = true := h 2 (by omega)
    have h3 : (!inn s.n 0 s.d || (decide (s.n = 0) && decide (s.u = 0))) = false := by simpa only [ok, Bool.not_eq_true'] using h 3 (by omega)
    have h4 : (!inn s.g 0 2 || (decide (s.g = 2) && decide (s.u < s.d))) = false := by simpa only [ok, Bool.not_eq_true'] using h 4 (by omega)
    have hc : st s 0 = false := hb
    unfold chk
    simp only [h0, h1, h2, h3, h4, hc, Bool.not_true, Bool.not_false, if_true, if_false, Bool.false_eq_true, reduceIte]
  · have h0 : inn s.v 1 1048576 = true := h 0 (by omega)
    have h1 : inn s.d 1 16 = true := h 1 (by omega)
    have h2 : inn s.u 0 (16 - s.d) = true := h 2 (by omega)
    have h3 : (!inn s.n 0 s.d || (decide (s.n = 0) && decide (s.u = 0))) = false := by simpa only [ok, Bool.not_eq_true'] using h 3 (by omega)
    have h4 : (!inn s.g 0 2 || (decide (s.g = 2) && decide (s.u < s.d))) = false := by simpa only [ok, Bool.not_eq_true'] using h 4 (by omega)
    have h5 : st s 0 = true := h 5 (by omega)
    have hc : st s 1 = false := hb
    unfold chk
    simp only [h0, h1, h2, h3, h4, h5, hc, Bool.not_true, Bool.not_false, if_true, if_false, Bool.false_eq_true, reduceIte]
  · have h0 : inn s.v 1 1048576 = true := h 0 (by omega)
    have h1 : inn s.d 1 16 = true := h 1 (by omega)
    have h2 : inn s.u 0 (16 - s.d) = true := h 2 (by omega)
    have h3 : (!inn s.n 0 s.d || (decide (s.n = 0) && decide (s.u = 0))) = false := by simpa only [ok, Bool.not_eq_true'] using h 3 (by omega)
    have h4 : (!inn s.g 0 2 || (decide (s.g = 2) && decide (s.u < s.d))) = false := by simpa only [ok, Bool.not_eq_true'] using h 4 (by omega)
    have h5 : st s 0 = true := h 5 (by omega)
    have h6 : st s 1 = true := h 6 (by omega)
    have hc : st s 2 = false := hb
    unfold chk
    simp only [h0, h1, h2, h3, h4, h5, h6, hc, Bool.not_true, Bool.not_false, if_true, if_false, Bool.false_eq_true, reduceIte]
  · have h0 : inn s.v 1 1048576 = true := h 0 (by omega)
    have h1 : inn s.d 1 16 = true := h 1 (by omega)
    have h2 : inn s.u 0 (16 - s.d) = true := h 2 (by omega)
    have h3 : (!inn s.n 0 s.d || (decide (s.n = 0) && decide (s.u = 0))) = false := by simpa only [ok, Bool.not_eq_true'] using h 3 (by omega)
    have h4 : (!inn s.g 0 2 || (decide (s.g = 2) && decide (s.u < s.d))) = false := by simpa only [ok, Bool.not_eq_true'] using h 4 (by omega)
    have h5 : st s 0 = true := h 5 (by omega)
    have h6 : st s 1 = true := h 6 (by omega)
    have h7 : st s 2 = true := h 7 (by omega)
    have hc : st s 3 = false := hb
    unfold chk
    simp only [h0, h1, h2, h3, h4, h5, h6, h7, hc, Bool.not_true, Bool.not_false, if_true, if_false, Bool.false_eq_true, reduceIte]
  · have h0 : inn s.v 1 1048576 = true := h 0 (by omega)
    have h1 : inn s.d 1 16 = true := h 1 (by omega)
    have h2 : inn s.u 0 (16 - s.d) = true := h 2 (by omega)
    have h3 : (!inn s.n 0 s.d || (decide (s.n = 0) && decide (s.u = 0))) = false := by simpa only [ok, Bool.not_eq_true'] using h 3 (by omega)
    have h4 : (!inn s.g 0 2 || (decide (s.g = 2) && decide (s.u < s.d))) = false := by simpa only [ok, Bool.not_eq_true'] using h 4 (by omega)
    have h5 : st s 0 = true := h 5 (by omega)
    have h6 : st s 1 = true := h 6 (by omega)
    have h7 : st s 2 = true := h 7 (by omega)
    have h8 : st s 3 = true := h 8 (by omega)
    have hc : inn s.w 1 1048576 = false := hb
    unfold chk
    simp only [h0, h1, h2, h3, h4, h5, h6, h7, h8, hc, Bool.not_true, Bool.not_false, if_true, if_false, Bool.false_eq_true, reduceIte]
  · have h0 : inn s.v 1 1048576 = true := h 0 (by omega)
    have h1 : inn s.d 1 16 = true := h 1 (by omega)
    have h2 : inn s.u 0 (16 - s.d) = true := h 2 (by omega)
    have h3 : (!inn s.n 0 s.d || (decide (s.n = 0) && decide (s.u = 0))) = false := by simpa only [ok, Bool.not_eq_true'] using h 3 (by omega)
    have h4 : (!inn s.g 0 2 || (decide (s.g = 2) && decide (s.u < s.d))) = false := by simpa only [ok, Bool.not_eq_true'] using h 4 (by omega)
    have h5 : st s 0 = true := h 5 (by omega)
    have h6 : st s 1 = true := h 6 (by omega)
    have h7 : st s 2 = true := h 7 (by omega)
    have h8 : st s 3 = true := h 8 (by omega)
    have h9 : inn s.w 1 1048576 = true := h 9 (by omega)
    have hc : inn s.x 0 1048576 = false := hb
    unfold chk
    simp only [h0, h1, h2, h3, h4, h5, h6, h7, h8, h9, hc, Bool.not_true, Bool.not_false, if_true, if_false, Bool.false_eq_true, reduceIte]
  · have h0 : inn s.v 1 1048576 = true := h 0 (by omega)
    have h1 : inn s.d 1 16 = true := h 1 (by omega)
    have h2 : inn s.u 0 (16 - s.d) = true := h 2 (by omega)
    have h3 : (!inn s.n 0 s.d || (decide (s.n = 0) && decide (s.u = 0))) = false := by simpa only [ok, Bool.not_eq_true'] using h 3 (by omega)
    have h4 : (!inn s.g 0 2 || (decide (s.g = 2) && decide (s.u < s.d))) = false := by simpa only [ok, Bool.not_eq_true'] using h 4 (by omega)
    have h5 : st s 0 = true := h 5 (by omega)
    have h6 : st s 1 = true := h 6 (by omega)
    have h7 : st s 2 = true := h 7 (by omega)
    have h8 : st s 3 = true := h 8 (by omega)
    have h9 : inn s.w 1 1048576 = true := h 9 (by omega)
    have h10 : inn s.x 0 1048576 = true := h 10 (by omega)
    have hc : inn s.k 1 1048576 = false := hb
    unfold chk
    simp only [h0, h1, h2, h3, h4, h5, h6, h7, h8, h9, h10, hc, Bool.not_true, Bool.not_false, if_true, if_false, Bool.false_eq_true, reduceIte]
  · omega
theorem chk_none {s : Sp} (h : ∀ m, m < 12 → ok s m = true) : chk s = 0 := by
  have h0 : inn s.v 1 1048576 = true := h 0 (by omega)
  have h1 : inn s.d 1 16 = true := h 1 (by omega)
  have h2 : inn s.u 0 (16 - s.d) = true := h 2 (by omega)
  have h3 : (!inn s.n 0 s.d || (decide (s.n = 0) && decide (s.u = 0))) = false := by simpa only [ok, Bool.not_eq_true'] using h 3 (by omega)
  have h4 : (!inn s.g 0 2 || (decide (s.g = 2) && decide (s.u < s.d))) = false := by simpa only [ok, Bool.not_eq_true'] using h 4 (by omega)
  have h5 : st s 0 = true := h 5 (by omega)
  have h6 : st s 1 = true := h 6 (by omega)
  have h7 : st s 2 = true := h 7 (by omega)
  have h8 : st s 3 = true := h 8 (by omega)
  have h9 : inn s.w 1 1048576 = true := h 9 (by omega)
  have h10 : inn s.x 0 1048576 = true := h 10 (by omega)
  have h11 : inn s.k 1 1048576 = true := h 11 (by omega)
  unfold chk
  simp only [h0, h1, h2, h3, h4, h5, h6, h7, h8, h9, h10, h11, Bool.not_true, Bool.not_false, if_true, if_false, Bool.false_eq_true, reduceIte]
end Spc
theorem hasB_in (lo hi n : Int) : hasB lo hi false n = Spc.inn n lo hi := by unfold hasB Spc.inn; simp
theorem hasB_iff {lo hi n : Int} {no : Bool} : hasB lo hi no n = true ↔ (lo ≤ n ∧ n ≤ hi) ∨ (no = true ∧ n = 0) := by unfold hasB; simp
/-- What each number may be, of one whose numbers ahead of it may be. -/
theorem spc_at (s : Spc.Sp) (hin : Spc.In s) (j : Nat) (hj : j < 12) (h : ∀ m, m < j → Spc.ok s m = true) :
    ∃ lo hi no, (spc s)[3 * j]? = some (.int .i64 lo) ∧ (spc s)[3 * j + 1]? = some (.int .i64 hi) ∧ (spc s)[3 * j + 2]? = some (.bool no) ∧ hasB lo hi no ((Spc.flds s).getD j 0) = Spc.ok s j := by
  rcases j with _ | _ | _ | _ | _ | _ | _ | _ | _ | _ | _ | _ | j
  · exact ⟨_, _, _, rfl, rfl, rfl, hasB_in _ _ _⟩
  · exact ⟨_, _, _, rfl, rfl, rfl, hasB_in _ _ _⟩
  · have h1 := Spc.inn_iff.1 (show Spc.inn s.d 1 16 = true from h 1 (by omega))
    refine ⟨_, _, _, rfl, rfl, rfl, ?_⟩
    rw [IntWalk.i64_in (16 - s.d) (by omega)]
    exact hasB_in _ _ _
  · have h1 := Spc.inn_iff.1 (show Spc.inn s.d 1 16 = true from h 1 (by omega))
    have h2 := Spc.inn_iff.1 (show Spc.inn s.u 0 (16 - s.d) = true from h 2 (by omega))
    refine ⟨_, _, _, rfl, rfl, rfl, ?_⟩
    show hasB _ s.d false s.n = !(!Spc.inn s.n 0 s.d || (decide (s.n = 0) && decide (s.u = 0)))
    rw [Bool.eq_iff_iff, hasB_iff]
    simp [Spc.inn]
    by_cases hu : s.u = 0
    · rw [if_pos hu]; omega
    · rw [if_neg hu]; omega
  · refine ⟨_, _, _, rfl, rfl, rfl, ?_⟩
    show hasB 0 _ false s.g = !(!Spc.inn s.g 0 2 || (decide (s.g = 2) && decide (s.u < s.d)))
    rw [Bool.eq_iff_iff, hasB_iff]
    simp [Spc.inn]
    by_cases hu : s.u < s.d
    · rw [if_pos hu]; omega
    · rw [if_neg hu]; omega
  · refine ⟨_, _, _, rfl, rfl, rfl, ?_⟩
    show hasB _ _ false s.a = Spc.st s 0
    rw [Bool.eq_iff_iff, hasB_iff]
    unfold Spc.st
    by_cases hg : s.g = 0
    · rw [if_pos hg, if_pos hg, if_neg (by omega), if_pos rfl, Spc.inn_iff]; simp
    · rw [if_neg hg, if_neg hg, if_pos hg]
      show _ ↔ decide (s.a = 0) = true
      simp; omega
  · have hp : s.g = 0 → s.a ≠ 0 → 1 ≤ s.a ∧ s.a ≤ 100 := by
      intro hg ha
      have hq : Spc.st s 0 = true := h 5 (by omega)
      unfold Spc.st at hq
      rw [if_neg (by omega)] at hq
      rw [if_pos rfl] at hq
      exact Spc.inn_iff.1 hq
    refine ⟨_, _, _, rfl, rfl, rfl, ?_⟩
    show hasB (slo s.g s.a) (shi s.g s.a) (sno s.g s.a) s.b = Spc.st s 1
    rw [Bool.eq_iff_iff, hasB_iff]
    unfold Spc.st slo shi sno
    by_cases hg : s.g = 0
    · rw [if_neg (show ¬ s.g ≠ 0 by omega), if_neg (show ¬ (1 : Nat) = 0 by omega)]
      by_cases ha : s.a = 0
      · rw [if_neg (show ¬ (s.g = 0 ∧ s.a ≠ 0) by omega), if_neg (show ¬ (s.g = 0 ∧ s.a ≠ 0) by omega)]
        show _ ↔ (decide (s.b = 0) || (decide (0 < s.a) && Spc.inn s.b (s.a + 1) 100)) = true
        simp [Spc.inn, ha]; omega
      · have hb := hp hg ha
        have hw : wrap64 (s.a + 1) = s.a + 1 := IntWalk.wrap64_in _ (by omega)
        rw [if_pos (show s.g = 0 ∧ s.a ≠ 0 from ⟨hg, ha⟩), if_pos (show s.g = 0 ∧ s.a ≠ 0 from ⟨hg, ha⟩), hw]
        show _ ↔ (decide (s.b = 0) || (decide (0 < s.a) && Spc.inn s.b (s.a + 1) 100)) = true
        simp [Spc.inn, ha, hg]; omega
    · rw [if_pos hg, if_neg (show ¬ (s.g = 0 ∧ s.a ≠ 0) by omega), if_neg (show ¬ (s.g = 0 ∧ s.a ≠ 0) by omega)]
      show _ ↔ decide (s.b = 0) = true
      simp [hg]; omega
  · have hp : s.g = 0 → s.b ≠ 0 → 1 ≤ s.b ∧ s.b ≤ 100 := by
      intro hg ha
      have hq : Spc.st s 1 = true := h 6 (by omega)
      unfold Spc.st at hq
      rw [if_neg (by omega)] at hq
      have hq : (decide (s.b = 0) || (decide (0 < s.a) && Spc.inn s.b (s.a + 1) 100)) = true := hq
      simp [Spc.inn, ha] at hq
      omega
    refine ⟨_, _, _, rfl, rfl, rfl, ?_⟩
    show hasB (slo s.g s.b) (shi s.g s.b) (sno s.g s.b) s.c = Spc.st s 2
    rw [Bool.eq_iff_iff, hasB_iff]
    unfold Spc.st slo shi sno
    by_cases hg : s.g = 0
    · rw [if_neg (show ¬ s.g ≠ 0 by omega), if_neg (show ¬ (2 : Nat) = 0 by omega)]
      by_cases ha : s.b = 0
      · rw [if_neg (show ¬ (s.g = 0 ∧ s.b ≠ 0) by omega), if_neg (show ¬ (s.g = 0 ∧ s.b ≠ 0) by omega)]
        show _ ↔ (decide (s.c = 0) || (decide (0 < s.b) && Spc.inn s.c (s.b + 1) 100)) = true
        simp [Spc.inn, ha]; omega
      · have hb := hp hg ha
        have hw : wrap64 (s.b + 1) = s.b + 1 := IntWalk.wrap64_in _ (by omega)
        rw [if_pos (show s.g = 0 ∧ s.b ≠ 0 from ⟨hg, ha⟩), if_pos (show s.g = 0 ∧ s.b ≠ 0 from ⟨hg, ha⟩), hw]
        show _ ↔ (decide (s.c = 0) || (decide (0 < s.b) && Spc.inn s.c (s.b + 1) 100)) = true
        simp [Spc.inn, ha, hg]; omega
    · rw [if_pos hg, if_neg (show ¬ (s.g = 0 ∧ s.b ≠ 0) by omega), if_neg (show ¬ (s.g = 0 ∧ s.b ≠ 0) by omega)]
      show _ ↔ decide (s.c = 0) = true
      simp [hg]; omega
  · have hp : s.g = 0 → s.c ≠ 0 → 1 ≤ s.c ∧ s.c ≤ 100 := by
      intro hg ha
      have hq : Spc.st s 2 = true := h 7 (by omega)
      unfold Spc.st at hq
      rw [if_neg (by omega)] at hq
      have hq : (decide (s.c = 0) || (decide (0 < s.b) && Spc.inn s.c (s.b + 1) 100)) = true := hq
      simp [Spc.inn, ha] at hq
      omega
    refine ⟨_, _, _, rfl, rfl, rfl, ?_⟩
    show hasB (slo s.g s.c) (shi s.g s.c) (sno s.g s.c) s.e = Spc.st s 3
    rw [Bool.eq_iff_iff, hasB_iff]
    unfold Spc.st slo shi sno
    by_cases hg : s.g = 0
    · rw [if_neg (show ¬ s.g ≠ 0 by omega), if_neg (show ¬ (3 : Nat) = 0 by omega)]
      by_cases ha : s.c = 0
      · rw [if_neg (show ¬ (s.g = 0 ∧ s.c ≠ 0) by omega), if_neg (show ¬ (s.g = 0 ∧ s.c ≠ 0) by omega)]
        show _ ↔ (decide (s.e = 0) || (decide (0 < s.c) && Spc.inn s.e (s.c + 1) 100)) = true
        simp [Spc.inn, ha]; omega
      · have hb := hp hg ha
        have hw : wrap64 (s.c + 1) = s.c + 1 := IntWalk.wrap64_in _ (by omega)
        rw [if_pos (show s.g = 0 ∧ s.c ≠ 0 from ⟨hg, ha⟩), if_pos (show s.g = 0 ∧ s.c ≠ 0 from ⟨hg, ha⟩), hw]
        show _ ↔ (decide (s.e = 0) || (decide (0 < s.c) && Spc.inn s.e (s.c + 1) 100)) = true
        simp [Spc.inn, ha, hg]; omega
    · rw [if_pos hg, if_neg (show ¬ (s.g = 0 ∧ s.c ≠ 0) by omega), if_neg (show ¬ (s.g = 0 ∧ s.c ≠ 0) by omega)]
      show _ ↔ decide (s.e = 0) = true
      simp [hg]; omega
  · exact ⟨_, _, _, rfl, rfl, rfl, hasB_in _ _ _⟩
  · exact ⟨_, _, _, rfl, rfl, rfl, hasB_in _ _ _⟩
  · exact ⟨_, _, _, rfl, rfl, rfl, hasB_in _ _ _⟩
  · omega
end Go.Proofs.YtifokcpkamdkeaaDoor
