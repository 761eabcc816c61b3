/-
  Slots that go on alone: how many steps are left. No program is named. No condition.
-/
import Derived.Test.YtgljepjflpijiaaSuMath
namespace Go.Proofs.Ytgljepjflpijiaa
namespace Su
/-- What goes on to what is wanted. -/
def Fine (s : S) : Prop := Right s ∧ (s.st = 0 ∨ s.st = 4 ∨ (s.st = 1 ∨ s.st = 2) ∧ s.v = s.wa)
def dist (s : S) : Nat := if s.st = 0 then (if s.wa = 0 then 0 else 2) else if s.st = 1 then 1 else if s.st = 4 then (if s.wa = 0 then 1 else 3) else 0
theorem dist_le (s : S) : dist s ≤ 4 - 0 := by
  unfold dist
  repeat' split
  all_goals omega
theorem fine_test {x : S} (h : Fine x) : (x.st == 3) = false ∧ ((x.st != 0) = false ∨ ((x.st != 0) = true ∧ (x.st != 4) = false) ∨ ((x.st != 0) = true ∧ (x.st != 4) = true ∧ (x.v != x.wa) = false)) := by
  obtain ⟨_, h⟩ := h
  rcases h with h | h | ⟨h | h, h2⟩
  · simp [h]
  · simp [h]
  · simp [h, h2]
  · simp [h, h2]
theorem fine_go {y : S} (h : Fine y) : Fine (go y) := by
  refine ⟨go_right h.1, ?_⟩
  have hr := h.1
  obtain ⟨st, v, wa, sq⟩ := y
  unfold go
  split
  · split
    · simp
    · split
      · rename_i h1 h2 h3
        simp only at *
        have := h.2
        simp only at this
        right; right
        exact ⟨by simp, by omega⟩
      · simp
  · exact h.2
theorem dist_go {y : S} (h : Fine y) : dist (go y) ≤ dist y - 1 := by
  have hr := h.1
  have h2 := h.2
  obtain ⟨st, v, wa, sq⟩ := y
  unfold go
  by_cases hg : goes ⟨st, v, wa, sq⟩
  · rw [if_pos hg]
    have hg2 := hg.2
    simp only at *
    rcases hg2 with ⟨rfl, hw⟩ | rfl | rfl
    · simp [dist, hw]
    · simp [dist]
    · by_cases hw : wa = 0 <;> simp [dist, hw]
  · rw [if_neg hg]
    have hn : ¬ (st = 0 ∧ wa ≠ 0 ∨ st = 1 ∨ st = 4) := fun x => hg ⟨hr, x⟩
    simp only at h2
    have : dist ⟨st, v, wa, sq⟩ = 0 := by
      unfold dist
      simp only
      split
      · split <;> omega
      · split
        · omega
        · split
          · omega
          · rfl
    omega
theorem fine_stop {y : S} (h : Fine y) (h0 : dist y = 0) : ¬ goes y := by
  intro hg
  have hg2 := hg.2
  obtain ⟨st, v, wa, sq⟩ := y
  simp only at hg2
  rcases hg2 with ⟨rfl, hw⟩ | rfl | rfl
  · simp [dist, hw] at h0
  · simp [dist] at h0
  · by_cases hw : wa = 0 <;> simp [dist, hw] at h0
theorem fine_not {y : S} (h : Fine y) : (!decide (goes y)) = true ↔ settled y := by
  rw [Bool.not_eq_true', decide_eq_false_iff_not]
  have hr := h.1
  have h2 := h.2
  unfold settled
  have e : goes y ↔ (y.st = 0 ∧ y.wa ≠ 0 ∨ y.st = 1 ∨ y.st = 4) := ⟨fun x => x.2, fun x => ⟨hr, x⟩⟩
  rw [e]
  omega
theorem not_fine {x : S} (hr : Right x) (h : ¬ Fine x) : x.st = 3 ∨ (x.st = 1 ∧ x.v ≠ x.wa) ∨ (x.st = 2 ∧ x.v ≠ x.wa) := by
  have hn : ¬ (x.st = 0 ∨ x.st = 4 ∨ (x.st = 1 ∨ x.st = 2) ∧ x.v = x.wa) := fun y => h ⟨hr, y⟩
  unfold Right at hr
  omega
end Su
end Go.Proofs.Ytgljepjflpijiaa
