/-
  A disk of room 1000 that holds bytes that are safe, and others behind them, and crashes: what it holds.
-/
import Derived.Test.YtoapdkncddhgiaaDskLives
namespace Go.Proofs.Ytoapdkncddhgiaa
open Go.RowKit

theorem safe_one : Dk.new 1000 = ⟨1000, 0, []⟩ := rfl
theorem safe_crash (a b : List Nat) (keep : Int) (k : Nat) (hk : (k : Int) = min (max keep 0) (b.length : Nat)) (R : Nat) :
    Dk.crash ⟨R, a.length, a ++ b⟩ keep = ⟨R, a.length + k, a ++ b.take k⟩ ∧ Dk.lost ⟨R, a.length, a ++ b⟩ keep = b.length - k := by
  have h1 : Dk.opens ⟨R, a.length, a ++ b⟩ = b.length := by simp [Dk.opens]
  have h2 : Dk.kept ⟨R, a.length, a ++ b⟩ keep = k := by unfold Dk.kept; rw [h1]; omega
  refine ⟨?_, ?_⟩
  · unfold Dk.crash
    rw [h2]
    simp only [Dk.leave, List.take_append, Nat.add_sub_cancel_left]
    rw [List.take_of_length_le (by omega)]
  · unfold Dk.lost
    rw [h1, h2]
theorem safe_again (R n : Nat) (l : List Nat) (hn : n = l.length) (keep : Int) : Dk.crash ⟨R, n, l⟩ keep = ⟨R, n, l⟩ ∧ Dk.lost ⟨R, n, l⟩ keep = 0 := by
  subst hn
  have h1 : Dk.opens ⟨R, l.length, l⟩ = 0 := by simp [Dk.opens]
  have h2 : Dk.kept ⟨R, l.length, l⟩ keep = 0 := by unfold Dk.kept; rw [h1]; omega
  refine ⟨?_, ?_⟩
  · unfold Dk.crash
    rw [h2]
    simp [Dk.leave]
  · unfold Dk.lost
    rw [h1, h2]

/-- All of it, from a new disk on. -/
theorem two_facts (a b : List Nat) (keep : Int) (k : Nat) (hk : (k : Int) = min (max keep 0) (b.length : Nat)) (ha : a.length ≤ 200) (hb : b.length ≤ 200) :
    Dk.write ⟨1000, 0, []⟩ a = ⟨1000, 0, a⟩ ∧ Dk.writeE ⟨1000, 0, []⟩ a = 0 ∧ Dk.sync ⟨1000, 0, a⟩ = ⟨1000, a.length, a⟩ ∧
    Dk.write ⟨1000, a.length, a⟩ b = ⟨1000, a.length, a ++ b⟩ ∧ Dk.writeE ⟨1000, a.length, a⟩ b = 0 ∧ Dk.crash ⟨1000, a.length, a ++ b⟩ keep = ⟨1000, a.length + k, a ++ b.take k⟩ := by
  have g : Dk.goes ⟨1000, 0, []⟩ a := by simp [Dk.goes]; omega
  have g2 : Dk.goes ⟨1000, a.length, a⟩ b := by simp [Dk.goes]; omega
  refine ⟨?_, ?_, rfl, ?_, ?_, (safe_crash a b keep k hk 1000).1⟩
  · unfold Dk.write; rw [if_pos g]; simp
  · unfold Dk.writeE; rw [if_pos g]
  · unfold Dk.write; rw [if_pos g2]
  · unfold Dk.writeE; rw [if_pos g2]
end Go.Proofs.Ytoapdkncddhgiaa
