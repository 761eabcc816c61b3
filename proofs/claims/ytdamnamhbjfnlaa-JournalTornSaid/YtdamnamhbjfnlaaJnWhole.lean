/-
  Disks that hold whole frames alone: what each of a journal's calls leaves is such a disk. No program is named.
-/
import Derived.Test.YtdamnamhbjfnlaaJnLists
namespace Go.Proofs.Ytdamnamhbjfnlaa
open Go.RowKit
namespace Jn
open Fr

/-- All that lies on the disk is whole frames, and what is safe ends with a frame's end. -/
def Whole (d : Dk.St) : Prop := ∃ k ps, (∀ p ∈ ps, ok p) ∧ k ≤ ps.length ∧ d = Js d.room k ps
theorem Whole.byt {d : Dk.St} (h : Whole d) : Byt d := by
  obtain ⟨k, ps, h1, h2, h3⟩ := h
  rw [h3]
  exact js_byt h1
theorem Whole.opened {d : Dk.St} (h : Byt d) : Whole (opened d) := by
  obtain ⟨h1, h2, h3, h4, h5⟩ := opened_l d h
  refine ⟨(ents d).length, ents d, h5, Nat.le_refl _, ?_⟩
  unfold Js
  rw [List.take_length, ← h1]
  show (⟨(Jn.opened d).room, (Jn.opened d).safe, (Jn.opened d).l⟩ : Dk.St) = _
  rw [h2, h1]
theorem putE_zero {p : List Nat} (h : putE p = 0) (hb : ∀ x ∈ p, x < 256) : ok p := ⟨by have := (put_ok h).1; omega, (put_ok h).2, hb⟩
theorem Whole.app {d : Dk.St} (h : Whole d) {p : List Nat} (hp : ∀ x ∈ p, x < 256) : Whole (app d p) := by
  obtain ⟨k, ps, h1, h2, h3⟩ := h
  unfold Jn.app
  by_cases he : putE p = 0
  · rw [if_neg (by omega)]
    unfold Dk.write
    split
    · rename_i hg
      have ho := putE_zero he hp
      refine ⟨k, ps ++ [p], ?_, by rw [List.length_append]; omega, ?_⟩
      · intro x hx
        rcases List.mem_append.1 hx with hx | hx
        · exact h1 x hx
        · rw [List.mem_singleton.1 hx]; exact ho
      · unfold Js
        rw [List.take_append_of_le_length h2, all_append, all_one]
        have e1 := congrArg Dk.St.safe h3
        have e2 := congrArg Dk.St.l h3
        unfold Js at e1 e2
        show (⟨d.room, d.safe, d.l ++ fr p⟩ : Dk.St) = _
        rw [e1, e2]
    · exact ⟨k, ps, h1, h2, h3⟩
  · rw [if_pos he]
    exact ⟨k, ps, h1, h2, h3⟩
theorem Whole.torn {d : Dk.St} (h : Whole d) {p : List Nat} (hp : ∀ x ∈ p, x < 256) (keep : Int) : Whole (torn d p keep) := by
  unfold Jn.torn
  split
  · exact h
  · exact Whole.opened (Byt.sync (h.byt.write fun x hx => fr_byte hp x (List.mem_of_mem_take hx)))
theorem Whole.sync {d : Dk.St} (h : Whole d) : Whole (Dk.sync d) := by
  obtain ⟨k, ps, h1, h2, h3⟩ := h
  refine ⟨ps.length, ps, h1, Nat.le_refl _, ?_⟩
  have := congrArg Dk.sync h3
  rw [js_sync] at this
  exact this
theorem Whole.crash {d : Dk.St} (h : Whole d) (keep : Int) : Whole (crash d keep) := Whole.opened (h.byt.crash keep)
theorem bad_zero {ls : List (List Nat)} (h : bad ls = 0) : ∀ p ∈ ls, putE p = 0 := by
  induction ls with
  | nil => intro p hp; cases hp
  | cons q qs ih =>
    unfold bad at h
    split at h
    · omega
    · intro p hp
      rcases List.mem_cons.1 hp with rfl | hp
      · omega
      · exact ih h p hp
theorem Whole.swap {d : Dk.St} (h : Whole d) {ls : List (List Nat)} (hl : ∀ p ∈ ls, ∀ x ∈ p, x < 256) : Whole (swap d ls) := by
  unfold Jn.swap
  by_cases hb : bad ls = 0
  · rw [if_neg (by omega)]
    unfold Dk.swap
    split
    · refine ⟨ls.length, ls, fun p hp => putE_zero (bad_zero hb p hp) (hl p hp), Nat.le_refl _, ?_⟩
      unfold Js
      rw [List.take_length]
    · exact h
  · rw [if_pos hb]
    exact h
/-- Just what is behind the safe bytes is gone through. -/
theorem Whole.syncN {d : Dk.St} (h : Whole d) : (((scan (d.l.drop d.safe)).1.length : Nat) : Int) = ((ents d).length : Nat) - (safeN d : Nat) := by
  obtain ⟨k, ps, h1, h2, h3⟩ := h
  have e : ents d = ps := by rw [h3]; exact js_ents h1
  have s : safeN d = k := by rw [h3]; exact js_safe h1 h2
  have d1 : d.l.drop d.safe = all (ps.drop k) := by
    rw [h3]
    unfold Js
    show (all ps).drop (all (ps.take k)).length = _
    conv => lhs; rw [← List.take_append_drop k ps, all_append]
    rw [List.take_append_drop, List.drop_left']
    rfl
  rw [e, s, d1, scan_whole (fun p hp => h1 p (List.mem_of_mem_drop hp)), List.length_drop]
  omega
/-- A torn entry, as the disk does it. -/
theorem crash_all (d : Dk.St) (h : Dk.Okay d) : Dk.crash d (d.l.length : Nat) = Dk.sync d := by
  have h1 := h.1
  have : d.safe + Dk.kept d (d.l.length : Nat) = d.l.length := by unfold Dk.kept Dk.opens; omega
  unfold Dk.crash Dk.leave Dk.sync
  rw [this, List.take_length]
end Jn
end Go.Proofs.Ytdamnamhbjfnlaa
