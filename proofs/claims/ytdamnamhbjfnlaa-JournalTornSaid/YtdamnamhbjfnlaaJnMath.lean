/-
  Journals as plain lists: a disk that holds frames alone; what each call makes of it. No program is named.
-/
import Derived.Test.YtdamnamhbjfnlaaDsk
import Derived.Test.YtdamnamhbjfnlaaFrMath
import Derived.Test.YtdamnamhbjfnlaaFrPut
namespace Go.Proofs.Ytdamnamhbjfnlaa
open Go.RowKit
namespace Jn
open Fr

/-- What a scan gives of any bytes: entries that may be, and the bytes that they are. -/
theorem scan_gives (b : List Nat) (hb : ∀ x ∈ b, x < 256) : (∀ p ∈ (scan b).1, ok p) ∧ (scan b).2.1 ≤ b.length ∧ b.take (scan b).2.1 = all (scan b).1 := by
  obtain ⟨n, hn⟩ : ∃ n, b.length ≤ n := ⟨_, Nat.le_refl _⟩
  induction n generalizing b with
  | zero =>
    have : b = [] := List.eq_nil_of_length_eq_zero (by omega)
    subst this
    rw [scan_nil]; simp [all_nil]
  | succ n ih =>
    by_cases h0 : b = []
    · subst h0; rw [scan_nil]; simp [all_nil]
    · by_cases h : gE b = 0
      · obtain ⟨h7, h1006, hle, hnum, hgood⟩ := gE_zero h
        obtain ⟨i1, i2, i3⟩ := ih (b.drop (whole b)) (fun x hx => hb x (List.mem_of_mem_drop hx)) (by rw [List.length_drop]; omega)
        rw [List.length_drop] at i2
        rw [scan_yes h]
        have hP : gP b = (b.take (whole b - 4)).drop 2 := by unfold gP; rw [if_pos h]
        have hf : fr (gP b) = b.take (whole b) := by rw [hP]; exact (same_fr hb (by omega)).2 hgood
        have hl := gP_length h
        refine ⟨?_, ?_, ?_⟩
        · intro p hp
          rcases List.mem_cons.1 hp with rfl | hp
          · exact ⟨by omega, by omega, gP_byte hb⟩
          · exact i1 p hp
        · show whole b + _ ≤ _
          omega
        · show b.take (whole b + _) = _
          rw [all_cons, List.take_add, hf, i3]
      · rw [scan_no h0 h]; simp [all_nil]
def cutN (d : Dk.St) : Nat := (scan d.l).2.1
/-- Opened: just the frames that can be got are left. -/
def opened (d : Dk.St) : Dk.St := Dk.leave d (cutN d)
/-- Its entries; how many are safe. -/
def ents (d : Dk.St) : List (List Nat) := (scan d.l).1
def safeN (d : Dk.St) : Nat := (scan (d.l.take d.safe)).1.length
def app (d : Dk.St) (p : List Nat) : Dk.St := if putE p ≠ 0 then d else Dk.write d (fr p)
def appE (d : Dk.St) (p : List Nat) : Int := if putE p ≠ 0 then (putE p : Nat) else Dk.writeE d (fr p)
def keptN (p : List Nat) (keep : Int) : Nat := (min (max keep 0) ((fr p).length : Nat)).toNat
def torn (d : Dk.St) (p : List Nat) (keep : Int) : Dk.St := if appE d p ≠ 0 then d else opened (Dk.sync (Dk.write d ((fr p).take (keptN p keep))))
def tornE (d : Dk.St) (p : List Nat) : Int := if appE d p ≠ 0 then appE d p else 13
def crash (d : Dk.St) (keep : Int) : Dk.St := opened (Dk.crash d keep)
def lost (d : Dk.St) (keep : Int) : Int := ((ents d).length : Nat) - ((ents (crash d keep)).length : Nat)
/-- The first of Put's errors. -/
def bad : List (List Nat) → Nat
  | [] => 0
  | p :: ps => if putE p ≠ 0 then putE p else bad ps
def swap (d : Dk.St) (ps : List (List Nat)) : Dk.St := if bad ps ≠ 0 then d else Dk.swap d (all ps)
def swapE (d : Dk.St) (ps : List (List Nat)) : Int := if bad ps ≠ 0 then (bad ps : Nat) else Dk.swapE d (all ps)
theorem cutN_le (d : Dk.St) (hb : ∀ x ∈ d.l, x < 256) : cutN d ≤ d.l.length := (scan_gives d.l hb).2.1
theorem cut_opened (d : Dk.St) (hb : ∀ x ∈ d.l, x < 256) : Dk.cut d (cutN d : Nat) = opened d ∧ Dk.cutE d (cutN d : Nat) = 0 := by
  have h : Dk.within d (cutN d : Nat) := ⟨by omega, by have := cutN_le d hb; omega⟩
  refine ⟨?_, ?_⟩
  · unfold Dk.cut; rw [if_pos h, Int.toNat_natCast]; rfl
  · unfold Dk.cutE; rw [if_pos h]
theorem opened_l (d : Dk.St) (hb : ∀ x ∈ d.l, x < 256) : (opened d).l = all (ents d) ∧ (opened d).safe = (all (ents d)).length ∧ (opened d).room = d.room ∧ ents (opened d) = ents d ∧ ∀ p ∈ ents d, ok p := by
  obtain ⟨h1, h2, h3⟩ := scan_gives d.l hb
  have hl : (opened d).l = all (ents d) := h3
  refine ⟨hl, ?_, rfl, ?_, h1⟩
  · show (scan d.l).2.1 = _
    unfold ents
    rw [← h3, List.length_take]; omega
  · show (scan (opened d).l).1 = _
    rw [hl]
    exact congrArg (·.1) (scan_whole (ps := ents d) h1)
theorem okay_opened {d : Dk.St} (h : Dk.Okay d) (hb : ∀ x ∈ d.l, x < 256) : Dk.Okay (opened d) := h.leave (cutN_le d hb)
/-- The bytes of a disk stay bytes. -/
def Byt (d : Dk.St) : Prop := ∀ x ∈ d.l, x < 256
theorem Byt.write {d : Dk.St} (h : Byt d) {b : List Nat} (hb : ∀ x ∈ b, x < 256) : Byt (Dk.write d b) := by
  unfold Dk.write
  split
  · intro x hx
    rcases List.mem_append.1 hx with hx | hx
    · exact h x hx
    · exact hb x hx
  · exact h
theorem Byt.leave {d : Dk.St} (h : Byt d) (n : Nat) : Byt (Dk.leave d n) := fun x hx => h x (List.mem_of_mem_take hx)
theorem Byt.crash {d : Dk.St} (h : Byt d) (k : Int) : Byt (Dk.crash d k) := h.leave _
theorem Byt.sync {d : Dk.St} (h : Byt d) : Byt (Dk.sync d) := h
theorem Byt.opened {d : Dk.St} (h : Byt d) : Byt (opened d) := h.leave _
theorem Byt.app {d : Dk.St} (h : Byt d) {p : List Nat} (hp : ∀ x ∈ p, x < 256) : Byt (app d p) := by
  unfold Jn.app
  split
  · exact h
  · exact h.write (fr_byte hp)
theorem bad_at {ls : List (List Nat)} {m : Nat} (h : ∀ j, j < m → putE (ls.getD j []) = 0) (hm : m < ls.length) (he : putE (ls.getD m []) ≠ 0) : bad ls = putE (ls.getD m []) := by
  induction ls generalizing m with
  | nil => simp at hm
  | cons p ps ih =>
    rcases m with _ | m
    · simp only [List.getD_cons_zero] at he ⊢
      unfold bad; rw [if_pos he]
    · have h0 := h 0 (by omega)
      simp only [List.getD_cons_zero] at h0
      unfold bad
      rw [if_neg (by omega), List.getD_cons_succ]
      rw [List.getD_cons_succ] at he
      exact ih (fun j hj => by have := h (j + 1) (by omega); rwa [List.getD_cons_succ] at this) (by simpa using hm) he
theorem bad_none {ls : List (List Nat)} (h : ∀ j, j < ls.length → putE (ls.getD j []) = 0) : bad ls = 0 := by
  induction ls with
  | nil => rfl
  | cons p ps ih =>
    have h0 := h 0 (by simp)
    simp only [List.getD_cons_zero] at h0
    unfold bad
    rw [if_neg (by omega)]
    exact ih fun j hj => by have := h (j + 1) (by simp; omega); rwa [List.getD_cons_succ] at this
theorem put_ok {p : List Nat} (h : putE p = 0) : p.length ≠ 0 ∧ p.length ≤ 1000 := by
  unfold putE at h
  split at h
  · omega
  · split at h <;> omega
theorem all_len {ls : List (List Nat)} {m : Nat} (hm : m ≤ ls.length) (h : ∀ j, j < m → putE (ls.getD j []) = 0) : (all (ls.take m)).length ≤ 1006 * m := by
  induction m with
  | zero => simp [all_nil]
  | succ m ih =>
    have := ih (by omega) fun j hj => h j (by omega)
    rw [all_take_snoc (by omega), List.length_append, fr_length]
    have := put_ok (h m (by omega))
    omega
theorem scan_small {d : Dk.St} (h : Dk.Okay d) : (ents d).length ≤ 1048576 := Nat.le_trans (scan_count d.l) (Nat.le_trans h.2.1 h.2.2)
end Jn
end Go.Proofs.Ytdamnamhbjfnlaa
