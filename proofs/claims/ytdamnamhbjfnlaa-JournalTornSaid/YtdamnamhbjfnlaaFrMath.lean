/-
  Frames as plain lists of numbers: put, got, scanned, cut anywhere, torn. No program is named.
-/
import Derived.Test.YtdamnamhbjfnlaaCrcTurn
namespace Go.Proofs.Ytdamnamhbjfnlaa.Fr

/-- How many bytes, as two. -/
def hd2 (n : Nat) : List Nat := [n / 256 % 256, n % 256]
/-- A payload's frame. -/
def fr (p : List Nat) : List Nat := sealed (hd2 p.length ++ p)
/-- A payload that may be. -/
def ok (p : List Nat) : Prop := 1 ≤ p.length ∧ p.length ≤ 1000 ∧ ∀ x ∈ p, x < 256
def num2 (b : List Nat) : Nat := b.getD 0 0 * 256 + b.getD 1 0
def sizeN (n : Nat) : Nat := if 1 ≤ n ∧ n ≤ 1000 then n + 6 else 0
/-- How many bytes the first frame has. -/
def whole (b : List Nat) : Nat := if b.length < 2 then 0 else if b.length < sizeN (num2 b) then 0 else sizeN (num2 b)
def gE (b : List Nat) : Nat := if whole b = 0 then 2 else if good (b.take (whole b)) = true then 0 else 3
def gN (b : List Nat) : Nat := if gE b = 0 then whole b else 0
def gP (b : List Nat) : List Nat := if gE b = 0 then (b.take (whole b - 4)).drop 2 else []

theorem sizeN_yes {n : Nat} (h1 : 1 ≤ n) (h2 : n ≤ 1000) : sizeN n = n + 6 := by unfold sizeN; rw [if_pos ⟨h1, h2⟩]
theorem sizeN_no {n : Nat} (h : n < 1 ∨ 1000 < n) : sizeN n = 0 := by unfold sizeN; rw [if_neg (by omega)]
theorem sizeN_le (n : Nat) : sizeN n ≤ 1006 := by unfold sizeN; split <;> omega
theorem sizeN_cases (n : Nat) : sizeN n = 0 ∨ (7 ≤ sizeN n ∧ sizeN n = n + 6 ∧ n ≤ 1000) := by unfold sizeN; split <;> omega
theorem whole_le (b : List Nat) : whole b ≤ b.length := by unfold whole; split <;> (try split) <;> omega
theorem whole_cases (b : List Nat) : whole b = 0 ∨ (7 ≤ whole b ∧ whole b ≤ 1006 ∧ whole b ≤ b.length ∧ whole b = num2 b + 6) := by
  have h := whole_le b
  unfold whole at *
  have := sizeN_cases (num2 b)
  split <;> (try split) <;> simp_all <;> omega
theorem hd2_length (n : Nat) : (hd2 n).length = 2 := rfl
theorem hd2_byte (n : Nat) : ∀ x ∈ hd2 n, x < 256 := by
  intro x hx
  simp only [hd2, List.mem_cons, List.mem_nil_iff, or_false] at hx
  rcases hx with rfl | rfl <;> omega
theorem bare_byte {p : List Nat} (h : ∀ x ∈ p, x < 256) : ∀ x ∈ hd2 p.length ++ p, x < 256 := by
  intro x hx
  rcases List.mem_append.1 hx with hx | hx
  · exact hd2_byte _ x hx
  · exact h x hx
theorem fr_byte {p : List Nat} (h : ∀ x ∈ p, x < 256) : ∀ x ∈ fr p, x < 256 := sealed_byte (bare_byte h)
theorem fr_length (p : List Nat) : (fr p).length = p.length + 6 := by unfold fr; rw [sealed_length, List.length_append, hd2_length]; omega
theorem fr_parts (p : List Nat) : fr p = p.length / 256 % 256 :: p.length % 256 :: (p ++ be4 (Crc.sum (hd2 p.length ++ p))) := by
  unfold fr sealed
  simp [hd2]
theorem gE_zero {b : List Nat} (h : gE b = 0) : 7 ≤ whole b ∧ whole b ≤ 1006 ∧ whole b ≤ b.length ∧ whole b = num2 b + 6 ∧ good (b.take (whole b)) = true := by
  unfold gE at h
  split at h
  · cases h
  · rename_i h0
    split at h
    · rename_i h1
      rcases whole_cases b with h2 | h2
      · exact absurd h2 h0
      · exact ⟨h2.1, h2.2.1, h2.2.2.1, h2.2.2.2, h1⟩
    · cases h
theorem gP_length {b : List Nat} (h : gE b = 0) : (gP b).length = whole b - 6 := by
  have h2 := gE_zero h
  unfold gP
  rw [if_pos h, List.length_drop, List.length_take]
  omega
theorem gP_byte {b : List Nat} (h : ∀ x ∈ b, x < 256) : ∀ x ∈ gP b, x < 256 := by
  intro x hx
  unfold gP at hx
  split at hx
  · exact h x (List.mem_of_mem_take (List.mem_of_mem_drop hx))
  · cases hx
theorem gE_two {b : List Nat} (h : whole b = 0) : gE b = 2 := by unfold gE; rw [if_pos h]
theorem gE_three {b : List Nat} (h : whole b ≠ 0) (hg : good (b.take (whole b)) = false) : gE b = 3 := by unfold gE; rw [if_neg h, if_neg (by rw [hg]; decide)]
theorem gE_yes {b : List Nat} (h : whole b ≠ 0) (hg : good (b.take (whole b)) = true) : gE b = 0 := by unfold gE; rw [if_neg h, if_pos hg]

/-- All frames from the beginning on. -/
def scan (b : List Nat) : List (List Nat) × Nat × Nat :=
  if b = [] then ([], 0, 0)
  else if _h : gE b = 0 then (gP b :: (scan (b.drop (whole b))).1, whole b + (scan (b.drop (whole b))).2.1, (scan (b.drop (whole b))).2.2)
  else ([], 0, gE b)
termination_by b.length
decreasing_by
  all_goals
    have := gE_zero _h
    rw [List.length_drop]
    omega
theorem scan_nil : scan [] = ([], 0, 0) := by rw [scan]; simp
theorem scan_no {b : List Nat} (h0 : b ≠ []) (h : gE b ≠ 0) : scan b = ([], 0, gE b) := by rw [scan, if_neg h0, dif_neg h]
theorem scan_yes {b : List Nat} (h : gE b = 0) : scan b = (gP b :: (scan (b.drop (whole b))).1, whole b + (scan (b.drop (whole b))).2.1, (scan (b.drop (whole b))).2.2) := by
  have h0 : b ≠ [] := by
    rintro rfl
    have := (gE_zero h).2.2.1
    have := (gE_zero h).1
    simp at *; omega
  conv => lhs; rw [scan]
  rw [if_neg h0, dif_pos h]

theorem scan_count (b : List Nat) : (scan b).1.length ≤ b.length := by
  obtain ⟨n, hn⟩ : ∃ n, b.length ≤ n := ⟨_, Nat.le_refl _⟩
  induction n generalizing b with
  | zero =>
    have : b = [] := List.eq_nil_of_length_eq_zero (by omega)
    subst this
    rw [scan_nil]; simp
  | succ n ih =>
    by_cases h0 : b = []
    · subst h0; rw [scan_nil]; simp
    · by_cases h : gE b = 0
      · have h7 := gE_zero h
        have := ih (b.drop (whole b)) (by rw [List.length_drop]; omega)
        rw [List.length_drop] at this
        rw [scan_yes h]
        simp only [List.length_cons]
        omega
      · rw [scan_no h0 h]; simp

/-! What is put is got. -/
theorem num2_fr {p r : List Nat} (h : p.length ≤ 1000) : num2 (fr p ++ r) = p.length := by
  rw [fr_parts]
  unfold num2
  simp only [List.cons_append, List.getD_cons_zero, List.getD_cons_succ]
  omega
theorem whole_fr {p r : List Nat} (h : ok p) : whole (fr p ++ r) = p.length + 6 := by
  unfold whole
  rw [num2_fr h.2.1, sizeN_yes h.1 h.2.1, if_neg (by rw [List.length_append, fr_length]; omega), if_neg (by rw [List.length_append, fr_length]; omega)]
theorem take_fr {p r : List Nat} : (fr p ++ r).take (p.length + 6) = fr p := by
  rw [← fr_length p, List.take_left]
theorem gE_fr {p r : List Nat} (h : ok p) : gE (fr p ++ r) = 0 := by
  apply gE_yes
  · rw [whole_fr h]; omega
  · rw [whole_fr h, take_fr]; exact good_sealed _
theorem gP_fr {p r : List Nat} (h : ok p) : gP (fr p ++ r) = p := by
  unfold gP
  rw [if_pos (gE_fr h), whole_fr h, fr_parts, show p.length + 6 - 4 = p.length + 1 + 1 from by omega, List.cons_append, List.cons_append, List.take_succ_cons, List.take_succ_cons]
  simp
theorem gN_fr {p r : List Nat} (h : ok p) : gN (fr p ++ r) = p.length + 6 := by unfold gN; rw [if_pos (gE_fr h), whole_fr h]
theorem scan_fr {p r : List Nat} (h : ok p) : scan (fr p ++ r) = (p :: (scan r).1, p.length + 6 + (scan r).2.1, (scan r).2.2) := by
  have hd : (fr p ++ r).drop (whole (fr p ++ r)) = r := by rw [whole_fr h, ← fr_length p, List.drop_left]
  rw [scan_yes (gE_fr h), hd, gP_fr h, whole_fr h]
/-- Frames, one behind the other. -/
def all (ps : List (List Nat)) : List Nat := ps.flatMap fr
theorem all_nil : all [] = [] := rfl
theorem all_cons (p : List Nat) (ps : List (List Nat)) : all (p :: ps) = fr p ++ all ps := rfl
theorem all_append (a b : List (List Nat)) : all (a ++ b) = all a ++ all b := by unfold all; rw [List.flatMap_append]
theorem all_one (p : List Nat) : all [p] = fr p := by simp [all]
theorem all_byte {ps : List (List Nat)} (h : ∀ p ∈ ps, ok p) : ∀ x ∈ all ps, x < 256 := by
  intro x hx
  obtain ⟨p, hp, hx⟩ := List.mem_flatMap.1 hx
  exact fr_byte (h p hp).2.2 x hx
theorem scan_all {ps : List (List Nat)} (h : ∀ p ∈ ps, ok p) (r : List Nat) : scan (all ps ++ r) = (ps ++ (scan r).1, (all ps).length + (scan r).2.1, (scan r).2.2) := by
  induction ps with
  | nil => simp [all_nil]
  | cons p ps ih =>
    rw [all_cons, List.append_assoc, scan_fr (h p (by simp)), ih (fun q hq => h q (by simp [hq]))]
    simp only [List.length_append, fr_length, List.cons_append, Nat.add_assoc]
theorem scan_whole {ps : List (List Nat)} (h : ∀ p ∈ ps, ok p) : scan (all ps) = (ps, (all ps).length, 0) := by
  have := scan_all h []
  rw [List.append_nil, scan_nil] at this
  simpa using this

/-! Cut anywhere. -/
theorem scan_cut {p : List Nat} (h : ok p) {k : Nat} (hk : k < p.length + 6) : scan ((fr p).take k) = ([], 0, if k = 0 then 0 else 2) := by
  by_cases h0 : k = 0
  · subst h0
    rw [List.take_zero, scan_nil, if_pos rfl]
  · have hl : ((fr p).take k).length = k := by rw [List.length_take, fr_length]; omega
    have hw : whole ((fr p).take k) = 0 := by
      unfold whole
      rw [hl]
      by_cases h2 : k < 2
      · rw [if_pos h2]
      · have hn : num2 ((fr p).take k) = p.length := by
          have e : k = k - 2 + 1 + 1 := by omega
          rw [fr_parts, e, List.take_succ_cons, List.take_succ_cons]
          unfold num2
          simp only [List.getD_cons_zero, List.getD_cons_succ]
          have := h.2.1
          omega
        rw [if_neg h2, hn, sizeN_yes h.1 h.2.1, if_pos (by omega)]
    have he := gE_two hw
    rw [scan_no (fun e => by rw [e] at hl; simp at hl; omega) (by omega), he, if_neg h0]
theorem cut_any {ps : List (List Nat)} (h : ∀ p ∈ ps, ok p) (k : Nat) (hk : k ≤ (all ps).length) :
    ∃ j n, j ≤ ps.length ∧ n = (all (ps.take j)).length ∧ n ≤ k ∧ scan ((all ps).take k) = (ps.take j, n, if n = k then 0 else 2) ∧ (j < ps.length → k < n + ((ps.getD j []).length + 6)) := by
  induction ps generalizing k with
  | nil =>
    simp only [all_nil, List.length_nil] at hk
    obtain rfl : k = 0 := by omega
    exact ⟨0, 0, by simp, by simp [all_nil], by omega, by simp [all_nil, scan_nil], by simp⟩
  | cons p ps ih =>
    have hp := h p (by simp)
    rw [all_cons, List.length_append, fr_length] at hk
    by_cases hc : k < p.length + 6
    · refine ⟨0, 0, by simp, by simp [all_nil], by omega, ?_, fun _ => by simpa using hc⟩
      rw [all_cons, List.take_append_of_le_length (by rw [fr_length]; omega), scan_cut hp hc, List.take_zero]
      by_cases h0 : k = 0
      · rw [if_pos h0, if_pos h0.symm]
      · rw [if_neg h0, if_neg (by omega)]
    · obtain ⟨j, n, h1, h2, h3, h4, h5⟩ := ih (fun q hq => h q (by simp [hq])) (k - (p.length + 6)) (by omega)
      refine ⟨j + 1, p.length + 6 + n, by simp; omega, by rw [List.take_succ_cons, all_cons, List.length_append, fr_length, h2], by omega, ?_, ?_⟩
      · have e : (all (p :: ps)).take k = fr p ++ (all ps).take (k - (p.length + 6)) := by
          rw [all_cons, List.take_append, List.take_of_length_le (by rw [fr_length]; omega), fr_length]
        rw [e, scan_fr hp, h4, List.take_succ_cons]
        by_cases hnk : n = k - (p.length + 6)
        · rw [if_pos hnk, if_pos (by omega)]
        · rw [if_neg hnk, if_neg (by omega)]
      · intro hj
        have := h5 (by simp at hj; omega)
        rw [List.getD_cons_succ]
        omega

/-! One byte turned. -/
theorem scan_torn {p r : List Nat} (h : ok p) {i y : Nat} (hi : i < p.length + 6) (h2 : 1 < i) (hy : y < 256) (hne : y ≠ (fr p).getD i 0) : scan ((fr p).set i y ++ r) = ([], 0, 3) := by
  have hn : num2 ((fr p).set i y ++ r) = p.length := by
    have e : i = i - 2 + 1 + 1 := by omega
    rw [fr_parts, e, List.set_cons_succ, List.set_cons_succ]
    unfold num2
    simp only [List.cons_append, List.getD_cons_zero, List.getD_cons_succ]
    have := h.2.1
    omega
  have hl : ((fr p).set i y).length = p.length + 6 := by rw [List.length_set, fr_length]
  have hw : whole ((fr p).set i y ++ r) = p.length + 6 := by
    unfold whole
    rw [hn, sizeN_yes h.1 h.2.1, if_neg (by rw [List.length_append, hl]; omega), if_neg (by rw [List.length_append, hl]; omega)]
  have ht : ((fr p).set i y ++ r).take (p.length + 6) = (fr p).set i y := by rw [← hl, List.take_left]
  have hg : good ((fr p).set i y) = false := good_one (bare_byte h.2.2) (by rw [List.length_append, hd2_length]; omega) hy hne
  have he : gE ((fr p).set i y ++ r) = 3 := gE_three (by omega) (by rw [hw, ht]; exact hg)
  rw [scan_no (fun e => by have := congrArg List.length e; rw [List.length_append, hl] at this; simp at this) (by omega), he]
theorem torn_at {ps : List (List Nat)} (h : ∀ p ∈ ps, ok p) {j k y : Nat} (hj : j < ps.length) (hk1 : (all (ps.take j)).length ≤ k) (hk2 : k < (all (ps.take j)).length + ((ps.getD j []).length + 6)) (hy : y < 256) (hne : y ≠ (all ps).getD k 0) :
    ∃ g m e, scan ((all ps).set k y) = (ps.take j ++ g, (all (ps.take j)).length + m, e) ∧ ((all (ps.take j)).length + 1 < k → g = [] ∧ m = 0 ∧ e = 3) := by
  have hp : ok (ps.getD j []) := by rw [getD_at hj]; exact h _ (List.getElem_mem hj)
  have hs : ps = ps.take j ++ ps.getD j [] :: ps.drop (j + 1) := by rw [getD_at hj, List.getElem_cons_drop, List.take_append_drop]
  have ha : all ps = all (ps.take j) ++ (fr (ps.getD j []) ++ all (ps.drop (j + 1))) := by
    conv => lhs; rw [hs]
    rw [all_append, all_cons]
  generalize ps.getD j [] = p at *
  have hset : (all ps).set k y = all (ps.take j) ++ ((fr p).set (k - (all (ps.take j)).length) y ++ all (ps.drop (j + 1))) := by
    rw [ha, List.set_append_right _ _ hk1, List.set_append_left _ _ (by rw [fr_length]; omega)]
  have hnk : y ≠ (fr p).getD (k - (all (ps.take j)).length) 0 := by
    rw [ha, getD_append_right _ _ _ hk1, getD_append_left _ _ _ (by rw [fr_length]; omega)] at hne
    exact hne
  refine ⟨_, _, _, by rw [hset, scan_all (fun q hq => h q (List.mem_of_mem_take hq))], fun hlt => ?_⟩
  rw [scan_torn hp (by omega) (by omega) hy hnk]
  exact ⟨rfl, rfl, rfl⟩
theorem all_take_le (ps : List (List Nat)) (j : Nat) : (all (ps.take j)).length ≤ (all ps).length := by
  have h : all ps = all (ps.take j) ++ all (ps.drop j) := by rw [← all_append, List.take_append_drop]
  rw [h, List.length_append]; omega
theorem all_take_succ {ps : List (List Nat)} {j : Nat} (hj : j < ps.length) : (all (ps.take (j + 1))).length = (all (ps.take j)).length + ((ps.getD j []).length + 6) := by
  rw [List.take_succ_eq_append_getElem hj, all_append, all_one, List.length_append, fr_length, getD_at hj]
/-- Are the frame's bytes those that stand there? -/
theorem same_fr {b : List Nat} (hb : ∀ x ∈ b, x < 256) (hw : whole b ≠ 0) : (fr ((b.take (whole b - 4)).drop 2) = b.take (whole b)) ↔ good (b.take (whole b)) = true := by
  obtain ⟨h7, h6, hl, hn⟩ : 7 ≤ whole b ∧ whole b ≤ 1006 ∧ whole b ≤ b.length ∧ whole b = num2 b + 6 := by
    rcases whole_cases b with h | h
    · exact absurd h hw
    · exact h
  match b, hb, hl with
  | [], _, hl => simp at hl; omega
  | [_], _, hl => simp at hl; omega
  | x :: y :: t, hb, hl =>
    have hx := hb x (by simp)
    have hy := hb y (by simp)
    have hnn : num2 (x :: y :: t) = x * 256 + y := rfl
    generalize whole (x :: y :: t) = W at *
    rw [hnn] at hn
    have hm : W = W - 6 + 4 + 1 + 1 := by omega
    have e1 : (x :: y :: t).take W = (x :: y :: t.take (W - 6)) ++ (t.drop (W - 6)).take 4 := by
      conv => lhs; rw [hm]
      rw [List.take_succ_cons, List.take_succ_cons, List.take_add]; rfl
    have e2 : ((x :: y :: t).take (W - 4)).drop 2 = t.take (W - 6) := by
      rw [show W - 4 = W - 6 + 1 + 1 from by omega, List.take_succ_cons, List.take_succ_cons]; rfl
    have hlt : (t.take (W - 6)).length = W - 6 := by rw [List.length_take]; simp at hl; omega
    have hhd : hd2 (t.take (W - 6)).length ++ t.take (W - 6) = x :: y :: t.take (W - 6) := by
      rw [hlt]
      simp only [hd2, List.cons_append, List.nil_append, List.cons.injEq, and_true]
      omega
    have hl4 : ((t.drop (W - 6)).take 4).length = 4 := by rw [List.length_take, List.length_drop]; simp at hl; omega
    rw [e1, e2]
    unfold fr
    rw [hhd, good_parts _ _ hl4, decide_eq_true_eq]
    unfold sealed
    rw [List.append_cancel_left_eq]
    have hs := Crc.sum_lt (x :: y :: t.take (W - 6))
    generalize Crc.sum (x :: y :: t.take (W - 6)) = s at hs
    have hb4 : ∀ z ∈ (t.drop (W - 6)).take 4, z < 256 := fun z hz => hb z (by simp [List.mem_of_mem_drop (List.mem_of_mem_take hz)])
    generalize (t.drop (W - 6)).take 4 = q at hl4 hb4
    match q, hl4, hb4 with
    | [a, b, c, d], _, hb =>
      have h1 := hb a (by simp)
      have h2 := hb b (by simp)
      have h3 := hb c (by simp)
      have h4 := hb d (by simp)
      rw [rd4_eq]
      simp only [be4, List.cons.injEq, and_true]
      constructor
      · rintro ⟨e1, e2, e3, e4⟩; omega
      · intro e; subst e; omega
theorem all_take_snoc {ls : List (List Nat)} {k : Nat} (h : k < ls.length) : all (ls.take (k + 1)) = all (ls.take k) ++ fr (ls.getD k []) := by
  rw [List.take_succ_eq_append_getElem h, all_append, all_one, getD_at h]
theorem all_small {ls : List (List Nat)} (h : ∀ p ∈ ls, p.length ≤ 30) : (all ls).length ≤ 36 * ls.length := by
  induction ls with
  | nil => simp [all_nil]
  | cons p ls ih =>
    have h1 := h p (by simp)
    have h2 := ih (fun q hq => h q (by simp [hq]))
    rw [all_cons, List.length_append, fr_length, List.length_cons]
    omega
end Go.Proofs.Ytdamnamhbjfnlaa.Fr
