/-
  Journals told by their entries: what each call makes of a row of entries that may be. No program is named.
-/
import Derived.Test.YtdamnamhbjfnlaaJnMath
namespace Go.Proofs.Ytdamnamhbjfnlaa
open Go.RowKit
namespace Jn
open Fr

/-- A disk of room R that holds the entries ps, the first k of them safe. -/
def Js (R k : Nat) (ps : List (List Nat)) : Dk.St := ⟨R, (all (ps.take k)).length, all ps⟩
theorem putE_ok {p : List Nat} (h : ok p) : putE p = 0 := by unfold putE; rw [if_neg (by have := h.1; omega), if_neg (by have := h.2.1; omega)]
theorem js_new (n : Int) : Dk.new n = Js (Dk.fits n) 0 [] := rfl
theorem all_mono (ps : List (List Nat)) {i j : Nat} (h : i ≤ j) : (all (ps.take i)).length ≤ (all (ps.take j)).length := by
  have := all_take_le (ps.take j) i
  rwa [List.take_take, Nat.min_eq_left h] at this
theorem all_front (ps : List (List Nat)) (k : Nat) : (all ps).take (all (ps.take k)).length = all (ps.take k) := by
  conv => lhs; rw [← List.take_append_drop k ps, all_append]
  rw [List.take_append_drop, List.take_left']
  rfl
section
variable {R k : Nat} {ps : List (List Nat)} (h : ∀ p ∈ ps, ok p) (hk : k ≤ ps.length)
include h
theorem js_ents : ents (Js R k ps) = ps := by unfold ents Js; rw [scan_whole h]
theorem js_byt : Byt (Js R k ps) := all_byte h
theorem js_opened : opened (Js R k ps) = Js R ps.length ps := by
  have e : cutN (Js R k ps) = (all ps).length := by unfold cutN Js; rw [scan_whole h]
  unfold opened
  rw [e]
  unfold Dk.leave Js
  rw [List.take_length, List.take_length]
theorem js_cut : cutN (Js R k ps) = (Js R k ps).l.length := by unfold cutN Js; rw [scan_whole h]
include hk in
theorem js_safe : safeN (Js R k ps) = k := by
  unfold safeN Js
  show (scan ((all ps).take (all (ps.take k)).length)).1.length = k
  rw [all_front, scan_whole (fun p hp => h p (List.mem_of_mem_take hp)), List.length_take]
  omega
omit h in
include hk in
theorem js_app {p : List Nat} (hp : ok p) (hr : (all ps).length + (p.length + 6) ≤ R) : app (Js R k ps) p = Js R k (ps ++ [p]) ∧ appE (Js R k ps) p = 0 := by
  have hg : Dk.goes (Js R k ps) (fr p) := by unfold Dk.goes Js; rw [fr_length]; exact hr
  unfold app appE
  rw [if_neg (by rw [putE_ok hp]; decide), if_neg (by rw [putE_ok hp]; decide)]
  unfold Dk.write Dk.writeE
  rw [if_pos hg, if_pos hg]
  refine ⟨?_, rfl⟩
  unfold Js
  rw [List.take_append_of_le_length hk, all_append, all_one]
omit h in
theorem js_sync : Dk.sync (Js R k ps) = Js R ps.length ps := by unfold Dk.sync Js; rw [List.take_length]
omit h in
theorem js_swap {qs : List (List Nat)} (hq : ∀ p ∈ qs, ok p) (hr : (all qs).length ≤ R) : swap (Js R k ps) qs = Js R qs.length qs ∧ swapE (Js R k ps) qs = 0 := by
  have hb : bad qs = 0 := bad_none fun j hj => by
    rw [List.getD_eq_getElem?_getD, List.getElem?_eq_getElem hj]
    exact putE_ok (hq _ (List.getElem_mem hj))
  unfold swap swapE
  rw [if_neg (by omega), if_neg (by omega)]
  unfold Dk.swap Dk.swapE
  rw [if_pos (show (all qs).length ≤ (Js R k ps).room from hr), if_pos (show (all qs).length ≤ (Js R k ps).room from hr)]
  refine ⟨?_, rfl⟩
  unfold Js
  rw [List.take_length]
include hk in
theorem js_torn {p : List Nat} (hp : ok p) (hr : (all ps).length + (p.length + 6) ≤ R) (keep : Int) :
    torn (Js R k ps) p keep = (if (p.length + 6 : Nat) ≤ keep then Js R (ps.length + 1) (ps ++ [p]) else Js R ps.length ps) ∧ tornE (Js R k ps) p = 13 := by
  have he := (js_app (k := k) hk hp hr).2
  unfold torn tornE
  have hne : ¬ appE (Js R k ps) p ≠ 0 := fun hx => hx he
  rw [if_neg hne, if_neg hne]
  refine ⟨?_, rfl⟩
  have hm : keptN p keep ≤ p.length + 6 := by unfold keptN; rw [fr_length]; omega
  have hg : Dk.goes (Js R k ps) ((fr p).take (keptN p keep)) := by
    unfold Dk.goes Js
    rw [List.length_take, fr_length]
    show (all ps).length + _ ≤ R
    omega
  have hl : Dk.sync (Dk.write (Js R k ps) ((fr p).take (keptN p keep))) = ⟨R, ((all ps) ++ (fr p).take (keptN p keep)).length, (all ps) ++ (fr p).take (keptN p keep)⟩ := by
    unfold Dk.write
    rw [if_pos hg]
    rfl
  rw [hl]
  unfold opened cutN Dk.leave
  show (⟨R, (scan (all ps ++ (fr p).take (keptN p keep))).2.1, (all ps ++ (fr p).take (keptN p keep)).take (scan (all ps ++ (fr p).take (keptN p keep))).2.1⟩ : Dk.St) = _
  rw [scan_all h]
  by_cases hc : ((p.length + 6 : Nat) : Int) ≤ keep
  · rw [if_pos hc]
    have e1 : keptN p keep = p.length + 6 := by unfold keptN; rw [fr_length]; omega
    have e2 : (fr p).take (keptN p keep) = fr p := by rw [e1]; exact List.take_of_length_le (by rw [fr_length]; omega)
    have e3 : scan (fr p) = ([p], p.length + 6, 0) := by have := scan_whole (ps := [p]) (by simpa using hp); rw [all_one] at this; rw [this, fr_length]
    rw [e2, e3]
    unfold Js
    have e4 : (ps ++ [p]).take (ps.length + 1) = ps ++ [p] := List.take_of_length_le (by simp)
    rw [e4, all_append, all_one]
    show (⟨R, (all ps).length + (p.length + 6), (all ps ++ fr p).take ((all ps).length + (p.length + 6))⟩ : Dk.St) = _
    rw [List.take_of_length_le (by rw [List.length_append, fr_length]; omega), List.length_append, fr_length]
  · rw [if_neg hc]
    have e1 : keptN p keep < p.length + 6 := by unfold keptN; rw [fr_length]; omega
    rw [scan_cut hp e1]
    unfold Js
    show (⟨R, (all ps).length + 0, (all ps ++ (fr p).take (keptN p keep)).take ((all ps).length + 0)⟩ : Dk.St) = _
    rw [Nat.add_zero, List.take_left', List.take_length]
    rfl
end
/-- A row of entries, appended one by one. -/
theorem js_app_at {R k j : Nat} {xs ys : List (List Nat)} (hy : ∀ p ∈ ys, ok p) (hk : k ≤ xs.length) (hj : j < ys.length) (hr : (all (xs ++ ys)).length ≤ R) :
    app (Js R k (xs ++ ys.take j)) (ys.getD j []) = Js R k (xs ++ ys.take (j + 1)) ∧ appE (Js R k (xs ++ ys.take j)) (ys.getD j []) = 0 := by
  have e : ys.getD j [] = ys[j] := by rw [List.getD_eq_getElem?_getD, List.getElem?_eq_getElem hj]; rfl
  have h2 := all_take_succ (ps := ys) hj
  have h3 := all_take_le ys (j + 1)
  rw [all_append, List.length_append] at hr
  have h := js_app (R := R) (k := k) (ps := xs ++ ys.take j) (by rw [List.length_append]; omega) (p := ys.getD j []) (by rw [e]; exact hy _ (List.getElem_mem hj)) (by rw [all_append, List.length_append]; omega)
  rw [List.append_assoc] at h
  have e2 : ys.take j ++ [ys.getD j []] = ys.take (j + 1) := by rw [List.take_succ_eq_append_getElem hj, e]
  rw [e2] at h
  exact h
/-- How many entries are there behind a crash. -/
def crN (k : Nat) (ps : List (List Nat)) (keep : Int) : Nat := (scan ((all ps).take ((all (ps.take k)).length + Dk.kept (Js 0 k ps) keep))).1.length
theorem js_crash {R k : Nat} {ps : List (List Nat)} (h : ∀ p ∈ ps, ok p) (hk : k ≤ ps.length) (keep : Int) :
    crash (Js R k ps) keep = Js R (crN k ps keep) (ps.take (crN k ps keep)) ∧ k ≤ crN k ps keep ∧ crN k ps keep ≤ ps.length := by
  have hs := all_take_le ps k
  have hkept : Dk.kept (Js R k ps) keep = Dk.kept (Js 0 k ps) keep := rfl
  have hle : (all (ps.take k)).length + Dk.kept (Js 0 k ps) keep ≤ (all ps).length := by
    have : Dk.opens (Js 0 k ps) = (all ps).length - (all (ps.take k)).length := rfl
    unfold Dk.kept
    omega
  obtain ⟨j, n, h1, h2, h3, h4, h5⟩ := cut_any h _ hle
  have hj : crN k ps keep = j := by unfold crN; rw [h4]; simp; omega
  rw [hj]
  refine ⟨?_, ?_, h1⟩
  · unfold crash Dk.crash
    rw [hkept]
    unfold opened cutN Dk.leave
    show (⟨R, (scan ((all ps).take ((all (ps.take k)).length + Dk.kept (Js 0 k ps) keep))).2.1, ((all ps).take ((all (ps.take k)).length + Dk.kept (Js 0 k ps) keep)).take (scan ((all ps).take ((all (ps.take k)).length + Dk.kept (Js 0 k ps) keep))).2.1⟩ : Dk.St) = _
    rw [h4]
    show (⟨R, n, ((all ps).take ((all (ps.take k)).length + Dk.kept (Js 0 k ps) keep)).take n⟩ : Dk.St) = _
    rw [List.take_take, Nat.min_eq_left h3]
    unfold Js
    rw [List.take_take, Nat.min_self, h2, all_front]
  · by_cases hc : k ≤ j
    · exact hc
    · have := h5 (by omega)
      have h6 := all_take_succ (ps := ps) (j := j) (by omega)
      have h7 := all_mono ps (show j + 1 ≤ k by omega)
      omega
/-- More bytes that are kept keep no fewer entries. -/
theorem crN_mono {k : Nat} {ps : List (List Nat)} (h : ∀ p ∈ ps, ok p) {a b : Int} (hab : a ≤ b) : crN k ps a ≤ crN k ps b := by
  have hs := all_take_le ps k
  have hle : ∀ x, (all (ps.take k)).length + Dk.kept (Js 0 k ps) x ≤ (all ps).length := by
    intro x
    have : Dk.opens (Js 0 k ps) = (all ps).length - (all (ps.take k)).length := rfl
    unfold Dk.kept
    omega
  have hab2 : Dk.kept (Js 0 k ps) a ≤ Dk.kept (Js 0 k ps) b := by unfold Dk.kept; omega
  obtain ⟨j, n, h1, h2, h3, h4, h5⟩ := cut_any h _ (hle a)
  obtain ⟨j', n', h1', h2', h3', h4', h5'⟩ := cut_any h _ (hle b)
  have hj : crN k ps a = j := by unfold crN; rw [h4]; simp; omega
  have hj' : crN k ps b = j' := by unfold crN; rw [h4']; simp; omega
  rw [hj, hj']
  by_cases hc : j ≤ j'
  · exact hc
  · have := h5' (by omega)
    have h6 := all_take_succ (ps := ps) (j := j') (by omega)
    have h7 := all_mono ps (show j' + 1 ≤ j by omega)
    omega
end Jn
end Go.Proofs.Ytdamnamhbjfnlaa
