/-
  What a rollout is to be (layer 7), as numbers: which may be, its text, what is read of a text, steps and budgets. No program is named.
-/
import Derived.Test.YtifokcpkamdkeaaDoorRd
namespace Go.Proofs.YtifokcpkamdkeaaDoor
namespace Spc

/-- The 12 numbers. -/
structure Sp where
  v : Int
  d : Int
  u : Int
  n : Int
  g : Int
  a : Int
  b : Int
  c : Int
  e : Int
  w : Int
  x : Int
  k : Int
def zero : Sp := ⟨0, 0, 0, 0, 0, 0, 0, 0, 0, 0, 0, 0⟩
def flds (s : Sp) : List Int := [s.v, s.d, s.u, s.n, s.g, s.a, s.b, s.c, s.e, s.w, s.x, s.k]
def i64 (n : Int) : Prop := -9223372036854775808 ≤ n ∧ n ≤ 9223372036854775807
def In (s : Sp) : Prop := ∀ n ∈ flds s, i64 n
theorem flds_length (s : Sp) : (flds s).length = 12 := rfl
theorem flds_inj {s t : Sp} (h : flds s = flds t) : s = t := by
  cases s; cases t
  simp only [flds, List.cons.injEq, and_true] at h
  obtain ⟨h1, h2, h3, h4, h5, h6, h7, h8, h9, h10, h11, h12⟩ := h
  subst h1 h2 h3 h4 h5 h6 h7 h8 h9 h10 h11 h12
  rfl
/-- The spec of 12 numbers. -/
def of (l : List Int) : Sp := ⟨l.getD 0 0, l.getD 1 0, l.getD 2 0, l.getD 3 0, l.getD 4 0, l.getD 5 0, l.getD 6 0, l.getD 7 0, l.getD 8 0, l.getD 9 0, l.getD 10 0, l.getD 11 0⟩
theorem of_flds (s : Sp) : of (flds s) = s := rfl
theorem flds_of {l : List Int} (h : l.length = 12) : flds (of l) = l := by
  match l, h with
  | [_, _, _, _, _, _, _, _, _, _, _, _], _ => rfl

/-! Which may be. -/
def inn (n lo hi : Int) : Bool := decide (lo ≤ n) && decide (n ≤ hi)
def at_ (s : Sp) (i : Nat) : Int := [s.a, s.b, s.c, s.e].getD i 0
def st (s : Sp) (i : Nat) : Bool :=
  if s.g ≠ 0 then decide (at_ s i = 0) else if i = 0 then inn s.a 1 100 else decide (at_ s i = 0) || (decide (0 < at_ s (i - 1)) && inn (at_ s i) (at_ s (i - 1) + 1) 100)
def chk (s : Sp) : Nat :=
  if !inn s.v 1 1048576 then 1 else if !inn s.d 1 16 then 2 else if !inn s.u 0 (16 - s.d) then 3
  else if !inn s.n 0 s.d || (decide (s.n = 0) && decide (s.u = 0)) then 4 else if !inn s.g 0 2 || (decide (s.g = 2) && decide (s.u < s.d)) then 5
  else if !st s 0 then 6 else if !st s 1 then 7 else if !st s 2 then 8 else if !st s 3 then 9
  else if !inn s.w 1 1048576 then 10 else if !inn s.x 0 1048576 then 11 else if !inn s.k 1 1048576 then 12 else 0
/-- The error's number. -/
def chkE (s : Sp) : Int := if chk s = 0 then 0 else 11
theorem inn_iff {n lo hi : Int} : inn n lo hi = true ↔ lo ≤ n ∧ n ≤ hi := by unfold inn; simp
/-- What may be, said at once. -/
structure May (s : Sp) : Prop where
  v : 1 ≤ s.v ∧ s.v ≤ 1048576
  d : 1 ≤ s.d ∧ s.d ≤ 16
  u : 0 ≤ s.u ∧ s.u ≤ 16 - s.d
  n : 0 ≤ s.n ∧ s.n ≤ s.d ∧ ¬ (s.n = 0 ∧ s.u = 0)
  g : 0 ≤ s.g ∧ s.g ≤ 2 ∧ ¬ (s.g = 2 ∧ s.u < s.d)
  s0 : st s 0 = true
  s1 : st s 1 = true
  s2 : st s 2 = true
  s3 : st s 3 = true
  w : 1 ≤ s.w ∧ s.w ≤ 1048576
  x : 0 ≤ s.x ∧ s.x ≤ 1048576
  k : 1 ≤ s.k ∧ s.k ≤ 1048576
theorem may_of {s : Sp} (h : chk s = 0) : May s := by
  unfold chk at h
  have h1 : inn s.v 1 1048576 = true := by
    cases e : inn s.v 1 1048576 with
    | true => rfl
    | false => simp [e] at h
  rw [h1, if_neg (by simp)] at h
  have h2 : inn s.d 1 16 = true := by
    cases e : inn s.d 1 16 with
    | true => rfl
    | false => simp [e] at h
  rw [h2, if_neg (by simp)] at h
  have h3 : inn s.u 0 (16 - s.d) = true := by
    cases e : inn s.u 0 (16 - s.d) with
    | true => rfl
    | false => simp [e] at h
  rw [h3, if_neg (by simp)] at h
  have h4 : (!inn s.n 0 s.d || (decide (s.n = 0) && decide (s.u = 0))) = false := by
    cases e : (!inn s.n 0 s.d || (decide (s.n = 0) && decide (s.u = 0))) with
    | false => rfl
    | true => rw [e, if_pos rfl] at h; omega
  rw [h4, if_neg (by simp)] at h
  have h5 : (!inn s.g 0 2 || (decide (s.g = 2) && decide (s.u < s.d))) = false := by
    cases e : (!inn s.g 0 2 || (decide (s.g = 2) && decide (s.u < s.d))) with
    | false => rfl
    | true => rw [e, if_pos rfl] at h; omega
  rw [h5, if_neg (by simp)] at h
  have h6 : st s 0 = true := by
    cases e : st s 0 with
    | true => rfl
    | false => simp [e] at h
  rw [h6, if_neg (by simp)] at h
  have h7 : st s 1 = true := by
    cases e : st s 1 with
    | true => rfl
    | false => simp [e] at h
  rw [h7, if_neg (by simp)] at h
  have h8 : st s 2 = true := by
    cases e : st s 2 with
    | true => rfl
    | false => simp [e] at h
  rw [h8, if_neg (by simp)] at h
  have h9 : st s 3 = true := by
    cases e : st s 3 with
    | true => rfl
    | false => simp [e] at h
  rw [h9, if_neg (by simp)] at h
  have h10 : inn s.w 1 1048576 = true := by
    cases e : inn s.w 1 1048576 with
    | true => rfl
    | false => simp [e] at h
  rw [h10, if_neg (by simp)] at h
  have h11 : inn s.x 0 1048576 = true := by
    cases e : inn s.x 0 1048576 with
    | true => rfl
    | false => simp [e] at h
  rw [h11, if_neg (by simp)] at h
  have h12 : inn s.k 1 1048576 = true := by
    cases e : inn s.k 1 1048576 with
    | true => rfl
    | false => simp [e] at h
  rw [Bool.or_eq_false_iff, Bool.and_eq_false_iff, decide_eq_false_iff_not, decide_eq_false_iff_not, Bool.not_eq_false'] at h4 h5
  have i4 := inn_iff.1 h4.1
  have i5 := inn_iff.1 h5.1
  exact ⟨inn_iff.1 h1, inn_iff.1 h2, inn_iff.1 h3, by omega, by omega, h6, h7, h8, h9, inn_iff.1 h10, inn_iff.1 h11, inn_iff.1 h12⟩
theorem chk_of {s : Sp} (h : May s) : chk s = 0 := by
  obtain ⟨h1, h2, h3, h4, h5, h6, h7, h8, h9, h10, h11, h12⟩ := h
  unfold chk
  have e1 : inn s.v 1 1048576 = true := inn_iff.2 h1
  have e2 : inn s.d 1 16 = true := inn_iff.2 h2
  have e3 : inn s.u 0 (16 - s.d) = true := inn_iff.2 h3
  have e4 : inn s.n 0 s.d = true := inn_iff.2 ⟨h4.1, h4.2.1⟩
  have e5 : inn s.g 0 2 = true := inn_iff.2 ⟨h5.1, h5.2.1⟩
  have e6 : inn s.w 1 1048576 = true := inn_iff.2 h10
  have e7 : inn s.x 0 1048576 = true := inn_iff.2 h11
  have e8 : inn s.k 1 1048576 = true := inn_iff.2 h12
  have f4 : (decide (s.n = 0) && decide (s.u = 0)) = false := by
    rw [Bool.and_eq_false_iff, decide_eq_false_iff_not, decide_eq_false_iff_not]; omega
  have f5 : (decide (s.g = 2) && decide (s.u < s.d)) = false := by
    rw [Bool.and_eq_false_iff, decide_eq_false_iff_not, decide_eq_false_iff_not]; omega
  simp [e1, e2, e3, e4, e5, e6, e7, e8, f4, f5, h6, h7, h8, h9]
/-- The steps of Canary, and of others. -/
theorem May.canary {s : Sp} (h : May s) (hg : s.g = 0) : (1 ≤ s.a ∧ s.a ≤ 100) ∧ (s.b = 0 ∨ (s.a < s.b ∧ s.b ≤ 100)) ∧ (s.c = 0 ∨ (0 < s.b ∧ s.b < s.c ∧ s.c ≤ 100)) ∧ (s.e = 0 ∨ (0 < s.c ∧ s.c < s.e ∧ s.e ≤ 100)) := by
  have h0 := h.s0
  have h1 := h.s1
  have h2 := h.s2
  have h3 := h.s3
  simp [st, hg, at_, inn_iff] at h0 h1 h2 h3
  omega
theorem May.other {s : Sp} (h : May s) (hg : s.g ≠ 0) : s.a = 0 ∧ s.b = 0 ∧ s.c = 0 ∧ s.e = 0 := by
  have h0 := h.s0
  have h1 := h.s1
  have h2 := h.s2
  have h3 := h.s3
  simp [st, hg, at_] at h0 h1 h2 h3
  exact ⟨h0, h1, h2, h3⟩
/-- Numbers of one that may be are small. -/
theorem May.small {s : Sp} (h : May s) : ∀ n ∈ flds s, 0 ≤ n ∧ n ≤ 1048576 := by
  have h1 := h.v
  have h2 := h.d
  have h3 := h.u
  have h4 := h.n
  have h5 := h.g
  have h10 := h.w
  have h11 := h.x
  have h12 := h.k
  intro n hn
  simp only [flds, List.mem_cons, List.not_mem_nil, or_false] at hn
  by_cases hg : s.g = 0
  · have := h.canary hg
    rcases hn with rfl | rfl | rfl | rfl | rfl | rfl | rfl | rfl | rfl | rfl | rfl | rfl <;> omega
  · have := h.other hg
    rcases hn with rfl | rfl | rfl | rfl | rfl | rfl | rfl | rfl | rfl | rfl | rfl | rfl <;> omega
def steps (s : Sp) : List Int := if s.a = 0 then [] else if s.b = 0 then [s.a] else if s.c = 0 then [s.a, s.b] else if s.e = 0 then [s.a, s.b, s.c] else [s.a, s.b, s.c, s.e]
def cutc (n : Int) : Int := max 0 (min n 1048576)
def low (s : Sp) : Int := max (cutc s.d - cutc s.n) 0
def high (s : Sp) : Int := cutc s.d + cutc s.u
theorem May.budget {s : Sp} (h : May s) : low s = s.d - s.n ∧ high s = s.d + s.u := by
  have h2 := h.d
  have h3 := h.u
  have h4 := h.n
  unfold low high cutc
  omega

/-! Made of any. -/
def near (n least many : Int) : Int := least + n % 18446744073709551616 % many
theorem near_in (n least many : Int) (h : 0 < many) : least ≤ near n least many ∧ near n least many < least + many := by
  unfold near
  have h1 := Int.emod_nonneg (n % 18446744073709551616) (b := many) (by omega)
  have h2 := Int.emod_lt_of_pos (n % 18446744073709551616) h
  omega
/-- The steps made: as far as they go (what is made so far, the last one, how many are to come). -/
def made (s : Sp) : Nat → List Int → Int → List Int
  | 0, l, _ => l
  | m + 1, l, last =>
    let i := 3 - m
    let n := near (at_ s i) 0 60 + (if i = 0 then 1 else 0)
    if n = 0 ∨ 100 < last + n then l else made s m (l ++ [last + n]) (last + n)
def gd (s : Sp) : Int := near s.d 1 5
def gg (s : Sp) : Int := near s.g 0 3
def gu (s : Sp) : Int := if gg s = 2 then gd s + near s.u 0 2 else near s.u 0 4
def gn (s : Sp) : Int := if gu s = 0 ∧ near s.n 0 (gd s + 1) = 0 then 1 else near s.n 0 (gd s + 1)
def gs (s : Sp) : List Int := if gg s = 0 then made s 4 [] 0 else []
def good (s : Sp) : Sp := ⟨near s.v 1 6, gd s, gu s, gn s, gg s, (gs s).getD 0 0, (gs s).getD 1 0, (gs s).getD 2 0, (gs s).getD 3 0, near s.w 1 9, near s.x 0 4, near s.k 1 60⟩
/-- A row that rises, from one on, to 100. -/
def Up : List Int → Int → Prop
  | [], _ => True
  | n :: l, last => last < n ∧ n ≤ 100 ∧ Up l n
theorem up_snoc {l : List Int} {last n : Int} (h : Up l last) (hn : (l.getLastD last) < n) (h100 : n ≤ 100) : Up (l ++ [n]) last := by
  induction l generalizing last with
  | nil => exact ⟨hn, h100, trivial⟩
  | cons y l ih =>
    obtain ⟨h1, h2, h3⟩ := h
    rw [List.getLastD_cons] at hn
    exact ⟨h1, h2, ih h3 hn⟩
theorem made_up (s : Sp) (m : Nat) (l : List Int) (last : Int) (h : Up l 0) (hl : l.getLastD 0 = last) (hm : l.length + m = 4) : Up (made s m l last) 0 ∧ (made s m l last).length ≤ 4 := by
  induction m generalizing l last with
  | zero => exact ⟨h, by show l.length ≤ 4; omega⟩
  | succ m ih =>
    unfold made
    have hn := near_in (at_ s (3 - m)) 0 60 (by omega)
    simp only
    obtain ⟨t, ht⟩ : ∃ t, t = near (at_ s (3 - m)) 0 60 + (if 3 - m = 0 then 1 else 0) := ⟨_, rfl⟩
    have ht0 : 0 ≤ t := by rw [ht]; split <;> omega
    rw [← ht]
    by_cases hc : t = 0 ∨ 100 < last + t
    · rw [if_pos hc]; exact ⟨h, by omega⟩
    · rw [if_neg hc]
      exact ih _ _ (up_snoc h (by rw [hl]; omega) (by omega)) (by simp) (by rw [List.length_append]; simp; omega)
theorem gs_up (s : Sp) : Up (gs s) 0 ∧ (gs s).length ≤ 4 ∧ (gg s = 0 → gs s ≠ []) := by
  unfold gs
  by_cases h : gg s = 0
  · rw [if_pos h]
    obtain ⟨h1, h2⟩ := made_up s 4 [] 0 trivial rfl rfl
    refine ⟨h1, h2, fun _ => ?_⟩
    have hn := near_in (at_ s 0) 0 60 (by omega)
    have hlen : ∀ m l last, l.length ≤ (made s m l last).length := by
      intro m
      induction m with
      | zero => intro l last; exact Nat.le_refl _
      | succ m ih =>
        intro l last
        unfold made
        simp only
        generalize near (at_ s (3 - m)) 0 60 + (if 3 - m = 0 then 1 else 0) = t
        by_cases hc : t = 0 ∨ 100 < last + t
        · rw [if_pos hc]; exact Nat.le_refl _
        · rw [if_neg hc]
          have := ih (l ++ [last + t]) (last + t)
          rw [List.length_append] at this
          simp at this
          omega
    unfold made
    simp only [Nat.sub_self]
    rw [if_neg (by simp; omega)]
    intro e
    have := hlen 3 ([] ++ [0 + (near (at_ s 0) 0 60 + 1)]) (0 + (near (at_ s 0) 0 60 + 1))
    simp at this e
    rw [e] at this
    simp at this
  · rw [if_neg h]
    exact ⟨trivial, by simp, fun e => absurd e h⟩
theorem good_may (s : Sp) : May (good s) := by
  obtain ⟨h1, h2, h3⟩ := gs_up s
  have nv := near_in s.v 1 6 (by omega)
  have nd := near_in s.d 1 5 (by omega)
  have ng := near_in s.g 0 3 (by omega)
  have nu := near_in s.u 0 4 (by omega)
  have nu2 := near_in s.u 0 2 (by omega)
  have nw := near_in s.w 1 9 (by omega)
  have nx := near_in s.x 0 4 (by omega)
  have nk := near_in s.k 1 60 (by omega)
  have nn := near_in s.n 0 (gd s + 1) (by unfold gd; omega)
  have hu : 0 ≤ gu s ∧ gu s ≤ 11 - (5 - gd s) ∧ (gg s = 2 → gd s ≤ gu s) := by
    unfold gu gd gg at *
    split <;> omega
  have hn : 0 ≤ gn s ∧ gn s ≤ gd s ∧ ¬ (gn s = 0 ∧ gu s = 0) := by
    unfold gn
    split <;> rename_i hc <;> (unfold gd at *; omega)
  have hst : ∀ i, i < 4 → st (good s) i = true := by
    intro i hi
    have hg : (good s).g = gg s := rfl
    have ha : ∀ j, at_ (good s) j = [(gs s).getD 0 0, (gs s).getD 1 0, (gs s).getD 2 0, (gs s).getD 3 0].getD j 0 := fun _ => rfl
    have ha0 : (good s).a = (gs s).getD 0 0 := rfl
    unfold st
    rw [hg, ha, ha, ha0]
    by_cases h : gg s = 0
    · rw [if_neg (by omega)]
      have hne := h3 h
      match hgs : gs s, h1, h2, hne with
      | [], _, _, hne => exact absurd rfl hne
      | [y0], hu, _, _ =>
        obtain ⟨u1, u2, _⟩ := hu
        rcases i with _ | _ | _ | _ | i <;> simp [inn_iff] <;> omega
      | [y0, y1], hu, _, _ =>
        obtain ⟨u1, u2, u3, u4, _⟩ := hu
        rcases i with _ | _ | _ | _ | i <;> simp [inn_iff] <;> omega
      | [y0, y1, y2], hu, _, _ =>
        obtain ⟨u1, u2, u3, u4, u5, u6, _⟩ := hu
        rcases i with _ | _ | _ | _ | i <;> simp [inn_iff] <;> omega
      | [y0, y1, y2, y3], hu, _, _ =>
        obtain ⟨u1, u2, u3, u4, u5, u6, u7, u8, _⟩ := hu
        rcases i with _ | _ | _ | _ | i <;> simp [inn_iff] <;> omega
      | _ :: _ :: _ :: _ :: _ :: _, _, hl, _ => exact absurd hl (by simp)
    · rw [if_pos h]
      have e : gs s = [] := by unfold gs; rw [if_neg h]
      rw [e]
      rcases i with _ | _ | _ | _ | i <;> simp <;> omega
  refine ⟨?_, ?_, ?_, ?_, ?_, hst 0 (by omega), hst 1 (by omega), hst 2 (by omega), hst 3 (by omega), ?_, ?_, ?_⟩
  · show 1 ≤ near s.v 1 6 ∧ near s.v 1 6 ≤ 1048576; omega
  · show 1 ≤ gd s ∧ gd s ≤ 16; unfold gd; omega
  · show 0 ≤ gu s ∧ gu s ≤ 16 - gd s; unfold gd at *; omega
  · exact hn
  · show 0 ≤ gg s ∧ gg s ≤ 2 ∧ ¬ (gg s = 2 ∧ gu s < gd s); unfold gg at *; omega
  · show 1 ≤ near s.w 1 9 ∧ near s.w 1 9 ≤ 1048576; omega
  · show 0 ≤ near s.x 0 4 ∧ near s.x 0 4 ≤ 1048576; omega
  · show 1 ≤ near s.k 1 60 ∧ near s.k 1 60 ≤ 1048576; omega
end Spc
end Go.Proofs.YtifokcpkamdkeaaDoor
