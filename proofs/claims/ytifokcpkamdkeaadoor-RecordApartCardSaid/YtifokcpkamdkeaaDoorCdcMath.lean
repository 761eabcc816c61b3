/-
  Numbers as digits to the base 128, and what a reader of such digits tells: plain lists. No program is named.
-/
namespace Go.Proofs.YtifokcpkamdkeaaDoor.Cdc

/-- A number's digits, the lowest first; all but the last one with 128 more. -/
def digs (n : Nat) : List Nat := if n < 128 then [n] else (n % 128 + 128) :: digs (n / 128)
termination_by n
decreasing_by omega

theorem digs_lt {n : Nat} (h : n < 128) : digs n = [n] := by rw [digs, if_pos h]
theorem digs_ge {n : Nat} (h : 128 ≤ n) : digs n = (n % 128 + 128) :: digs (n / 128) := by rw [digs, if_neg (by omega)]
theorem digs_ind {p : Nat → Prop} (a : ∀ n, n < 128 → p n) (b : ∀ n, 128 ≤ n → p (n / 128) → p n) (n : Nat) : p n := by
  induction n using Nat.strongRecOn with
  | _ n ih =>
    by_cases h : n < 128
    · exact a n h
    · exact b n (by omega) (ih _ (by omega))
theorem digs_byte (n : Nat) : ∀ x ∈ digs n, x < 256 := by
  refine digs_ind (p := fun n => ∀ x ∈ digs n, x < 256) ?_ ?_ n
  · intro n h x hx; rw [digs_lt h] at hx; simp at hx; omega
  · intro n h ih x hx
    rw [digs_ge h] at hx
    rcases List.mem_cons.1 hx with rfl | hx
    · omega
    · exact ih x hx
theorem digs_pos (n : Nat) : 1 ≤ (digs n).length := by
  rw [digs]; split <;> simp
theorem digs_le {n k : Nat} (hk : 1 ≤ k) (h : n < 128 ^ k) : (digs n).length ≤ k := by
  induction k generalizing n with
  | zero => omega
  | succ k ih =>
    by_cases hn : n < 128
    · rw [digs_lt hn]; simp
    · rw [digs_ge (by omega), List.length_cons]
      have : n / 128 < 128 ^ k := by rw [Nat.pow_succ] at h; omega
      rcases k with _ | k
      · simp at this; omega
      · have := ih (by omega) this; omega
theorem digs_nine {n : Nat} (h : n < 9223372036854775808) : (digs n).length ≤ 9 := digs_le (by omega) (by rw [show (128 : Nat) ^ 9 = 9223372036854775808 from by decide]; exact h)
theorem digs_one {n : Nat} : (digs n).length = 1 ↔ n < 128 := by
  constructor
  · intro h
    by_cases hn : n < 128
    · exact hn
    · rw [digs_ge (by omega), List.length_cons] at h
      have := digs_pos (n / 128); omega
  · intro h; rw [digs_lt h]; rfl
theorem digs_two {n : Nat} : (digs n).length ≤ 2 ↔ n < 16384 := by
  constructor
  · intro h
    by_cases hn : n < 128
    · omega
    · rw [digs_ge (by omega), List.length_cons] at h
      have h1 := digs_pos (n / 128)
      have := digs_one.1 (show (digs (n / 128)).length = 1 by omega)
      omega
  · intro h; exact digs_le (k := 2) (by omega) (by omega)
theorem digs_up {a b : Nat} (h : a ≤ b) : (digs a).length ≤ (digs b).length := by
  induction b using Nat.strongRecOn generalizing a with
  | _ b ih =>
    by_cases ha : a < 128
    · rw [digs_lt ha]; exact digs_pos b
    · rw [digs_ge (n := a) (by omega), digs_ge (n := b) (by omega), List.length_cons, List.length_cons]
      have := ih (b / 128) (by omega) (a := a / 128) (by omega)
      omega
theorem digs_quo {n : Nat} (h : 128 ≤ n) : (digs (n / 128)).length = (digs n).length - 1 := by
  rw [digs_ge h, List.length_cons]; omega

/-- What digits tell. -/
def val : List Nat → Nat
  | [] => 0
  | x :: l => x % 128 + 128 * val l
theorem val_digs (n : Nat) : val (digs n) = n := by
  refine digs_ind (p := fun n => val (digs n) = n) ?_ ?_ n
  · intro n h; rw [digs_lt h]; simp only [val]; omega
  · intro n h ih; rw [digs_ge h]; simp only [val, ih]; omega
theorem val_lt (l : List Nat) : val l < 128 ^ l.length := by
  induction l with
  | nil => simp [val]
  | cons x l ih => rw [val, List.length_cons, Nat.pow_succ]; omega
theorem val_snoc (l : List Nat) (x : Nat) : val (l ++ [x]) = val l + x % 128 * 128 ^ l.length := by
  induction l with
  | nil => simp [val]
  | cons y l ih =>
    have e : x % 128 * (128 ^ l.length * 128) = 128 * (x % 128 * 128 ^ l.length) := by rw [← Nat.mul_assoc, Nat.mul_comm]
    rw [List.cons_append, val, ih, val, List.length_cons, Nat.pow_succ, e, Nat.mul_add]
    omega
/-- How many digits that another one follows stand ahead. -/
def run : List Nat → Nat
  | [] => 0
  | x :: l => if 128 ≤ x then run l + 1 else 0
theorem run_le (l : List Nat) : run l ≤ l.length := by
  induction l with
  | nil => simp [run]
  | cons x l ih => rw [run]; split <;> simp <;> omega
theorem run_of {l : List Nat} {k : Nat} (h : ∀ j, j < k → 128 ≤ l.getD j 0) (hk : k < l.length) (hl : l.getD k 0 < 128) : run l = k := by
  induction l generalizing k with
  | nil => simp at hk
  | cons x l ih =>
    rcases k with _ | k
    · simp at hl; rw [run, if_neg (by omega)]
    · have h0 := h 0 (by omega)
      simp at h0
      rw [run, if_pos h0, ih (k := k) (fun j hj => by have := h (j + 1) (by omega); simpa using this) (by simpa using hk) (by simpa using hl)]
theorem run_ge {l : List Nat} {k : Nat} (h : ∀ j, j < k → 128 ≤ l.getD j 0) : k ≤ run l := by
  induction l generalizing k with
  | nil =>
    rcases k with _ | k
    · omega
    · have := h 0 (by omega); simp at this
  | cons x l ih =>
    rcases k with _ | k
    · omega
    · have h0 := h 0 (by omega)
      simp at h0
      rw [run, if_pos h0]
      have := ih (k := k) (fun j hj => by have := h (j + 1) (by omega); simpa using this)
      omega
/-- Is the number ahead least and whole, and may it be? -/
def isNum (l : List Nat) : Bool := decide (run l < l.length) && decide (run l < 9) && decide ((digs (val (l.take (run l + 1)))).length = run l + 1) && decide (val (l.take (run l + 1)) < 4611686018427387904)
/-- How many bytes it has (0: there is none); which one it is. -/
def dk (l : List Nat) : Nat := if isNum l then run l + 1 else 0
def dn (l : List Nat) : Nat := if isNum l then val (l.take (run l + 1)) else 0
theorem dk_le (l : List Nat) : dk l ≤ l.length := by
  unfold dk
  split
  · rename_i h; simp [isNum] at h; omega
  · omega
theorem dk_nine (l : List Nat) : dk l ≤ 9 := by
  unfold dk
  split
  · rename_i h; simp [isNum] at h; omega
  · omega
theorem dn_lt (l : List Nat) : dn l < 4611686018427387904 := by
  unfold dn
  split
  · rename_i h; simp [isNum] at h; omega
  · omega
theorem dn_none {l : List Nat} (h : dk l = 0) : dn l = 0 := by
  unfold dk at h; unfold dn
  split
  · rename_i h1; rw [if_pos h1] at h; omega
  · rfl
/-- Digits of which all but the last one are followed by another. -/
theorem digs_val (l : List Nat) (hb : ∀ x ∈ l, x < 256) (hr : run l < l.length) : (digs (val (l.take (run l + 1)))).length ≤ run l + 1 ∧ ((digs (val (l.take (run l + 1)))).length = run l + 1 → digs (val (l.take (run l + 1))) = l.take (run l + 1)) := by
  induction l with
  | nil => simp [run] at hr
  | cons x l ih =>
    rw [run] at hr ⊢
    have hx := hb x (by simp)
    by_cases h : 128 ≤ x
    · rw [if_pos h] at hr ⊢
      rw [List.take_succ_cons, val]
      have ih := ih (fun y hy => hb y (by simp [hy])) (by simpa using hr)
      generalize l.take (run l + 1) = q at *
      by_cases hq : val q = 0
      · rw [hq, digs_lt (by omega)]
        refine ⟨by simp, fun h => by simp at h⟩
      · rw [digs_ge (by omega), show (x % 128 + 128 * val q) / 128 = val q by omega, show (x % 128 + 128 * val q) % 128 + 128 = x by omega]
        refine ⟨by simp; omega, fun h => by rw [ih.2 (by simp at h; omega)]⟩
    · rw [if_neg h]
      rw [List.take_succ_cons, List.take_zero, val, val]
      rw [digs_lt (by omega)]
      refine ⟨by simp, fun _ => by rw [show x % 128 + 128 * 0 = x by omega]⟩
theorem run_digs (n : Nat) (r : List Nat) : run (digs n ++ r) + 1 = (digs n).length := by
  refine digs_ind (p := fun n => run (digs n ++ r) + 1 = (digs n).length) ?_ ?_ n
  · intro n h; rw [digs_lt h, List.cons_append, run, if_neg (by omega)]; simp
  · intro n h ih; rw [digs_ge h, List.cons_append, run, if_pos (by omega), List.length_cons, ih]
theorem isNum_digs {n : Nat} (h : n < 4611686018427387904) (r : List Nat) : isNum (digs n ++ r) = true := by
  have h1 := run_digs n r
  have h2 : (digs n ++ r).take (run (digs n ++ r) + 1) = digs n := by rw [h1]; exact List.take_left
  have h3 := digs_nine (n := n) (by omega)
  simp only [isNum, h2, val_digs, Bool.and_eq_true, decide_eq_true_eq, List.length_append]
  omega
theorem dk_digs {n : Nat} (h : n < 4611686018427387904) (r : List Nat) : dk (digs n ++ r) = (digs n).length := by
  unfold dk; rw [if_pos (isNum_digs h r), run_digs]
theorem dn_digs {n : Nat} (h : n < 4611686018427387904) (r : List Nat) : dn (digs n ++ r) = n := by
  unfold dn; rw [if_pos (isNum_digs h r), run_digs, List.take_left, val_digs]
theorem drop_digs {n : Nat} (h : n < 4611686018427387904) (r : List Nat) : (digs n ++ r).drop (dk (digs n ++ r)) = r := by
  rw [dk_digs h, List.drop_left]
/-- What is read is written so, and in no other way. -/
theorem digs_dn {l : List Nat} (hb : ∀ x ∈ l, x < 256) (h : dk l ≠ 0) : digs (dn l) = l.take (dk l) := by
  unfold dk dn at *
  by_cases h1 : isNum l = true
  · rw [if_pos h1, if_pos h1]
    simp only [isNum, Bool.and_eq_true, decide_eq_true_eq] at h1
    exact (digs_val l hb (by omega)).2 (by omega)
  · rw [if_neg h1] at h; omega

/-! A reader: the bytes that are left, and the error. -/
structure St where
  l : List Nat
  e : Int
def lost : St := ⟨[], 2⟩
def num (s : St) : St := if s.e = 0 then (if dk s.l = 0 then lost else ⟨s.l.drop (dk s.l), 0⟩) else s
def numV (s : St) : Nat := if s.e = 0 then dn s.l else 0
def cnt (s : St) : St := if numV s ≤ 64 then num s else lost
def cntV (s : St) : Nat := if numV s ≤ 64 then numV s else 0
def tk (s : St) (n : Nat) : St := if s.e = 0 then (if n ≤ s.l.length then ⟨s.l.drop n, 0⟩ else lost) else s
def tkV (s : St) (n : Nat) : List Nat := if s.e = 0 then (if n ≤ s.l.length then s.l.take n else []) else []
def text (s : St) : St := tk (cnt s) (cntV s)
def textV (s : St) : List Nat := tkV (cnt s) (cntV s)
def numsAt (s : St) : Nat → St
  | 0 => s
  | k + 1 => num (numsAt s k)
def numsV (s : St) : Nat → List Nat
  | 0 => []
  | k + 1 => numsV s k ++ [numV (numsAt s k)]
def list (s : St) : St := numsAt (cnt s) (cntV s)
def listV (s : St) : List Nat := if (list s).e = 0 then numsV (cnt s) (cntV s) else []
def endE (s : St) : Int := if 0 < s.l.length then 2 else s.e
/-- Behind an error nothing is left; errors are known. -/
structure Okay (s : St) : Prop where
  byte : ∀ x ∈ s.l, x < 256
  none_ : s.e ≠ 0 → s.l = []
theorem okay_lost : Okay lost := ⟨by simp [lost], fun _ => rfl⟩
theorem Okay.drop {s : St} (h : Okay s) (n : Nat) : Okay ⟨s.l.drop n, 0⟩ := ⟨fun x hx => h.byte x (List.mem_of_mem_drop hx), fun h => absurd rfl h⟩
theorem Okay.num {s : St} (h : Okay s) : Okay (num s) := by
  unfold Cdc.num
  split
  · split
    · exact okay_lost
    · exact h.drop _
  · exact h
theorem Okay.cnt {s : St} (h : Okay s) : Okay (cnt s) := by
  unfold Cdc.cnt
  split
  · exact h.num
  · exact okay_lost
theorem Okay.tk {s : St} (h : Okay s) (n : Nat) : Okay (tk s n) := by
  unfold Cdc.tk
  split
  · split
    · exact h.drop _
    · exact okay_lost
  · exact h
theorem Okay.numsAt {s : St} (h : Okay s) (k : Nat) : Okay (numsAt s k) := by
  induction k with
  | zero => exact h
  | succ k ih => exact ih.num
theorem numV_lt (s : St) : numV s < 4611686018427387904 := by
  unfold numV
  split
  · exact dn_lt _
  · omega
theorem cntV_le (s : St) : cntV s ≤ 64 := by unfold cntV; split <;> omega
theorem num_err {s : St} (h : s.e ≠ 0) : num s = s := by unfold num; rw [if_neg h]
theorem numV_err {s : St} (h : s.e ≠ 0) : numV s = 0 := by unfold numV; rw [if_neg h]
theorem numsAt_err {s : St} {i : Nat} (h : (numsAt s i).e ≠ 0) (j : Nat) : numsAt s (i + j) = numsAt s i := by
  induction j with
  | zero => rfl
  | succ j ih => rw [← Nat.add_assoc, numsAt, ih, num_err h]
theorem numsV_length (s : St) (k : Nat) : (numsV s k).length = k := by
  induction k with
  | zero => rfl
  | succ k ih => simp [numsV, ih]
theorem num_digs {n : Nat} (h : n < 4611686018427387904) (r : List Nat) : num ⟨digs n ++ r, 0⟩ = ⟨r, 0⟩ ∧ numV ⟨digs n ++ r, 0⟩ = n := by
  unfold num numV
  simp only [if_pos, dn_digs h, dk_digs h, and_true]
  rw [if_neg (by have := digs_pos n; omega), List.drop_left]
theorem numsAt_all (ns : List Nat) (h : ∀ n ∈ ns, n < 4611686018427387904) (r : List Nat) (k : Nat) (hk : k ≤ ns.length) : numsAt ⟨(ns.flatMap digs) ++ r, 0⟩ k = ⟨((ns.drop k).flatMap digs) ++ r, 0⟩ ∧ numsV ⟨(ns.flatMap digs) ++ r, 0⟩ k = ns.take k := by
  induction k with
  | zero => exact ⟨by simp [numsAt], by simp [numsV]⟩
  | succ k ih =>
    obtain ⟨h1, h2⟩ := ih (by omega)
    have hk' : k < ns.length := by omega
    have h3 := num_digs (h ns[k] (List.getElem_mem hk')) ((ns.drop (k + 1)).flatMap digs ++ r)
    rw [numsAt, numsV, h1, h2, List.drop_eq_getElem_cons hk', List.flatMap_cons, List.append_assoc, h3.1, h3.2]
    exact ⟨rfl, by rw [List.take_succ_eq_append_getElem hk']⟩
end Go.Proofs.YtifokcpkamdkeaaDoor.Cdc
