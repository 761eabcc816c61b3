/-
  Texts of numbers (layer 7): digits, words between blanks, what is read of a text. No program is named.
-/
import Derived.Test.YtifokcpkamdkeaaDoorSpMath
namespace Go.Proofs.YtifokcpkamdkeaaDoor
namespace Spc

/-- A number's digits, as bytes. -/
def dg (n : Nat) : List Nat := if h : n < 10 then [48 + n] else dg (n / 10) ++ [48 + n % 10]
termination_by n
decreasing_by omega
theorem dg_one {n : Nat} (h : n < 10) : dg n = [48 + n] := by rw [dg]; simp [h]
theorem dg_more {n : Nat} (h : ¬ n < 10) : dg n = dg (n / 10) ++ [48 + n % 10] := by rw [dg]; simp [h]
def digs (n : Int) : List Nat := if n < 0 then 45 :: dg n.natAbs else dg n.natAbs
theorem dg_byte (n : Nat) : ∀ x ∈ dg n, 48 ≤ x ∧ x ≤ 57 := by
  induction n using Nat.strongRecOn with
  | ind n ih =>
    intro x hx
    by_cases h : n < 10
    · rw [dg_one h] at hx; simp at hx; omega
    · rw [dg_more h] at hx
      rcases List.mem_append.1 hx with hx | hx
      · exact ih _ (by omega) x hx
      · simp at hx; omega
theorem digs_byte (n : Int) : ∀ x ∈ digs n, x < 256 ∧ x ≠ 32 := by
  intro x hx
  unfold digs at hx
  split at hx
  · rcases List.mem_cons.1 hx with rfl | hx
    · omega
    · have := dg_byte _ x hx; omega
  · have := dg_byte _ x hx; omega
theorem dg_len (n k : Nat) (h : n < 10 ^ (k + 1)) : (dg n).length ≤ k + 1 := by
  induction k generalizing n with
  | zero => rw [dg_one (by simpa using h)]; simp
  | succ k ih =>
    by_cases h1 : n < 10
    · rw [dg_one h1]; simp
    · rw [dg_more h1, List.length_append]
      have := ih (n / 10) (by rw [Nat.pow_succ] at h; omega)
      simp; omega
theorem dg_pos (n : Nat) : 1 ≤ (dg n).length := by
  by_cases h : n < 10
  · rw [dg_one h]; simp
  · rw [dg_more h, List.length_append]; simp
/-- Digits gone through one by one. -/
def acc (l : List Nat) (n : Int) : Int := l.foldl (fun (n : Int) (c : Nat) => 10 * n + (c : Int) - 48) n
theorem acc_snoc (l : List Nat) (c : Nat) (n : Int) : acc (l ++ [c]) n = 10 * acc l n + c - 48 := by unfold acc; rw [List.foldl_append]; rfl
theorem acc_dg (n : Nat) : acc (dg n) 0 = n := by
  induction n using Nat.strongRecOn with
  | ind n ih =>
    by_cases h : n < 10
    · rw [dg_one h]; show 10 * (0 : Int) + ((48 + n : Nat) : Int) - 48 = n; omega
    · rw [dg_more h, acc_snoc, ih _ (by omega)]; omega
theorem acc_bound (l : List Nat) (hb : ∀ x ∈ l, x < 256) : (-(6 * 10 ^ l.length) + 6 : Int) ≤ acc l 0 ∧ acc l 0 ≤ 24 * 10 ^ l.length - 24 := by
  obtain ⟨m, hm⟩ : ∃ m, m = l.length := ⟨_, rfl⟩
  induction m generalizing l with
  | zero =>
    have : l = [] := List.eq_nil_of_length_eq_zero hm.symm
    subst this
    simp [acc]
  | succ m ih =>
    have hne : l ≠ [] := fun e => by rw [e] at hm; simp at hm
    have e : l = l.dropLast ++ [l.getLast hne] := (List.dropLast_concat_getLast hne).symm
    have hl : l.dropLast.length = m := by rw [List.length_dropLast]; omega
    have h1 := ih l.dropLast (fun x hx => hb x (List.dropLast_subset _ hx)) hl.symm
    have h2 := hb _ (List.getLast_mem hne)
    rw [hl] at h1
    rw [e, acc_snoc, List.length_append, List.length_singleton, hl, Int.pow_succ]
    generalize acc l.dropLast 0 = y at *
    generalize l.getLast hne = z at *
    have hp : (1 : Int) ≤ 10 ^ m := by
      have : (0 : Int) < 10 ^ m := Int.pow_pos (by omega)
      omega
    generalize (10 : Int) ^ m = q at *
    omega
/-- Where the digits begin. -/
def from_ (l : List Nat) : Nat := if l.getD 0 0 = 45 ∧ 0 < l.length then 1 else 0
def numV (l : List Nat) : Int := if from_ l = 1 then -(acc ((l.drop (from_ l)).take 10) 0) else acc ((l.drop (from_ l)).take 10) 0
def numB (l : List Nat) : Bool := decide (l.length ≤ from_ l + 9) && decide (digs (numV l) = l)
theorem from_le (l : List Nat) : from_ l ≤ 1 ∧ from_ l ≤ l.length := by unfold from_; split <;> omega
theorem num_digs (n : Int) (h0 : 0 ≤ n) (h9 : n < 1000000000) : numV (digs n) = n ∧ numB (digs n) = true := by
  have e : digs n = dg n.natAbs := by unfold digs; rw [if_neg (by omega)]
  have hl := dg_len n.natAbs 8 (by omega)
  have hp := dg_pos n.natAbs
  have hf : from_ (digs n) = 0 := by
    unfold from_
    rw [if_neg]
    rintro ⟨h1, h2⟩
    rw [e] at h1 h2
    have := dg_byte n.natAbs ((dg n.natAbs).getD 0 0) (by rw [getD_at h2]; exact List.getElem_mem h2)
    omega
  have hv : numV (digs n) = n := by
    unfold numV
    rw [hf, if_neg (by omega), List.drop_zero, List.take_of_length_le (by rw [e]; omega), e, acc_dg]
    omega
  refine ⟨hv, ?_⟩
  unfold numB
  rw [hv, hf, Bool.and_eq_true, decide_eq_true_eq, decide_eq_true_eq]
  exact ⟨by rw [e]; omega, rfl⟩
theorem numV_in (l : List Nat) (hb : ∀ x ∈ l, x < 256) : -300000000000 ≤ numV l ∧ numV l ≤ 300000000000 := by
  have h := acc_bound ((l.drop (from_ l)).take 10) (fun x hx => hb x (List.mem_of_mem_drop (List.mem_of_mem_take hx)))
  have hl : ((l.drop (from_ l)).take 10).length ≤ 10 := by rw [List.length_take]; omega
  have hp : (10 : Int) ^ ((l.drop (from_ l)).take 10).length ≤ 10000000000 := by
    have : (10 : Nat) ^ ((l.drop (from_ l)).take 10).length ≤ 10 ^ 10 := Nat.pow_le_pow_right (by omega) hl
    have h2 : ((10 ^ ((l.drop (from_ l)).take 10).length : Nat) : Int) ≤ ((10 ^ 10 : Nat) : Int) := Int.ofNat_le.2 this
    rw [Int.natCast_pow] at h2
    simpa using h2
  generalize (10 : Int) ^ ((l.drop (from_ l)).take 10).length = q at *
  unfold numV
  split <;> omega

/-! Words. -/
def wstep (ws : List (List Nat)) (c : Nat) : List (List Nat) := if c = 32 then ws ++ [[]] else ws.dropLast ++ [ws.getLastD [] ++ [c]]
def words (l : List Nat) : List (List Nat) := l.foldl wstep [[]]
theorem words_snoc (l : List Nat) (c : Nat) : words (l ++ [c]) = wstep (words l) c := by unfold words; rw [List.foldl_append]; rfl
theorem wstep_ne {ws : List (List Nat)} (c : Nat) : wstep ws c ≠ [] := by unfold wstep; split <;> simp
theorem words_ne (l : List Nat) : words l ≠ [] := by
  rcases List.eq_nil_or_concat l with rfl | ⟨l', c, rfl⟩
  · simp [words]
  · rw [List.concat_eq_append, words_snoc]; exact wstep_ne c
theorem fold_word (ws : List (List Nat)) (u v : List Nat) (hv : ∀ x ∈ v, x ≠ 32) : v.foldl wstep (ws ++ [u]) = ws ++ [u ++ v] := by
  induction v generalizing u with
  | nil => simp
  | cons c v ih =>
    have hc : c ≠ 32 := hv c (by simp)
    rw [List.foldl_cons]
    have : wstep (ws ++ [u]) c = ws ++ [u ++ [c]] := by unfold wstep; rw [if_neg hc]; simp
    rw [this, ih _ (fun x hx => hv x (by simp [hx]))]
    simp
/-- Words with one blank between each two. -/
def join : List (List Nat) → List Nat
  | [] => []
  | u :: l => u ++ l.flatMap fun v => 32 :: v
theorem fold_words (ws : List (List Nat)) (l : List (List Nat)) (hl : ∀ v ∈ l, ∀ x ∈ v, x ≠ 32) (hne : ws ≠ []) : (l.flatMap fun v => 32 :: v).foldl wstep ws = ws ++ l := by
  induction l generalizing ws with
  | nil => simp
  | cons v l ih =>
    rw [List.flatMap_cons, List.foldl_append, List.foldl_cons]
    have : wstep ws 32 = ws ++ [[]] := by unfold wstep; rw [if_pos rfl]
    rw [this, fold_word _ _ _ (hl v (by simp)), List.nil_append, ih _ (fun y hy => hl y (by simp [hy])) (by simp)]
    simp
theorem words_join {l : List (List Nat)} (hl : ∀ v ∈ l, ∀ x ∈ v, x ≠ 32) (hne : l ≠ []) : words (join l) = l := by
  rcases l with _ | ⟨u, l⟩
  · exact absurd rfl hne
  · show (u ++ l.flatMap fun v => 32 :: v).foldl wstep [[]] = _
    rw [List.foldl_append, show ([[]] : List (List Nat)) = [] ++ [[]] from rfl, fold_word _ _ _ (hl u (by simp)), fold_words _ _ (fun v hv => hl v (by simp [hv])) (by simp)]
    simp
theorem words_count (l : List Nat) : (words l).length ≤ l.length + 1 := by
  obtain ⟨m, hm⟩ : ∃ m, m = l.length := ⟨_, rfl⟩
  induction m generalizing l with
  | zero =>
    have : l = [] := List.eq_nil_of_length_eq_zero hm.symm
    subst this; simp [words]
  | succ m ih =>
    have hne : l ≠ [] := fun e => by rw [e] at hm; simp at hm
    have e : l = l.dropLast ++ [l.getLast hne] := (List.dropLast_concat_getLast hne).symm
    have hl : l.dropLast.length = m := by rw [List.length_dropLast]; omega
    have h1 := ih l.dropLast hl.symm
    have h2 := words_ne l.dropLast
    rw [e, words_snoc, List.length_append, List.length_singleton, hl]
    unfold wstep
    split
    · rw [List.length_append]; simp; omega
    · rw [List.length_append, List.length_dropLast]; simp
      have := List.length_pos_iff.2 h2
      omega
/-- Bytes of words are bytes of the text. -/
theorem words_byte (l : List Nat) (P : Nat → Prop) (h : ∀ x ∈ l, P x) : ∀ u ∈ words l, ∀ x ∈ u, P x := by
  obtain ⟨m, hm⟩ : ∃ m, m = l.length := ⟨_, rfl⟩
  induction m generalizing l with
  | zero =>
    have : l = [] := List.eq_nil_of_length_eq_zero hm.symm
    subst this; simp [words]
  | succ m ih =>
    have hne : l ≠ [] := fun e => by rw [e] at hm; simp at hm
    have e : l = l.dropLast ++ [l.getLast hne] := (List.dropLast_concat_getLast hne).symm
    have hl : l.dropLast.length = m := by rw [List.length_dropLast]; omega
    have h1 := ih l.dropLast (fun x hx => h x (List.dropLast_subset _ hx)) hl.symm
    have h2 := h _ (List.getLast_mem hne)
    rw [e, words_snoc]
    intro u hu x hx
    unfold wstep at hu
    split at hu
    · rcases List.mem_append.1 hu with hu | hu
      · exact h1 u hu x hx
      · simp at hu; subst hu; cases hx
    · rcases List.mem_append.1 hu with hu | hu
      · exact h1 u (List.dropLast_subset _ hu) x hx
      · simp at hu
        subst hu
        rcases List.mem_append.1 hx with hx | hx
        · have hw := words_ne l.dropLast
          rw [List.getLast?_eq_some_getLast hw, Option.getD_some] at hx
          exact h1 _ (List.getLast_mem hw) x hx
        · simp at hx; subst hx; exact h2

/-! A spec's text, and what is read of a text. -/
def text (s : Sp) : List Nat := join ((flds s).map digs)
theorem text_words (s : Sp) : words (text s) = (flds s).map digs :=
  words_join (fun v hv x hx => by
    obtain ⟨n, _, rfl⟩ := List.mem_map.1 hv
    exact (digs_byte n x hx).2) (by simp [flds])
theorem text_byte (s : Sp) : ∀ x ∈ text s, x < 256 := by
  intro x hx
  unfold text flds join at hx
  simp only [List.map_cons, List.map_nil] at hx
  rcases List.mem_append.1 hx with hx | hx
  · exact (digs_byte _ x hx).1
  · obtain ⟨v, hv, hx⟩ := List.mem_flatMap.1 hx
    rcases List.mem_cons.1 hx with rfl | hx
    · omega
    · have : v ∈ (flds s).map digs := List.mem_cons_of_mem _ hv
      obtain ⟨n, _, rfl⟩ := List.mem_map.1 this
      exact (digs_byte _ x hx).1
/-- The spec read, and the error's number. -/
def rdS (t : List Nat) : Sp := of ((words t).map numV)
def rdE (t : List Nat) : Int := if (words t).length ≠ 12 ∨ ¬ (∀ u ∈ words t, numB u = true) then 2 else chkE (rdS t)
def rdV (t : List Nat) : Sp := if rdE t = 0 then rdS t else zero
theorem back {s : Sp} (h : May s) : rdE (text s) = 0 ∧ rdV (text s) = s := by
  have hw := text_words s
  have hn : ∀ n ∈ flds s, numV (digs n) = n ∧ numB (digs n) = true := fun n hn => by
    have := h.small n hn
    exact num_digs n this.1 (by omega)
  have hs : rdS (text s) = s := by
    unfold rdS
    rw [hw, List.map_map]
    have : (flds s).map (numV ∘ digs) = flds s := by
      conv => rhs; rw [← List.map_id (flds s)]
      exact List.map_congr_left fun n hm => (hn n hm).1
    rw [this, of_flds]
  have he : rdE (text s) = 0 := by
    unfold rdE
    rw [if_neg, hs]
    · unfold chkE; rw [if_pos (chk_of h)]
    · rw [hw]
      rintro (h1 | h1)
      · exact h1 (by rw [List.length_map]; rfl)
      · refine h1 fun u hu => ?_
        obtain ⟨n, hm, rfl⟩ := List.mem_map.1 hu
        exact (hn n hm).2
  refine ⟨he, ?_⟩
  unfold rdV
  rw [if_pos he, hs]
end Spc
end Go.Proofs.YtifokcpkamdkeaaDoor
