/-
  The library's numerals, joins and splits, said of texts as lists of numbers. No program is named.
-/
import Derived.Test.YtifokcpkamdkeaaDoorSpText
import Derived.Test.YtifokcpkamdkeaaDoorTx
import Derived.Lib.Atoi
import Derived.Lib.ItoaNum
import Derived.Lib.Split
import Derived.Lib.Join
import Derived.Lib.Strings
namespace Go.Proofs.YtifokcpkamdkeaaDoor
namespace Spc

def bts (l : List Nat) : List UInt8 := l.map fun x => UInt8.ofNat x
theorem txt_bts (l : List Nat) : (txt l).data.toList = bts l := txt_list l
theorem bts_append (a b : List Nat) : bts (a ++ b) = bts a ++ bts b := by unfold bts; simp
theorem bts_length (l : List Nat) : (bts l).length = l.length := by unfold bts; simp
theorem of_bts (l : List Nat) : (⟨(bts l).toArray⟩ : ByteArray) = txt l := txt_ext (by rw [txt_bts])
theorem u8_eq {x y : Nat} (hx : x < 256) (hy : y < 256) : (UInt8.ofNat x = UInt8.ofNat y) ↔ x = y := by
  constructor
  · intro h
    have := congrArg UInt8.toNat h
    simp at this
    omega
  · intro h; rw [h]
theorem decDigits_is (u : Nat) : Lib.decDigits u = bts (dg u) := by
  induction u using Nat.strongRecOn with
  | ind u ih =>
    by_cases h : u < 10
    · rw [Lib.decDigits, dif_pos h, dg_one h]; rfl
    · rw [Lib.decDigits, dif_neg h, ih _ (by omega), dg_more h, bts_append]; rfl
theorem itoa_is (n : Int) : Lib.itoa n = bts (digs n) := by
  unfold Lib.itoa digs
  by_cases h : n < 0
  · rw [if_pos h, if_pos h, decDigits_is]; rfl
  · rw [if_neg h, if_neg h, decDigits_is, show n.toNat = n.natAbs by omega]
theorem itoa_txt (n : Int) : (⟨(Lib.itoa n).toArray⟩ : ByteArray) = txt (digs n) := by rw [itoa_is, of_bts]
theorem decFrom_cons (x : UInt8) (r : List UInt8) (acc : Nat) : Lib.decFrom acc (x :: r) = match Lib.digitVal x with
    | some d => Lib.decFrom (acc * 10 + d) r
    | none => none := by rw [Lib.decFrom]; cases Lib.digitVal x <;> rfl
theorem decFrom_append (a b : List UInt8) (acc : Nat) : Lib.decFrom acc (a ++ b) = (Lib.decFrom acc a).bind fun m => Lib.decFrom m b := by
  induction a generalizing acc with
  | nil => rfl
  | cons x a ih =>
    rw [List.cons_append, decFrom_cons, decFrom_cons]
    cases Lib.digitVal x with
    | none => rfl
    | some d => exact ih _
theorem digit_is {k : Nat} (h : k < 10) : Lib.digitVal (UInt8.ofNat (48 + k)) = some k := by
  unfold Lib.digitVal
  have : (UInt8.ofNat (48 + k)).toNat = 48 + k := by simp; omega
  rw [this, if_pos (by omega)]
  congr 1; omega
theorem decFrom_digits (u : Nat) : Lib.decFrom 0 (Lib.decDigits u) = some u := by
  induction u using Nat.strongRecOn with
  | ind u ih =>
    by_cases h : u < 10
    · rw [Lib.decDigits, dif_pos h]
      unfold Lib.decFrom
      rw [digit_is h]
      show Lib.decFrom (0 * 10 + u) [] = _
      unfold Lib.decFrom
      congr 1; omega
    · rw [Lib.decDigits, dif_neg h, decFrom_append, ih _ (by omega)]
      show Lib.decFrom (u / 10) [UInt8.ofNat (48 + u % 10)] = _
      unfold Lib.decFrom
      rw [digit_is (by omega)]
      show Lib.decFrom (u / 10 * 10 + u % 10) [] = _
      unfold Lib.decFrom
      congr 1; omega
theorem decDigits_ne (u : Nat) : Lib.decDigits u ≠ [] := by
  unfold Lib.decDigits
  split <;> simp
theorem decNat_digits (u : Nat) : Lib.decNat (Lib.decDigits u) = some u := by
  unfold Lib.decNat
  rw [if_neg (by simpa using decDigits_ne u), decFrom_digits]
theorem atoi_itoa (n : Int) : Lib.atoi (Lib.itoa n) = some n := by
  unfold Lib.itoa
  by_cases h : n < 0
  · rw [if_pos h]
    unfold Lib.atoi
    simp only [beq_self_eq_true, if_true, decNat_digits, Option.map_some]
    congr 1; omega
  · rw [if_neg h]
    have hd := decFrom_digits n.toNat
    have hn := decNat_digits n.toNat
    generalize Lib.decDigits n.toNat = q at hd hn
    rcases q with _ | ⟨b, r⟩
    · simp [Lib.decNat] at hn
    · have hb : 48 ≤ b.toNat := by
        unfold Lib.decFrom at hd
        unfold Lib.digitVal at hd
        by_cases hc : 48 ≤ b.toNat ∧ b.toNat ≤ 57
        · exact hc.1
        · rw [if_neg hc] at hd; cases hd
      have h1 : (b == 45) = false := by rw [beq_eq_false_iff_ne]; intro e; rw [e] at hb; simp at hb
      have h2 : (b == 43) = false := by rw [beq_eq_false_iff_ne]; intro e; rw [e] at hb; simp at hb
      unfold Lib.atoi
      simp only [h1, h2, hn]
      simp
      omega
/-! A number's word. -/
theorem from_digs (n : Int) : from_ (digs n) = if n < 0 then 1 else 0 := by
  unfold from_ digs
  by_cases h : n < 0
  · rw [if_pos h, if_pos h, if_pos (by simp)]
  · rw [if_neg h, if_neg h, if_neg]
    rintro ⟨h1, h2⟩
    have := dg_byte n.natAbs ((dg n.natAbs).getD 0 0) (by rw [getD_at h2]; exact List.getElem_mem h2)
    omega
theorem numV_digs (n : Int) (hl : (digs n).length ≤ from_ (digs n) + 9) : numV (digs n) = n := by
  have hf := from_digs n
  unfold numV
  rw [hf] at hl ⊢
  by_cases h : n < 0
  · rw [if_pos h] at hl ⊢
    have e : digs n = 45 :: dg n.natAbs := by unfold digs; rw [if_pos h]
    rw [if_pos rfl, e, List.drop_succ_cons, List.drop_zero]
    rw [e, List.length_cons] at hl
    rw [List.take_of_length_le (by omega), acc_dg]
    omega
  · rw [if_neg h] at hl ⊢
    have e : digs n = dg n.natAbs := by unfold digs; rw [if_neg h]
    rw [if_neg (by omega), e, List.drop_zero]
    rw [e] at hl
    rw [List.take_of_length_le (by omega), acc_dg]
    omega
theorem num_long {l : List Nat} (h : ¬ l.length ≤ from_ l + 9) : numB l = false := by unfold numB; rw [decide_eq_false h]; rfl
theorem num_yes {l : List Nat} {n : Int} (h : l.length ≤ from_ l + 9) (he : digs n = l) : numB l = true ∧ numV l = n := by
  subst he
  have hv := numV_digs n h
  refine ⟨?_, hv⟩
  unfold numB
  rw [hv, decide_eq_true h, decide_eq_true rfl]; rfl
theorem num_digs_of {l : List Nat} (h : numB l = true) : digs (numV l) = l := by
  unfold numB at h
  rw [Bool.and_eq_true, decide_eq_true_eq, decide_eq_true_eq] at h
  exact h.2
theorem atoi_of {l : List Nat} (h : numB l = true) : Lib.atoi (bts l) = some (numV l) := by
  have e := num_digs_of h
  conv => lhs; rw [← e]
  rw [← itoa_is, atoi_itoa]
theorem num_none {l : List Nat} (h : Lib.atoi (bts l) = none) : numB l = false := by
  cases e : numB l with
  | false => rfl
  | true => rw [atoi_of e] at h; cases h
theorem num_other {l : List Nat} {n : Int} (h : Lib.atoi (bts l) = some n) (hd : digs n ≠ l) : numB l = false := by
  cases e : numB l with
  | false => rfl
  | true =>
    rw [atoi_of e] at h
    injection h with h
    exact absurd (by rw [← h]; exact num_digs_of e) hd
theorem trim_len {l : List Nat} (hb : ∀ x ∈ l, x < 256) : (Lib.trimPrefix (bts l) [45]).length = l.length - from_ l := by
  unfold Lib.trimPrefix Lib.hasPrefix
  rcases l with _ | ⟨x, l⟩
  · rfl
  · have hx : x < 256 := hb x (by simp)
    have hc : ((45 : UInt8) == UInt8.ofNat x) = decide (x = 45) := by
      by_cases h : x = 45
      · rw [h]; rfl
      · rw [decide_eq_false h, beq_eq_false_iff_ne]
        intro e
        exact h ((u8_eq (y := 45) hx (by omega)).1 e.symm)
    show (if List.isPrefixOf [45] (UInt8.ofNat x :: bts l) then _ else _ : List UInt8).length = _
    rw [List.isPrefixOf_cons_cons, hc]
    unfold from_
    by_cases h : x = 45
    · simp [h, bts]
    · simp [h, bts]
/-! Words. -/
theorem wstep_app (ws v : List (List Nat)) (c : Nat) (hv : v ≠ []) : wstep (ws ++ v) c = ws ++ wstep v c := by
  obtain ⟨v', x, rfl⟩ : ∃ v' x, v = v' ++ [x] := ⟨v.dropLast, v.getLast hv, (List.dropLast_concat_getLast hv).symm⟩
  unfold wstep
  by_cases h : c = 32
  · rw [if_pos h, if_pos h]; simp
  · rw [if_neg h, if_neg h, ← List.append_assoc]
    simp
theorem fold_app (r : List Nat) (ws v : List (List Nat)) (hv : v ≠ []) : r.foldl wstep (ws ++ v) = ws ++ r.foldl wstep v := by
  induction r generalizing v with
  | nil => rfl
  | cons c r ih => rw [List.foldl_cons, List.foldl_cons, wstep_app ws v c hv, ih _ (wstep_ne c)]
theorem words_one {u : List Nat} (hu : ∀ x ∈ u, x ≠ 32) : words u = [u] := by
  unfold words
  have := fold_word [] [] u hu
  simpa using this
theorem words_cut {u r : List Nat} (hu : ∀ x ∈ u, x ≠ 32) : words (u ++ 32 :: r) = u :: words r := by
  have h1 : words (u ++ 32 :: r) = (32 :: r).foldl wstep (words u) := by unfold words; rw [List.foldl_append]
  rw [h1, words_one hu, List.foldl_cons]
  have h2 : wstep [u] 32 = [u] ++ [[]] := by unfold wstep; rw [if_pos rfl]
  rw [h2, fold_app r [u] [[]] (by simp)]
  rfl
theorem blank_cases (l : List Nat) : (∀ x ∈ l, x ≠ 32) ∨ ∃ u r, l = u ++ 32 :: r ∧ ∀ x ∈ u, x ≠ 32 := by
  induction l with
  | nil => exact .inl (by simp)
  | cons c l ih =>
    by_cases h : c = 32
    · exact .inr ⟨[], l, by rw [h]; rfl, by simp⟩
    · rcases ih with ih | ⟨u, r, rfl, hu⟩
      · refine .inl fun x hx => ?_
        rcases List.mem_cons.1 hx with rfl | hx
        · exact h
        · exact ih x hx
      · refine .inr ⟨c :: u, r, rfl, fun x hx => ?_⟩
        rcases List.mem_cons.1 hx with rfl | hx
        · exact h
        · exact hu x hx
theorem pre_one (x : Nat) (s : List UInt8) (hx : x < 256) : List.isPrefixOf [32] (UInt8.ofNat x :: s) = decide (x = 32) := by
  rw [List.isPrefixOf_cons_cons]
  by_cases h : x = 32
  · rw [h]; simp
  · rw [decide_eq_false h]
    have : ((32 : UInt8) == UInt8.ofNat x) = false := by
      rw [beq_eq_false_iff_ne]
      intro e
      exact h ((u8_eq (y := 32) hx (by omega)).1 e.symm)
    rw [this]; rfl
theorem index_no {u : List Nat} (hb : ∀ x ∈ u, x < 256) (hu : ∀ x ∈ u, x ≠ 32) : Lib.index (bts u) [32] = -1 := by
  induction u with
  | nil => rfl
  | cons c u ih =>
    have h1 := pre_one c (bts u) (hb c (by simp))
    rw [decide_eq_false (hu c (by simp))] at h1
    have h2 := ih (fun x hx => hb x (by simp [hx])) (fun x hx => hu x (by simp [hx]))
    show Lib.index (UInt8.ofNat c :: bts u) [32] = _
    unfold Lib.index
    rw [h1, h2]; rfl
theorem index_at {u : List Nat} (s : List UInt8) (hb : ∀ x ∈ u, x < 256) (hu : ∀ x ∈ u, x ≠ 32) : Lib.index (bts u ++ 32 :: s) [32] = u.length := by
  induction u with
  | nil => rfl
  | cons c u ih =>
    have h1 := pre_one c (bts u ++ 32 :: s) (hb c (by simp))
    rw [decide_eq_false (hu c (by simp))] at h1
    have h2 := ih (fun x hx => hb x (by simp [hx])) (fun x hx => hu x (by simp [hx]))
    show Lib.index (UInt8.ofNat c :: (bts u ++ 32 :: s)) [32] = _
    unfold Lib.index
    rw [h1, h2]
    have : (((u.length : Nat) : Int) == -1) = false := by rw [beq_eq_false_iff_ne]; omega
    rw [this]
    simp
theorem split_is (k : Nat) (l : List Nat) (hb : ∀ x ∈ l, x < 256) :
    ((words l).length ≤ k + 1 → Lib.splitK [32] 0 k (bts l) = (words l).map bts) ∧ (k + 1 < (words l).length → (Lib.splitK [32] 0 k (bts l)).length = k + 1) := by
  induction k generalizing l with
  | zero =>
    refine ⟨fun h => ?_, fun _ => rfl⟩
    rcases blank_cases l with hn | ⟨u, r, rfl, hu⟩
    · rw [words_one hn]; rfl
    · rw [words_cut hu, List.length_cons] at h
      have := words_ne r
      have := List.length_pos_iff.2 this
      omega
  | succ k ih =>
    rcases blank_cases l with hn | ⟨u, r, rfl, hu⟩
    · have h1 := index_no hb hn
      have e : Lib.splitK [32] 0 (k + 1) (bts l) = [bts l] := by
        unfold Lib.splitK
        rw [h1]; rfl
      rw [words_one hn, e]
      exact ⟨fun _ => rfl, fun h => by simp at h⟩
    · have hbu : ∀ x ∈ u, x < 256 := fun x hx => hb x (by simp [hx])
      have hbr : ∀ x ∈ r, x < 256 := fun x hx => hb x (by simp [hx])
      have h1 := index_at (u := u) (bts r) hbu hu
      have h0 : bts (u ++ 32 :: r) = bts u ++ 32 :: bts r := by rw [bts_append]; rfl
      obtain ⟨i1, i2⟩ := ih r hbr
      have e : Lib.splitK [32] 0 (k + 1) (bts (u ++ 32 :: r)) = bts u :: Lib.splitK [32] 0 k (bts r) := by
        rw [h0, Lib.splitK, h1, if_neg (by simp)]
        congr 1
        · rw [Int.toNat_natCast, Nat.add_zero, List.take_append_of_le_length (by rw [bts_length]; exact Nat.le_refl _), List.take_of_length_le (by rw [bts_length]; exact Nat.le_refl _)]
        · congr 1
          rw [Int.toNat_natCast, ← bts_length u]
          simp [List.drop_append]
      rw [words_cut hu, e, List.length_cons, List.length_cons]
      exact ⟨fun h => by rw [i1 (by omega)]; rfl, fun h => by rw [i2 (by omega)]⟩
/-- The words of a text, split by the library, thirteen at most. -/
theorem splitN_is (l : List Nat) (hb : ∀ x ∈ l, x < 256) (ws : List ByteArray) (hw : ws = Lib.splitB ⟨#[32]⟩ 0 (min 13 ((txt l).size + 1) - 1) (txt l)) :
    ((words l).length = 12 → ws = (words l).map txt) ∧ ((words l).length ≠ 12 → ws.length ≠ 12) := by
  have hd := Lib.splitB_data ⟨#[32]⟩ 0 (min 13 ((txt l).size + 1) - 1) (txt l)
  rw [← hw, txt_bts, txt_size] at hd
  obtain ⟨h1, h2⟩ := split_is (min 13 (l.length + 1) - 1) l hb
  have hc := words_count l
  have hlen := congrArg List.length hd
  rw [List.length_map] at hlen
  constructor
  · intro h
    have e := h1 (by omega)
    have e2 : ws.map (·.data.toList) = ((words l).map txt).map (·.data.toList) := by
      rw [hd, List.map_map]
      refine e.trans ?_
      exact List.map_congr_left fun v _ => (txt_bts v).symm
    exact (List.map_inj_right (fun x y h => txt_ext h)).1 e2
  · intro h
    by_cases hk : (words l).length ≤ min 13 (l.length + 1) - 1 + 1
    · have e := congrArg List.length (h1 hk)
      rw [List.length_map] at e
      rw [hlen]
      intro e2
      exact h (e.symm.trans e2)
    · have e := h2 (by omega)
      rw [hlen]
      intro e2
      have := e.symm.trans e2
      omega
/-! Joins. -/
theorem icl (sep : List UInt8) (u : List UInt8) (l : List (List UInt8)) : sep.intercalate (u :: l) = u ++ l.flatMap fun v => sep ++ v := by
  induction l generalizing u with
  | nil => simp [List.intercalate]
  | cons v l ih =>
    have := ih v
    simp [List.intercalate, List.intersperse] at this ⊢
    rw [this]
theorem join_is (u : List Nat) (ws : List (List Nat)) : Lib.join (((u :: ws).map txt).map (·.data.toList)) [32] = bts (join (u :: ws)) := by
  unfold Lib.join join
  rw [List.map_map, List.map_cons, icl, bts_append]
  congr 1
  · exact txt_bts u
  · induction ws with
    | nil => rfl
    | cons v ws ih =>
      rw [List.map_cons, List.flatMap_cons, List.flatMap_cons, ih, bts_append]
      congr 1
      show [32] ++ (txt v).data.toList = _
      rw [txt_bts]; rfl
theorem join_txt (ws : List (List Nat)) (h : ws ≠ []) : (⟨(Lib.join ((ws.map txt).map (·.data.toList)) [32]).toArray⟩ : ByteArray) = txt (join ws) ∧ (Lib.join ((ws.map txt).map (·.data.toList)) [32]).length = (join ws).length := by
  rcases ws with _ | ⟨u, ws⟩
  · exact absurd rfl h
  · rw [join_is, of_bts, bts_length]
    exact ⟨rfl, rfl⟩
end Spc
end Go.Proofs.YtifokcpkamdkeaaDoor
