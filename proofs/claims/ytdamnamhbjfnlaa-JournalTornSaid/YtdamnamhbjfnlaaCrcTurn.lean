/-
  What is sealed is good; with one byte another, or two unlike neighbours swapped, it isn't: about lists of numbers alone.
-/
import Derived.Test.YtdamnamhbjfnlaaCrcSl
namespace Go.Proofs.Ytdamnamhbjfnlaa

/-- What is sealed. -/
def sealed (L : List Nat) : List Nat := L ++ be4 (Crc.sum L)
theorem be4_length (s : Nat) : (be4 s).length = 4 := rfl
theorem sealed_length (L : List Nat) : (sealed L).length = L.length + 4 := by simp [sealed, be4_length]
theorem sealed_byte {L : List Nat} (h : ∀ x ∈ L, x < 256) : ∀ x ∈ sealed L, x < 256 := by
  intro x hx
  rcases List.mem_append.1 hx with hx | hx
  · exact h x hx
  · exact be4_byte _ x hx
theorem good_parts (a b : List Nat) (hb : b.length = 4) : good (a ++ b) = decide (rdN b = Crc.sum a) := by
  unfold good
  rw [decide_eq_true (by simp [hb]), Bool.true_and]
  have h : (a ++ b).length - 4 = a.length := by simp [hb]
  rw [h, List.drop_left, List.take_left]
theorem good_sealed (L : List Nat) : good (sealed L) = true := by
  unfold sealed
  rw [good_parts _ _ (be4_length _), rdN_be4 (Crc.sum_lt _)]
  simp
theorem rd4_eq (a b c d : Nat) : rdN [a, b, c, d] = a * 16777216 + b * 65536 + c * 256 + d := rfl
theorem split_at (L : List Nat) (j : Nat) (h : j < L.length) : L = L.take j ++ L.getD j 0 :: L.drop (j + 1) := by
  rw [getD_at h, List.getElem_cons_drop, List.take_append_drop]
theorem set_at (L : List Nat) (j y : Nat) (h : j < L.length) : L.set j y = L.take j ++ y :: L.drop (j + 1) := by
  rw [List.set_eq_take_append_cons_drop, if_pos h]
theorem getD_append_left (a b : List Nat) (j : Nat) (h : j < a.length) : (a ++ b).getD j 0 = a.getD j 0 := by
  rw [getD_at h, getD_at (by simp; omega), List.getElem_append_left h]
theorem getD_append_right (a b : List Nat) (j : Nat) (h : a.length ≤ j) : (a ++ b).getD j 0 = b.getD (j - a.length) 0 := by
  by_cases hj : j < (a ++ b).length
  · rw [getD_at hj, getD_at (by simp at hj; omega), List.getElem_append_right h]
  · rw [getD_off (by omega), getD_off (by simp at hj; omega)]
/-- One byte is another. -/
theorem good_one {L : List Nat} {j y : Nat} (hL : ∀ x ∈ L, x < 256) (hj : j < L.length + 4) (hy : y < 256) (hne : y ≠ (sealed L).getD j 0) : good ((sealed L).set j y) = false := by
  by_cases h : j < L.length
  · unfold sealed at hne ⊢
    rw [getD_append_left _ _ _ h] at hne
    rw [List.set_append_left _ _ h, good_parts _ _ (be4_length _), rdN_be4 (Crc.sum_lt _), decide_eq_false_iff_not]
    intro e
    apply hne
    rw [set_at L j y h] at e
    have e2 := e
    conv at e2 => lhs; rw [split_at L j h]
    have hx : L.getD j 0 < 256 := by rw [getD_at h]; exact hL _ (List.getElem_mem h)
    exact (Crc.sum_one (fun z hz => hL z (List.mem_of_mem_take hz)) (fun z hz => hL z (List.mem_of_mem_drop hz)) hx hy e2).symm
  · unfold sealed at hne ⊢
    rw [getD_append_right _ _ _ (by omega)] at hne
    rw [List.set_append_right _ _ (by omega), good_parts _ _ (by rw [List.length_set, be4_length]), decide_eq_false_iff_not]
    have hs := Crc.sum_lt L
    generalize Crc.sum L = s at *
    have hi : j - L.length = 0 ∨ j - L.length = 1 ∨ j - L.length = 2 ∨ j - L.length = 3 := by omega
    rcases hi with e | e | e | e <;> rw [e] at hne ⊢ <;> simp only [be4, List.set_cons_zero, List.set_cons_succ, rd4_eq, List.getD_cons_zero, List.getD_cons_succ] at hne ⊢ <;> omega
theorem getD_set_self (l : List Nat) (j y : Nat) (h : j < l.length) : (l.set j y).getD j 0 = y := by
  rw [getD_at (by rw [List.length_set]; exact h), List.getElem_set_self]
theorem set_back (l : List Nat) (j y x : Nat) (h : j < l.length) (hx : x = l.getD j 0) : (l.set j y).set j x = l := by
  rw [List.set_set, hx, getD_at h, List.set_getElem_self]
/-- A bit is turned. -/
theorem turn_ne (x i : Nat) : x ^^^ 2 ^ i ≠ x := by
  intro h
  have h2 : x ^^^ (x ^^^ 2 ^ i) = x ^^^ x := by rw [h]
  rw [← Nat.xor_assoc, Nat.xor_self, Nat.zero_xor] at h2
  have := Nat.pos_of_ne_zero (n := 2 ^ i) (by simp)
  omega
theorem turn_lt {x i : Nat} (hx : x < 256) (hi : i < 8) : x ^^^ 2 ^ i < 256 :=
  Nat.xor_lt_two_pow (n := 8) hx (Nat.pow_lt_pow_right (by omega) hi)
theorem turn_back (x i : Nat) : x ^^^ 2 ^ i ^^^ 2 ^ i = x := by rw [Nat.xor_assoc, Nat.xor_self, Nat.xor_zero]
/-- Two neighbours, swapped. -/
theorem swap_at (S : List Nat) (k : Nat) (h : k + 1 < S.length) : S = S.take k ++ S.getD k 0 :: S.getD (k + 1) 0 :: S.drop (k + 2) := by
  conv => lhs; rw [split_at S k (by omega)]
  congr 2
  have h2 : k + 1 < S.length := h
  rw [getD_at h2, List.getElem_cons_drop]
theorem swap_set (S : List Nat) (k x y : Nat) (h : k + 1 < S.length) : (S.set k x).set (k + 1) y = S.take k ++ x :: y :: S.drop (k + 2) := by
  rw [set_at (S.set k x) (k + 1) y (by rw [List.length_set]; exact h), set_at S k x (by omega)]
  have h1 : (S.take k).length = k := by rw [List.length_take]; omega
  rw [List.take_append, h1, List.take_of_length_le (by omega : (S.take k).length ≤ k + 1), List.drop_append, h1, List.drop_of_length_le (by omega : (S.take k).length ≤ k + 1 + 1), show k + 1 - k = 1 from by omega, show k + 1 + 1 - k = 2 from by omega]
  simp [List.drop_drop]
theorem good_swap {L : List Nat} {k : Nat} (hL : ∀ x ∈ L, x < 256) (hk : k + 1 < L.length + 4) :
    good (((sealed L).set k ((sealed L).getD (k + 1) 0)).set (k + 1) ((sealed L).getD k 0)) = decide ((sealed L).getD k 0 = (sealed L).getD (k + 1) 0) := by
  rw [swap_set _ _ _ _ (by rw [sealed_length]; omega)]
  by_cases h1 : k + 1 < L.length
  · have e1 : (sealed L).getD k 0 = L.getD k 0 := getD_append_left _ _ _ (by omega)
    have e2 : (sealed L).getD (k + 1) 0 = L.getD (k + 1) 0 := getD_append_left _ _ _ h1
    rw [e1, e2]
    have hs : (sealed L).take k ++ L.getD (k + 1) 0 :: L.getD k 0 :: (sealed L).drop (k + 2) = (L.take k ++ L.getD (k + 1) 0 :: L.getD k 0 :: L.drop (k + 2)) ++ be4 (Crc.sum L) := by
      unfold sealed
      rw [List.take_append_of_le_length (by omega), List.drop_append_of_le_length (by omega)]
      simp
    rw [hs, good_parts _ _ (be4_length _), rdN_be4 (Crc.sum_lt _)]
    have hx : L.getD k 0 < 256 := by rw [getD_at (by omega)]; exact hL _ (List.getElem_mem _)
    have hy : L.getD (k + 1) 0 < 256 := by rw [getD_at h1]; exact hL _ (List.getElem_mem _)
    rw [decide_eq_decide]
    constructor
    · intro e
      conv at e => lhs; rw [swap_at L k h1]
      exact Crc.sum_two (fun z hz => hL z (List.mem_of_mem_take hz)) (fun z hz => hL z (List.mem_of_mem_drop hz)) hx hy e
    · intro e
      conv => lhs; rw [swap_at L k h1]
      rw [e]
  · by_cases h2 : k + 1 = L.length
    · have hs := Crc.sum_lt L
      have hkl : k < L.length := by omega
      have e1 : (sealed L).getD k 0 = L.getD k 0 := getD_append_left _ _ _ hkl
      have e2 : (sealed L).getD (k + 1) 0 = Crc.sum L / 16777216 % 256 := by
        unfold sealed; rw [getD_append_right _ _ _ (by omega), h2, Nat.sub_self]; rfl
      have hx : L.getD k 0 < 256 := by rw [getD_at hkl]; exact hL _ (List.getElem_mem _)
      have hLk : L = L.take k ++ [L.getD k 0] := by
        conv => lhs; rw [split_at L k hkl]
        rw [List.drop_of_length_le (by omega)]
      rw [e1, e2]
      have hsw : (sealed L).take k ++ Crc.sum L / 16777216 % 256 :: L.getD k 0 :: (sealed L).drop (k + 2) = (L.take k ++ [Crc.sum L / 16777216 % 256]) ++ [L.getD k 0, Crc.sum L / 65536 % 256, Crc.sum L / 256 % 256, Crc.sum L % 256] := by
        unfold sealed
        rw [List.take_append_of_le_length (by omega), List.drop_append, List.drop_of_length_le (by omega : L.length ≤ k + 2), show k + 2 - L.length = 1 from by omega]
        simp [be4]
      rw [hsw, good_parts _ _ rfl, rd4_eq]
      have hl := Crc.sum_last (a := L.take k) (x := L.getD k 0) (y := Crc.sum L / 16777216 % 256) (fun z hz => hL z (List.mem_of_mem_take hz)) hx (by omega)
      rw [← hLk] at hl
      have hs2 := Crc.sum_lt (L.take k ++ [Crc.sum L / 16777216 % 256])
      generalize Crc.sum (L.take k ++ [Crc.sum L / 16777216 % 256]) = s2 at *
      generalize Crc.sum L = s at *
      generalize L.getD k 0 = x at *
      have hd : x ^^^ (s / 16777216 % 256) < 256 := Nat.xor_lt_two_pow (n := 8) hx (by omega)
      rw [decide_eq_decide]
      constructor
      · intro e
        -- the word with its top byte x, against s
        have hz : s ^^^ s2 = 16777216 * (x ^^^ (s / 16777216 % 256)) := by
          rw [← e]
          have hsx : s = 16777216 * (s / 16777216 % 256) ^^^ (s % 16777216) := by
            rw [Nat.mod_eq_of_lt (a := s / 16777216) (by omega)]
            apply Nat.eq_of_testBit_eq
            intro i
            rw [Nat.testBit_xor, show (16777216 : Nat) = 2 ^ 24 from rfl, Nat.testBit_two_pow_mul, Nat.testBit_mod_two_pow, Nat.testBit_div_two_pow]
            by_cases h : 24 ≤ i
            · simp [h, Nat.not_lt.2 h]
            · simp [h, Nat.lt_of_not_le h]
          have hr : x * 16777216 + s / 65536 % 256 * 65536 + s / 256 % 256 * 256 + s % 256 = 16777216 * x ^^^ (s % 16777216) := by
            have : x * 16777216 + s / 65536 % 256 * 65536 + s / 256 % 256 * 256 + s % 256 = 2 ^ 24 * x + s % 16777216 := by omega
            rw [this, Nat.two_pow_add_eq_or_of_lt (by omega : s % 16777216 < 2 ^ 24)]
            apply Nat.eq_of_testBit_eq
            intro i
            rw [Nat.testBit_or, Nat.testBit_xor, show (16777216 : Nat) = 2 ^ 24 from rfl, Nat.testBit_two_pow_mul, Nat.testBit_mod_two_pow]
            by_cases h : 24 ≤ i
            · simp [h, Nat.not_lt.2 h]
            · simp [h, Nat.lt_of_not_le h]
          rw [hr]
          conv => lhs; lhs; rw [hsx]
          apply Nat.eq_of_testBit_eq
          intro i
          simp only [Nat.testBit_xor, show (16777216 : Nat) = 2 ^ 24 from rfl, Nat.testBit_two_pow_mul]
          by_cases h : 24 ≤ i <;> cases (s % 2 ^ 24).testBit i <;> simp [h, Bool.xor_comm]
        rw [hz] at hl
        exact Crc.xor_eq_zero (Crc.top8 _ hd hl.symm)
      · intro e
        rw [← e, Nat.xor_self] at hl
        have := Crc.xor_eq_zero (hl.trans (by decide +kernel : Crc.mv8 0 = 0))
        omega
    · have h3 : L.length ≤ k := by omega
      have hs := Crc.sum_lt L
      have e1 : (sealed L).getD k 0 = (be4 (Crc.sum L)).getD (k - L.length) 0 := getD_append_right _ _ _ h3
      have e2 : (sealed L).getD (k + 1) 0 = (be4 (Crc.sum L)).getD (k - L.length + 1) 0 := by
        unfold sealed; rw [getD_append_right _ _ _ (by omega), show k + 1 - L.length = k - L.length + 1 from by omega]
      rw [e1, e2]
      have hsw : ∀ x y : Nat, (sealed L).take k ++ x :: y :: (sealed L).drop (k + 2) = L ++ ((be4 (Crc.sum L)).take (k - L.length) ++ x :: y :: (be4 (Crc.sum L)).drop (k - L.length + 2)) := by
        intro x y
        unfold sealed
        rw [List.take_append, List.take_of_length_le h3, List.drop_append, List.drop_of_length_le (by omega : L.length ≤ k + 2), show k + 2 - L.length = k - L.length + 2 from by omega]
        simp
      rw [hsw, good_parts _ _ (by simp [be4_length]; omega)]
      generalize Crc.sum L = s at *
      have hi : k - L.length = 0 ∨ k - L.length = 1 ∨ k - L.length = 2 := by omega
      rw [decide_eq_decide]
      have a0 : s / 16777216 % 256 < 256 := by omega
      have a1 : s / 65536 % 256 < 256 := by omega
      have a2 : s / 256 % 256 < 256 := by omega
      have a3 : s % 256 < 256 := by omega
      have hd : s = s / 16777216 % 256 * 16777216 + s / 65536 % 256 * 65536 + s / 256 % 256 * 256 + s % 256 := by omega
      rcases hi with e | e | e <;> rw [e] <;> simp only [be4, List.take_zero, List.take_succ_cons, List.drop_zero, List.drop_succ_cons, List.nil_append, List.cons_append, rd4_eq, List.getD_cons_zero, List.getD_cons_succ]
      all_goals
        generalize s / 16777216 % 256 = b0 at *
        generalize s / 65536 % 256 = b1 at *
        generalize s / 256 % 256 = b2 at *
        generalize s % 256 = b3 at *
        constructor <;> intro e5 <;> omega
end Go.Proofs.Ytdamnamhbjfnlaa
