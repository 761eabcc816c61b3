/-
  Package num: Add and Mul, their closures, and the document's own: what they answer, from any world.
-/
import Derived.Test.YtghbaoliokkfhaaNumA
namespace Go.Proofs.Ytghbaoliokkfhaa
open Go.RowKit

/-- What Add and Mul answer of counts whose sum, product is n: a number and an error's number. -/
def okN (n : Int) : Int := if n ≤ 1048576 then n else 0
def okE (n : Int) : Int := if n ≤ 1048576 then 0 else 12
def bothN (a b n : Int) : Int := if a = cut a ∧ b = cut b then okN n else 0
def bothE (a b n : Int) : Int := if a = cut a ∧ b = cut b then okE n else 1
def pair (n e : Int) : Value := .tuple #[.int .i64 n, .int .i64 e]
theorem both_yes {a b n : Int} (ha : a = cut a) (hb : b = cut b) (h : n ≤ 1048576) : pair (bothN a b n) (bothE a b n) = pair n 0 := by
  have hc : a = cut a ∧ b = cut b := ⟨ha, hb⟩; unfold bothN bothE okN okE; rw [if_pos hc, if_pos hc, if_pos h, if_pos h]
theorem both_over {a b n : Int} (ha : a = cut a) (hb : b = cut b) (h : ¬ n ≤ 1048576) : pair (bothN a b n) (bothE a b n) = pair 0 12 := by
  have hc : a = cut a ∧ b = cut b := ⟨ha, hb⟩; unfold bothN bothE okN okE; rw [if_pos hc, if_pos hc, if_neg h, if_neg h]
theorem both_no {a b n : Int} (h : ¬ (a = cut a ∧ b = cut b)) : pair (bothN a b n) (bothE a b n) = pair 0 1 := by
  unfold bothN bothE; rw [if_neg h, if_neg h]
theorem isCount_yes (n : Int) (w : World) (h : n = cut n) :
    Calls Try.prog 33 #[.int .i64 n] w fun e w' => e = .returned (.bool true) ∧ w = w' :=
  (isCount_any n w).mono fun _ _ ⟨he, hw⟩ => ⟨he.trans (ret_bool (beq_iff_eq.2 h)), hw⟩
theorem isCount_no (n : Int) (w : World) (h : ¬ n = cut n) :
    Calls Try.prog 33 #[.int .i64 n] w fun e w' => e = .returned (.bool false) ∧ w = w' :=
  (isCount_any n w).mono fun _ _ ⟨he, hw⟩ => ⟨he.trans (ret_bool (beq_eq_false_iff_ne.2 h)), hw⟩
theorem refCut_yes (n : Int) (w : World) (h : n = cut n) :
    Calls Try.prog 16 #[.int .i64 n] w fun e w' => e = .returned (.int .i64 n) ∧ w = w' :=
  (refCut_any n w).mono fun _ _ ⟨he, hw⟩ => ⟨he.trans (ret_int h.symm), hw⟩

theorem add1_any (a b : Int) (p q : Nat) (w : World) (ha : w.cell? ⟨p, 0, none⟩ = some (.int .i64 a)) (hb : w.cell? ⟨q, 0, none⟩ = some (.int .i64 b))
    (h1 : 0 ≤ a + b) (h2 : a + b ≤ 1099511627776) :
    Calls Try.prog 29 #[.pointer (some ⟨p, 0, none⟩), .pointer (some ⟨q, 0, none⟩)] w fun e w' => e = .returned (.int .i64 (a + b)) ∧ w = w' := by
  go_enter Try.func29, Try.ntmps29
  go_wp2_with fail
  go_ret
  exact ⟨rfl, rfl⟩
theorem checkedAdd_any (a b : Int) (p q : Nat) (w : World) (ha : w.cell? ⟨p, 0, none⟩ = some (.int .i64 a)) (hb : w.cell? ⟨q, 0, none⟩ = some (.int .i64 b)) :
    Calls Try.prog 28 #[.int .i64 a, .int .i64 b, .func (.func 29) #[] #[.pointer (some ⟨p, 0, none⟩), .pointer (some ⟨q, 0, none⟩)]] w
      fun e w' => e = .returned (pair (bothN a b (a + b)) (bothE a b (a + b))) ∧ w = w' := by
  have HA := Lib.hid ha; clear ha
  have HB := Lib.hid hb; clear hb
  by_cases ca : a = cut a
  · have CA := Lib.hid ca; clear ca
    by_cases cb : b = cut b
    · have CB := Lib.hid cb; clear cb
      have h1 : 0 ≤ a ∧ a ≤ 1048576 := by rw [CA.out]; exact cut_bd a
      have h2 : 0 ≤ b ∧ b ≤ 1048576 := by rw [CB.out]; exact cut_bd b
      obtain ⟨h3, h4⟩ : 0 ≤ a + b ∧ a + b ≤ 1099511627776 := by omega
      by_cases ho : a + b ≤ 1048576
      · go_enter Try.func28, Try.ntmps28
        go_wp2_with (first | ((with_reducible refine (isCount_yes a _ CA.out).mono ?_); rintro e w' ⟨rfl, rfl⟩) | ((with_reducible refine (isCount_yes b _ CB.out).mono ?_); rintro e w' ⟨rfl, rfl⟩) | ((with_reducible refine (add1_any a b p q _ HA.out HB.out h3 h4).mono ?_); rintro e w' ⟨rfl, rfl⟩))
        go_ret2
        exact ⟨congrArg Ending.returned (both_yes CA.out CB.out ho).symm, rfl⟩
      · go_enter Try.func28, Try.ntmps28
        go_wp2_with (first | ((with_reducible refine (isCount_yes a _ CA.out).mono ?_); rintro e w' ⟨rfl, rfl⟩) | ((with_reducible refine (isCount_yes b _ CB.out).mono ?_); rintro e w' ⟨rfl, rfl⟩) | ((with_reducible refine (add1_any a b p q _ HA.out HB.out h3 h4).mono ?_); rintro e w' ⟨rfl, rfl⟩))
        go_ret2
        exact ⟨congrArg Ending.returned (both_over CA.out CB.out (by omega)).symm, rfl⟩
    · have CB := Lib.hid cb; clear cb
      go_enter Try.func28, Try.ntmps28
      go_wp2_with (first | ((with_reducible refine (isCount_yes a _ CA.out).mono ?_); rintro e w' ⟨rfl, rfl⟩) | ((with_reducible refine (isCount_no b _ CB.out).mono ?_); rintro e w' ⟨rfl, rfl⟩))
      go_ret2
      exact ⟨congrArg Ending.returned (both_no (fun h => CB.out h.2)).symm, rfl⟩
  · have CA := Lib.hid ca; clear ca
    go_enter Try.func28, Try.ntmps28
    go_wp2_with ((with_reducible refine (isCount_no a _ CA.out).mono ?_); rintro e w' ⟨rfl, rfl⟩)
    go_ret2
    exact ⟨congrArg Ending.returned (both_no (fun h => CA.out h.1)).symm, rfl⟩
theorem add_any (a b : Int) (w : World) :
    Calls Try.prog 11 #[.int .i64 a, .int .i64 b] w fun e w' => e = .returned (pair (bothN a b (a + b)) (bothE a b (a + b))) ∧ Below w.heap.size w w' := by
  have hmf : ∀ (fn : Fn) (first cap : Array Value) (w : World), (Instr.makeFunc fn first cap).run Try.prog w = .ok (.func fn first cap) w := fun _ _ _ _ => rfl
  go_enter Try.func11, Try.ntmps11
  go_wp2_with fail
  refine (checkedAdd_any a b w.heap.size (w.heap.size + 1) _ ?_ ?_).mono ?_
  · go_simp
  · go_simp
  rintro e w' ⟨rfl, rfl⟩
  unfold pair
  go_wp2_with fail
  go_ret2
  exact ⟨rfl, ((Below.refl _ _).alloc (Nat.le_refl _) _).alloc (by simp) _⟩
theorem refAdd_any (a b : Int) (w : World) :
    Calls Try.prog 12 #[.int .i64 a, .int .i64 b] w fun e w' => e = .returned (pair (bothN a b (a + b)) (bothE a b (a + b))) ∧ w = w' := by
  by_cases ca : a = cut a
  · have CA := Lib.hid ca; clear ca
    by_cases cb : b = cut b
    · have CB := Lib.hid cb; clear cb
      have h1 : 0 ≤ a ∧ a ≤ 1048576 := by rw [CA.out]; exact cut_bd a
      have h2 : 0 ≤ b ∧ b ≤ 1048576 := by rw [CB.out]; exact cut_bd b
      obtain ⟨h3, h4⟩ : 0 ≤ a + b ∧ a + b ≤ 1099511627776 := by omega
      by_cases ho : a + b ≤ 1048576
      · go_enter Try.func12, Try.ntmps12
        go_wp2_with (first | ((with_reducible refine (refCut_yes a _ CA.out).mono ?_); rintro e w' ⟨rfl, rfl⟩) | ((with_reducible refine (refCut_yes b _ CB.out).mono ?_); rintro e w' ⟨rfl, rfl⟩))
        go_ret2
        exact ⟨congrArg Ending.returned (both_yes CA.out CB.out ho).symm, rfl⟩
      · go_enter Try.func12, Try.ntmps12
        go_wp2_with (first | ((with_reducible refine (refCut_yes a _ CA.out).mono ?_); rintro e w' ⟨rfl, rfl⟩) | ((with_reducible refine (refCut_yes b _ CB.out).mono ?_); rintro e w' ⟨rfl, rfl⟩))
        go_ret2
        exact ⟨congrArg Ending.returned (both_over CA.out CB.out (by omega)).symm, rfl⟩
    · have CB := Lib.hid cb
      have hb : (cut b == b) = false := by rw [beq_eq_false_iff_ne]; exact fun h => CB.out h.symm
      have hb' : (cut b != b) = true := by rw [bne_iff_ne]; exact fun h => CB.out h.symm
      clear cb
      go_enter Try.func12, Try.ntmps12
      go_wp2_with (first | ((with_reducible refine (refCut_yes a _ CA.out).mono ?_); rintro e w' ⟨rfl, rfl⟩) | ((with_reducible refine (refCut_any b _).mono ?_); rintro e w' ⟨rfl, rfl⟩))
      go_ret2
      exact ⟨congrArg Ending.returned (both_no (fun h => CB.out h.2)).symm, rfl⟩
  · have CA := Lib.hid ca
    have ha : (cut a == a) = false := by rw [beq_eq_false_iff_ne]; exact fun h => CA.out h.symm
    have ha' : (cut a != a) = true := by rw [bne_iff_ne]; exact fun h => CA.out h.symm
    clear ca
    go_enter Try.func12, Try.ntmps12
    go_wp2_with ((with_reducible refine (refCut_any a _).mono ?_); rintro e w' ⟨rfl, rfl⟩)
    go_ret2
    exact ⟨congrArg Ending.returned (both_no (fun h => CA.out h.1)).symm, rfl⟩

theorem mul1_any (a b : Int) (p q : Nat) (w : World) (ha : w.cell? ⟨p, 0, none⟩ = some (.int .i64 a)) (hb : w.cell? ⟨q, 0, none⟩ = some (.int .i64 b))
    (h1 : 0 ≤ a * b) (h2 : a * b ≤ 1099511627776) :
    Calls Try.prog 30 #[.pointer (some ⟨p, 0, none⟩), .pointer (some ⟨q, 0, none⟩)] w fun e w' => e = .returned (.int .i64 (a * b)) ∧ w = w' := by
  go_enter Try.func30, Try.ntmps30
  go_wp2_with fail
  go_ret
  exact ⟨rfl, rfl⟩
theorem checkedMul_any (a b : Int) (p q : Nat) (w : World) (ha : w.cell? ⟨p, 0, none⟩ = some (.int .i64 a)) (hb : w.cell? ⟨q, 0, none⟩ = some (.int .i64 b)) :
    Calls Try.prog 28 #[.int .i64 a, .int .i64 b, .func (.func 30) #[] #[.pointer (some ⟨p, 0, none⟩), .pointer (some ⟨q, 0, none⟩)]] w
      fun e w' => e = .returned (pair (bothN a b (a * b)) (bothE a b (a * b))) ∧ w = w' := by
  have HA := Lib.hid ha; clear ha
  have HB := Lib.hid hb; clear hb
  by_cases ca : a = cut a
  · have CA := Lib.hid ca; clear ca
    by_cases cb : b = cut b
    · have CB := Lib.hid cb; clear cb
      have h1 : 0 ≤ a ∧ a ≤ 1048576 := by rw [CA.out]; exact cut_bd a
      have h2 : 0 ≤ b ∧ b ≤ 1048576 := by rw [CB.out]; exact cut_bd b
      obtain ⟨h3, h4⟩ : 0 ≤ a * b ∧ a * b ≤ 1099511627776 := mul_bd h1 h2
      by_cases ho : a * b ≤ 1048576
      · go_enter Try.func28, Try.ntmps28
        go_wp2_with (first | ((with_reducible refine (isCount_yes a _ CA.out).mono ?_); rintro e w' ⟨rfl, rfl⟩) | ((with_reducible refine (isCount_yes b _ CB.out).mono ?_); rintro e w' ⟨rfl, rfl⟩) | ((with_reducible refine (mul1_any a b p q _ HA.out HB.out h3 h4).mono ?_); rintro e w' ⟨rfl, rfl⟩))
        go_ret2
        exact ⟨congrArg Ending.returned (both_yes CA.out CB.out ho).symm, rfl⟩
      · go_enter Try.func28, Try.ntmps28
        go_wp2_with (first | ((with_reducible refine (isCount_yes a _ CA.out).mono ?_); rintro e w' ⟨rfl, rfl⟩) | ((with_reducible refine (isCount_yes b _ CB.out).mono ?_); rintro e w' ⟨rfl, rfl⟩) | ((with_reducible refine (mul1_any a b p q _ HA.out HB.out h3 h4).mono ?_); rintro e w' ⟨rfl, rfl⟩))
        go_ret2
        exact ⟨congrArg Ending.returned (both_over CA.out CB.out (by omega)).symm, rfl⟩
    · have CB := Lib.hid cb; clear cb
      go_enter Try.func28, Try.ntmps28
      go_wp2_with (first | ((with_reducible refine (isCount_yes a _ CA.out).mono ?_); rintro e w' ⟨rfl, rfl⟩) | ((with_reducible refine (isCount_no b _ CB.out).mono ?_); rintro e w' ⟨rfl, rfl⟩))
      go_ret2
      exact ⟨congrArg Ending.returned (both_no (fun h => CB.out h.2)).symm, rfl⟩
  · have CA := Lib.hid ca; clear ca
    go_enter Try.func28, Try.ntmps28
    go_wp2_with ((with_reducible refine (isCount_no a _ CA.out).mono ?_); rintro e w' ⟨rfl, rfl⟩)
    go_ret2
    exact ⟨congrArg Ending.returned (both_no (fun h => CA.out h.1)).symm, rfl⟩
theorem mul_any (a b : Int) (w : World) :
    Calls Try.prog 13 #[.int .i64 a, .int .i64 b] w fun e w' => e = .returned (pair (bothN a b (a * b)) (bothE a b (a * b))) ∧ Below w.heap.size w w' := by
  have hmf : ∀ (fn : Fn) (first cap : Array Value) (w : World), (Instr.makeFunc fn first cap).run Try.prog w = .ok (.func fn first cap) w := fun _ _ _ _ => rfl
  go_enter Try.func13, Try.ntmps13
  go_wp2_with fail
  refine (checkedMul_any a b w.heap.size (w.heap.size + 1) _ ?_ ?_).mono ?_
  · go_simp
  · go_simp
  rintro e w' ⟨rfl, rfl⟩
  unfold pair
  go_wp2_with fail
  go_ret2
  exact ⟨rfl, ((Below.refl _ _).alloc (Nat.le_refl _) _).alloc (by simp) _⟩
theorem refMul_any (a b : Int) (w : World) :
    Calls Try.prog 14 #[.int .i64 a, .int .i64 b] w fun e w' => e = .returned (pair (bothN a b (a * b)) (bothE a b (a * b))) ∧ w = w' := by
  by_cases ca : a = cut a
  · have CA := Lib.hid ca; clear ca
    by_cases cb : b = cut b
    · have CB := Lib.hid cb; clear cb
      have h1 : 0 ≤ a ∧ a ≤ 1048576 := by rw [CA.out]; exact cut_bd a
      have h2 : 0 ≤ b ∧ b ≤ 1048576 := by rw [CB.out]; exact cut_bd b
      obtain ⟨h3, h4⟩ : 0 ≤ a * b ∧ a * b ≤ 1099511627776 := mul_bd h1 h2
      by_cases ho : a * b ≤ 1048576
      · go_enter Try.func14, Try.ntmps14
        go_wp2_with (first | ((with_reducible refine (refCut_yes a _ CA.out).mono ?_); rintro e w' ⟨rfl, rfl⟩) | ((with_reducible refine (refCut_yes b _ CB.out).mono ?_); rintro e w' ⟨rfl, rfl⟩))
        go_ret2
        exact ⟨congrArg Ending.returned (both_yes CA.out CB.out ho).symm, rfl⟩
      · go_enter Try.func14, Try.ntmps14
        go_wp2_with (first | ((with_reducible refine (refCut_yes a _ CA.out).mono ?_); rintro e w' ⟨rfl, rfl⟩) | ((with_reducible refine (refCut_yes b _ CB.out).mono ?_); rintro e w' ⟨rfl, rfl⟩))
        go_ret2
        exact ⟨congrArg Ending.returned (both_over CA.out CB.out (by omega)).symm, rfl⟩
    · have CB := Lib.hid cb
      have hb : (cut b == b) = false := by rw [beq_eq_false_iff_ne]; exact fun h => CB.out h.symm
      have hb' : (cut b != b) = true := by rw [bne_iff_ne]; exact fun h => CB.out h.symm
      clear cb
      go_enter Try.func14, Try.ntmps14
      go_wp2_with (first | ((with_reducible refine (refCut_yes a _ CA.out).mono ?_); rintro e w' ⟨rfl, rfl⟩) | ((with_reducible refine (refCut_any b _).mono ?_); rintro e w' ⟨rfl, rfl⟩))
      go_ret2
      exact ⟨congrArg Ending.returned (both_no (fun h => CB.out h.2)).symm, rfl⟩
  · have CA := Lib.hid ca
    have ha : (cut a == a) = false := by rw [beq_eq_false_iff_ne]; exact fun h => CA.out h.symm
    have ha' : (cut a != a) = true := by rw [bne_iff_ne]; exact fun h => CA.out h.symm
    clear ca
    go_enter Try.func14, Try.ntmps14
    go_wp2_with ((with_reducible refine (refCut_any a _).mono ?_); rintro e w' ⟨rfl, rfl⟩)
    go_ret2
    exact ⟨congrArg Ending.returned (both_no (fun h => CA.out h.1)).symm, rfl⟩
end Go.Proofs.Ytghbaoliokkfhaa
