/-
  The walk of the statement NumOver.
-/
import Derived.Test.YtghbaoliokkfhaaNumLives
namespace Go.Proofs.Ytghbaoliokkfhaa
open Go.RowKit

theorem cut_yes (n : Int) (w : World) (h : n = cut n) :
    Calls Try.prog 15 #[.int .i64 n] w fun e w' => e = .returned (.int .i64 n) ∧ w = w' :=
  (cut_any n w).mono fun _ _ ⟨he, hw⟩ => ⟨he.trans (ret_int h.symm), hw⟩
/-- What Add answers, told by its case. -/
theorem add_is {w0 : World} (a b n e : Int) (W : World) (hp : pair (bothN a b (a + b)) (bothE a b (a + b)) = pair n e) (hb : Below w0.heap.size w0 W) :
    Calls Try.prog 11 #[.int .i64 a, .int .i64 b] W fun e' w' => e' = .returned (.tuple #[.int .i64 n, .int .i64 e]) ∧ Below w0.heap.size w0 w' :=
  (add_at a b W hb).mono fun _ _ ⟨he, h2⟩ => ⟨he.trans (congrArg Ending.returned hp), h2⟩

set_option maxHeartbeats 1600000 in
theorem over_walk (a b : Int) (w : World) :
    Calls Try.prog 9 #[.int .i64 a, .int .i64 b] w fun e w' => e = .returned (.bool true) ∧ Below w.heap.size w w' := by
  by_cases ca : a = cut a
  · have CA := Lib.hid ca; clear ca
    by_cases cb : b = cut b
    · have CB := Lib.hid cb; clear cb
      have h1 : 0 ≤ a ∧ a ≤ 1048576 := by rw [CA.out]; exact cut_bd a
      have h2 : 0 ≤ b ∧ b ≤ 1048576 := by rw [CB.out]; exact cut_bd b
      obtain ⟨a1, a2⟩ := h1
      obtain ⟨b1, b2⟩ := h2
      by_cases ho : a + b ≤ 1048576
      · have P1 := Lib.hid (both_yes CA.out CB.out ho)
        have P2 : Hid (pair (bothN b a (b + a)) (bothE b a (b + a)) = pair (a + b) 0) := by show _ = _; rw [Int.add_comm b a]; exact both_yes CB.out CA.out ho
        have h3 : a + b - a = b := by omega
        go_enter Try.func9, Try.ntmps9
        go_wp2_with fail
        refine (lives_at _ (Below.refl _ _)).mono ?_
        rintro e w1 ⟨rfl, hb1⟩
        have B1 := Lib.hid hb1; clear hb1
        go_wp2_with fail
        refine (add_is a b (a + b) 0 _ P1.out B1.out).mono ?_
        rintro e w2 ⟨rfl, hb2⟩
        have B2 := Lib.hid hb2; clear hb2 B1
        go_wp2_with fail
        refine (add_is b a (a + b) 0 _ P2.out B2.out).mono ?_
        rintro e w3 ⟨rfl, hb3⟩
        have B3 := Lib.hid hb3; clear hb3 B2
        go_wp2_with fail
        refine (cut_yes a _ CA.out).mono ?_
        rintro e w4 ⟨rfl, rfl⟩
        go_wp2_with fail
        refine (cut_yes b _ CB.out).mono ?_
        rintro e w4 ⟨rfl, rfl⟩
        go_wp2_with fail
        go_ret
        exact ⟨rfl, B3.out⟩
      · have P1 := Lib.hid (both_over CA.out CB.out ho)
        have P2 : Hid (pair (bothN b a (b + a)) (bothE b a (b + a)) = pair 0 12) := by show _ = _; rw [Int.add_comm b a]; exact both_over CB.out CA.out ho
        have h3 : decide (a ≤ 1048576 - b) = false := decide_eq_false (by omega)
        go_enter Try.func9, Try.ntmps9
        go_wp2_with fail
        refine (lives_at _ (Below.refl _ _)).mono ?_
        rintro e w1 ⟨rfl, hb1⟩
        have B1 := Lib.hid hb1; clear hb1
        go_wp2_with fail
        refine (add_is a b 0 12 _ P1.out B1.out).mono ?_
        rintro e w2 ⟨rfl, hb2⟩
        have B2 := Lib.hid hb2; clear hb2 B1
        go_wp2_with fail
        refine (add_is b a 0 12 _ P2.out B2.out).mono ?_
        rintro e w3 ⟨rfl, hb3⟩
        have B3 := Lib.hid hb3; clear hb3 B2
        go_wp2_with fail
        refine (cut_yes a _ CA.out).mono ?_
        rintro e w4 ⟨rfl, rfl⟩
        go_wp2_with fail
        refine (cut_yes b _ CB.out).mono ?_
        rintro e w4 ⟨rfl, rfl⟩
        go_wp2_with fail
        go_ret
        exact ⟨rfl, B3.out⟩
    · have CB := Lib.hid cb
      have hb : (cut b == b) = false := by rw [beq_eq_false_iff_ne]; exact fun h => CB.out h.symm
      clear cb
      have P1 : Hid (pair (bothN a b (a + b)) (bothE a b (a + b)) = pair 0 1) := both_no (fun h => CB.out h.2)
      have P2 : Hid (pair (bothN b a (b + a)) (bothE b a (b + a)) = pair 0 1) := both_no (fun h => CB.out h.1)
      go_enter Try.func9, Try.ntmps9
      go_wp2_with fail
      refine (lives_at _ (Below.refl _ _)).mono ?_
      rintro e w1 ⟨rfl, hb1⟩
      have B1 := Lib.hid hb1; clear hb1
      go_wp2_with fail
      refine (add_is a b 0 1 _ P1.out B1.out).mono ?_
      rintro e w2 ⟨rfl, hb2⟩
      have B2 := Lib.hid hb2; clear hb2 B1
      go_wp2_with fail
      refine (add_is b a 0 1 _ P2.out B2.out).mono ?_
      rintro e w3 ⟨rfl, hb3⟩
      have B3 := Lib.hid hb3; clear hb3 B2
      go_wp2_with fail
      refine (cut_yes a _ CA.out).mono ?_
      rintro e w4 ⟨rfl, rfl⟩
      go_wp2_with fail
      refine (cut_any b _).mono ?_
      rintro e w4 ⟨rfl, rfl⟩
      go_wp2_with fail
      go_ret
      exact ⟨rfl, B3.out⟩
  · have CA := Lib.hid ca
    have ha : (cut a == a) = false := by rw [beq_eq_false_iff_ne]; exact fun h => CA.out h.symm
    clear ca
    have P1 : Hid (pair (bothN a b (a + b)) (bothE a b (a + b)) = pair 0 1) := both_no (fun h => CA.out h.1)
    have P2 : Hid (pair (bothN b a (b + a)) (bothE b a (b + a)) = pair 0 1) := both_no (fun h => CA.out h.2)
    go_enter Try.func9, Try.ntmps9
    go_wp2_with fail
    refine (lives_at _ (Below.refl _ _)).mono ?_
    rintro e w1 ⟨rfl, hb1⟩
    have B1 := Lib.hid hb1; clear hb1
    go_wp2_with fail
    refine (add_is a b 0 1 _ P1.out B1.out).mono ?_
    rintro e w2 ⟨rfl, hb2⟩
    have B2 := Lib.hid hb2; clear hb2 B1
    go_wp2_with fail
    refine (add_is b a 0 1 _ P2.out B2.out).mono ?_
    rintro e w3 ⟨rfl, hb3⟩
    have B3 := Lib.hid hb3; clear hb3 B2
    go_wp2_with fail
    refine (cut_any a _).mono ?_
    rintro e w4 ⟨rfl, rfl⟩
    go_wp2_with fail
    go_ret
    exact ⟨rfl, B3.out⟩
end Go.Proofs.Ytghbaoliokkfhaa
