/-
  The walk of the statement CodecSizes.
-/
import Derived.Test.YtogmepijpklciaaCdcLives
namespace Go.Proofs.Ytogmepijpklciaa
open Go.RowKit Cdc

set_option maxRecDepth 100000 in
set_option maxHeartbeats 1600000 in
theorem sizes_neg (a b lo hi : Int) (w : World) (hlo : min a b = lo) (hhi : max a b = hi) (h0 : lo < 0) :
    Calls Try.prog 7 #[.int .i64 a, .int .i64 b] w fun e w' => e = .returned (.bool true) ∧ Below w.heap.size w w' := by
  have HZ := Lib.hid (sz_no (.inl h0))
  have h0' : ¬ 0 ≤ lo := by omega
  go_enter Try.func7, Try.ntmps7
  go_wp2_with fail
  refine (lives_at _ (Below.refl _ _)).mono ?_
  rintro e w1 ⟨rfl, hb1⟩
  have B1 := Lib.hid hb1; clear hb1
  go_wp2_with fail
  refine (size_any lo w1).mono ?_
  rintro e w2 ⟨rfl, rfl⟩
  rw [HZ.out]
  go_wp2_with fail
  refine (size_any hi w1).mono ?_
  rintro e w2 ⟨rfl, rfl⟩
  go_wp2_with fail
  go_ret
  exact ⟨rfl, B1.out⟩
set_option maxRecDepth 100000 in
set_option maxHeartbeats 1600000 in
theorem sizes_over (a b lo hi : Int) (w : World) (hlo : min a b = lo) (hhi : max a b = hi) (h0 : 0 ≤ lo) (h1 : decide (4611686018427387903 < hi) = true) :
    Calls Try.prog 7 #[.int .i64 a, .int .i64 b] w fun e w' => e = .returned (.bool true) ∧ Below w.heap.size w w' := by
  go_enter Try.func7, Try.ntmps7
  go_wp2_with fail
  refine (lives_at _ (Below.refl _ _)).mono ?_
  rintro e w1 ⟨rfl, hb1⟩
  have B1 := Lib.hid hb1; clear hb1
  go_wp2_with fail
  refine (size_any lo w1).mono ?_
  rintro e w2 ⟨rfl, rfl⟩
  go_wp2_with fail
  refine (size_any hi w1).mono ?_
  rintro e w2 ⟨rfl, rfl⟩
  go_wp2_with fail
  go_ret
  exact ⟨rfl, B1.out⟩
set_option maxRecDepth 100000 in
set_option maxHeartbeats 1600000 in
theorem sizes_small (a b : Int) (lo hi : Int) (x y : Nat) (w : World) (hlo : min a b = lo) (hhi : max a b = hi) (h0 : 0 ≤ lo) (h1 : decide (4611686018427387903 < hi) = false) (x1 : 1 ≤ x) (x2 : x ≤ y) (x3 : y ≤ 9)
    (X : Hid (∀ W, Calls Try.prog 17 #[.int .i64 lo] W fun e w' => e = .returned (.int .i64 x) ∧ W = w')) (Y : Hid (∀ W, Calls Try.prog 17 #[.int .i64 hi] W fun e w' => e = .returned (.int .i64 y) ∧ W = w'))
    (t1 : ((y : Int) == 1) = decide (hi < 128)) (t2 : (y : Int) ≤ 2 ↔ hi < 16384) (hb : decide (hi < 36028797018963968) = true) :
    Calls Try.prog 7 #[.int .i64 a, .int .i64 b] w fun e w' => e = .returned (.bool true) ∧ Below w.heap.size w w' := by
  go_enter Try.func7, Try.ntmps7
  go_wp2_with fail
  refine (lives_at _ (Below.refl _ _)).mono ?_
  rintro e w1 ⟨rfl, hb1⟩
  have B1 := Lib.hid hb1; clear hb1
  go_wp2_with fail
  refine (X.out w1).mono ?_
  rintro e w2 ⟨rfl, rfl⟩
  go_wp2_with fail
  refine (Y.out w1).mono ?_
  rintro e w2 ⟨rfl, rfl⟩
  go_wp2_with fail
  go_ret
  exact ⟨rfl, B1.out⟩
set_option maxRecDepth 100000 in
set_option maxHeartbeats 1600000 in
theorem sizes_big (a b : Int) (lo hi : Int) (x y z : Nat) (w : World) (hlo : min a b = lo) (hhi : max a b = hi) (h0 : 0 ≤ lo) (h1 : decide (4611686018427387903 < hi) = false) (x1 : 1 ≤ x) (x2 : x ≤ y) (x3 : y ≤ 9)
    (X : Hid (∀ W, Calls Try.prog 17 #[.int .i64 lo] W fun e w' => e = .returned (.int .i64 x) ∧ W = w')) (Y : Hid (∀ W, Calls Try.prog 17 #[.int .i64 hi] W fun e w' => e = .returned (.int .i64 y) ∧ W = w'))
    (t1 : ((y : Int) == 1) = decide (hi < 128)) (t2 : (y : Int) ≤ 2 ↔ hi < 16384) (hb : decide (hi < 36028797018963968) = false) (HD : Hid (wrap64 (hi.tdiv 128) = hi / 128))
    (Z : Hid (∀ W, Calls Try.prog 17 #[.int .i64 (hi / 128)] W fun e w' => e = .returned (.int .i64 z) ∧ W = w')) (t3 : ((z : Int) == (y : Int) - 1) = true) :
    Calls Try.prog 7 #[.int .i64 a, .int .i64 b] w fun e w' => e = .returned (.bool true) ∧ Below w.heap.size w w' := by
  have T3 := Lib.hid t3; clear t3
  go_enter Try.func7, Try.ntmps7
  go_wp2_with fail
  refine (lives_at _ (Below.refl _ _)).mono ?_
  rintro e w1 ⟨rfl, hb1⟩
  have B1 := Lib.hid hb1; clear hb1
  go_wp2_with fail
  refine (X.out w1).mono ?_
  rintro e w2 ⟨rfl, rfl⟩
  go_wp2_with fail
  refine (Y.out w1).mono ?_
  rintro e w2 ⟨rfl, rfl⟩
  go_wp2_with fail
  rw [HD.out]
  (with_reducible refine (Z.out w1).mono ?_)
  rintro e w2 ⟨rfl, rfl⟩
  have t3 := T3.out
  go_wp2_with fail
  go_ret
  exact ⟨rfl, B1.out⟩
theorem sizes_walk (a b : Int) (w : World) :
    Calls Try.prog 7 #[.int .i64 a, .int .i64 b] w fun e w' => e = .returned (.bool true) ∧ Below w.heap.size w w' := by
  obtain ⟨lo, hlo⟩ : ∃ lo, min a b = lo := ⟨_, rfl⟩
  obtain ⟨hi, hhi⟩ : ∃ hi, max a b = hi := ⟨_, rfl⟩
  have hle : lo ≤ hi := by omega
  by_cases h0 : lo < 0
  · exact sizes_neg a b lo hi w hlo hhi h0
  · by_cases h1 : 4611686018427387903 < hi
    · exact sizes_over a b lo hi w hlo hhi (by omega) (decide_eq_true h1)
    · obtain ⟨l, rfl⟩ : ∃ l : Nat, lo = (l : Int) := ⟨lo.toNat, by omega⟩
      obtain ⟨h, rfl⟩ : ∃ h : Nat, hi = (h : Int) := ⟨hi.toNat, by omega⟩
      have t1 : (((digs h).length : Int) == 1) = decide ((h : Int) < 128) := by
        have := digs_one (n := h)
        rw [Bool.eq_iff_iff, beq_iff_eq, decide_eq_true_eq]; omega
      have t2 : ((digs h).length : Int) ≤ 2 ↔ (h : Int) < 16384 := by have := digs_two (n := h); omega
      have x2 := digs_up (a := l) (b := h) (by omega)
      have x3 := digs_nine (n := h) (by omega)
      by_cases hb : 36028797018963968 ≤ h
      · exact sizes_big a b l h (digs l).length (digs h).length (digs (h / 128)).length w hlo hhi (by omega) (decide_eq_false (by omega)) (digs_pos l) x2 x3 (fun W => size_yes l W (by omega)) (fun W => size_yes h W (by omega)) t1 t2 (decide_eq_false (by omega)) (by show _ = _; rw [Int.tdiv_eq_ediv_of_nonneg (by omega), IntWalk.wrap64_in _ ⟨by omega, by omega⟩])
          (fun W => size_yes (h / 128) W (by omega)) (by have h1 := digs_quo (n := h) (by omega); have h2 := digs_pos h; rw [beq_iff_eq]; omega)
      · exact sizes_small a b l h (digs l).length (digs h).length w hlo hhi (by omega) (decide_eq_false (by omega)) (digs_pos l) x2 x3 (fun W => size_yes l W (by omega)) (fun W => size_yes h W (by omega)) t1 t2 (decide_eq_true (by omega))
end Go.Proofs.Ytogmepijpklciaa
