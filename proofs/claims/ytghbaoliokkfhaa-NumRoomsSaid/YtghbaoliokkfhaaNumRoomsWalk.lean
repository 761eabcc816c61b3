/-
  The walk of the statement NumRooms.
-/
import Derived.Test.YtghbaoliokkfhaaNumLives
namespace Go.Proofs.Ytghbaoliokkfhaa
open Go.RowKit

theorem cut_id' (n : Int) (h : 0 ≤ n) (h1 : n ≤ 1048576) : cut n = n := by unfold cut; omega
theorem room_is (t d m : Int) (a : 0 ≤ t ∧ t ≤ 1048576) (b : 0 ≤ d ∧ d ≤ 1048576) (c : 0 ≤ m ∧ m ≤ 1048576) : room t d m = max 0 (d + m - t) := by
  unfold room; rw [cut_id' t a.1 a.2, cut_id' d b.1 b.2, cut_id' m c.1 c.2]
theorem rest_bd (n : Int) : 0 ≤ cut n % 262144 ∧ cut n % 262144 < 262144 := by omega

set_option maxHeartbeats 800000 in
theorem rooms_walk (t0 d0 m0 : Int) (w : World) :
    Calls Try.prog 8 #[.int .i64 t0, .int .i64 d0, .int .i64 m0] w fun e w' => e = .returned (.bool true) ∧ Below w.heap.size w w' := by
  have c1 := (cut_bd t0).1
  have c2 := (cut_bd d0).1
  have c3 := (cut_bd m0).1
  go_enter Try.func8, Try.ntmps8
  go_wp2_with fail
  refine (lives_at _ (Below.refl _ _)).mono ?_
  rintro e w1 ⟨rfl, hb1⟩
  have B1 := Lib.hid hb1; clear hb1
  go_wp2_with fail
  refine (cut_any t0 _).mono ?_
  rintro e w3 ⟨rfl, rfl⟩
  go_wp2_with fail
  refine (cut_any d0 _).mono ?_
  rintro e w3 ⟨rfl, rfl⟩
  go_wp2_with fail
  refine (cut_any m0 _).mono ?_
  rintro e w3 ⟨rfl, rfl⟩
  go_wp2_with fail
  obtain ⟨a1, a2⟩ := rest_bd t0
  obtain ⟨b1, b2⟩ := rest_bd d0
  obtain ⟨e1, e2⟩ := rest_bd m0
  clear c1 c2 c3
  generalize cut t0 % 262144 = t at *
  generalize cut d0 % 262144 = d at *
  generalize cut m0 % 262144 = m at *
  refine (room_any _ _ _ _).mono ?_
  rintro e w3 ⟨rfl, rfl⟩
  have hx : d + m ≤ t ∨ t < d + m := by omega
  rcases hx with hx | hx
  · rw [room_is t d m (by omega) (by omega) (by omega), show max 0 (d + m - t) = 0 from by omega]
    go_wp2_with fail
    refine (room_any _ _ _ _).mono ?_
    rintro e w3 ⟨rfl, rfl⟩
    rw [room_is _ d m (by omega) (by omega) (by omega), show max 0 (d + m - t) = 0 from by omega]
    go_wp2_with fail
    go_ret
    exact ⟨rfl, B1.out⟩
  · rw [room_is t d m (by omega) (by omega) (by omega), show max 0 (d + m - t) = d + m - t from by omega]
    have h0 : (d + m - t == 0) = false := by rw [beq_eq_false_iff_ne]; omega
    have h1 : t + (d + m - t) = d + m := by omega
    have h2 : decide (d + m ≤ t) = false := by rw [decide_eq_false_iff_not]; omega
    go_wp2_with fail
    refine (room_any _ _ _ _).mono ?_
    rintro e w3 ⟨rfl, rfl⟩
    rw [room_is _ d m (by omega) (by omega) (by omega), show max 0 (d + m - (d + m)) = 0 from by omega]
    go_wp2_with fail
    refine (room_any _ _ _ _).mono ?_
    rintro e w3 ⟨rfl, rfl⟩
    rw [room_is _ d m (by omega) (by omega) (by omega), show max 0 (d + m - (d + m - 1)) = 1 from by omega]
    go_wp2_with fail
    go_ret
    exact ⟨rfl, B1.out⟩
end Go.Proofs.Ytghbaoliokkfhaa
