/-
  The walk of the statement NumSpares.
-/
import Derived.Test.YtghbaoliokkfhaaNumLives
namespace Go.Proofs.Ytghbaoliokkfhaa
open Go.RowKit

theorem cut_id (n : Int) (h : 0 ≤ n) (h1 : n ≤ 1048576) : cut n = n := by unfold cut; omega
theorem need_zero (r d m : Int) (h : req d m ≤ r) (h0 : 0 ≤ r) (h1 : r ≤ 1048576) : need r d m = 0 := by unfold need; rw [cut_id r h0 h1]; omega
theorem need_one (r d m : Int) (h : req d m = r + 1) (h0 : 0 ≤ r) (h1 : r ≤ 1048576) : need r d m = 1 := by unfold need; rw [cut_id r h0 h1]; omega
theorem need_is (r d m : Int) : need r d m = max 0 (req d m - cut r) := rfl
theorem spare_is (r d m : Int) : spare r d m = max 0 (cut r - req d m) := rfl

set_option maxHeartbeats 1600000 in
theorem spares_walk (r d m : Int) (w : World) :
    Calls Try.prog 7 #[.int .i64 r, .int .i64 d, .int .i64 m] w fun e w' => e = .returned (.bool true) ∧ Below w.heap.size w w' := by
  obtain ⟨c1, c2⟩ := cut_bd r
  obtain ⟨q1, q2⟩ := req_bd d m
  have HC := Lib.hid (fun W => cut_any r W)
  have HZ := Lib.hid (fun x => need_zero x d m)
  have HO := Lib.hid (fun x => need_one x d m)
  have EN := Lib.hid (need_is r d m)
  have ES := Lib.hid (spare_is r d m)
  generalize cut r = c at *
  generalize req d m = q at *
  have hx : (q < c ∧ q = 0) ∨ (q < c ∧ 0 < q) ∨ (q = c ∧ c = 0) ∨ (q = c ∧ 0 < c) ∨ c < q := by omega
  rcases hx with ⟨hx, hz⟩ | ⟨hx, hz⟩ | ⟨hx, hz⟩ | ⟨hx, hz⟩ | hx
  · subst hz
    have E1 : Hid (need r d m = 0) := by show _ = _; rw [EN.out]; omega
    have E2 : Hid (spare r d m = c) := by show _ = _; rw [ES.out]; omega
    go_enter Try.func7, Try.ntmps7
    go_wp2_with fail
    refine (lives_at _ (Below.refl _ _)).mono ?_
    rintro e w1 ⟨rfl, hb1⟩
    have B1 := Lib.hid hb1; clear hb1
    go_wp2_with fail
    refine (HC.out _).mono ?_
    rintro e w3 ⟨rfl, rfl⟩
    go_wp2_with fail
    refine (need_any r d m _).mono ?_
    rintro e w3 ⟨rfl, rfl⟩
    rw [E1.out]
    go_wp2_with fail
    refine (spare_any r d m _).mono ?_
    rintro e w3 ⟨rfl, rfl⟩
    rw [E2.out]
    go_wp2_with fail
    refine (need_any _ d m _).mono ?_
    rintro e w3 ⟨rfl, rfl⟩
    rw [HZ.out _ (by omega) (by omega) (by omega)]
    go_wp2_with fail
    go_ret
    exact ⟨rfl, B1.out⟩
  · have E1 : Hid (need r d m = 0) := by show _ = _; rw [EN.out]; omega
    have E2 : Hid (spare r d m = c - q) := by show _ = _; rw [ES.out]; omega
    have h1 : (c == c - q) = false := by rw [beq_eq_false_iff_ne]; omega
    have h2 : c - (c - q) = q := by omega
    go_enter Try.func7, Try.ntmps7
    go_wp2_with fail
    refine (lives_at _ (Below.refl _ _)).mono ?_
    rintro e w1 ⟨rfl, hb1⟩
    have B1 := Lib.hid hb1; clear hb1
    go_wp2_with fail
    refine (HC.out _).mono ?_
    rintro e w3 ⟨rfl, rfl⟩
    go_wp2_with fail
    refine (need_any r d m _).mono ?_
    rintro e w3 ⟨rfl, rfl⟩
    rw [E1.out]
    go_wp2_with fail
    refine (spare_any r d m _).mono ?_
    rintro e w3 ⟨rfl, rfl⟩
    rw [E2.out]
    go_wp2_with fail
    refine (need_any _ d m _).mono ?_
    rintro e w3 ⟨rfl, rfl⟩
    rw [HZ.out _ (by omega) (by omega) (by omega)]
    go_wp2_with fail
    refine (need_any _ d m _).mono ?_
    rintro e w3 ⟨rfl, rfl⟩
    rw [HO.out _ (by omega) (by omega) (by omega)]
    go_wp2_with fail
    go_ret
    exact ⟨rfl, B1.out⟩
  · subst hx
    subst hz
    have E1 : Hid (need r d m = 0) := by show _ = _; rw [EN.out]; omega
    have E2 : Hid (spare r d m = 0) := by show _ = _; rw [ES.out]; omega
    go_enter Try.func7, Try.ntmps7
    go_wp2_with fail
    refine (lives_at _ (Below.refl _ _)).mono ?_
    rintro e w1 ⟨rfl, hb1⟩
    have B1 := Lib.hid hb1; clear hb1
    go_wp2_with fail
    refine (HC.out _).mono ?_
    rintro e w3 ⟨rfl, rfl⟩
    go_wp2_with fail
    refine (need_any r d m _).mono ?_
    rintro e w3 ⟨rfl, rfl⟩
    rw [E1.out]
    go_wp2_with fail
    refine (spare_any r d m _).mono ?_
    rintro e w3 ⟨rfl, rfl⟩
    rw [E2.out]
    go_wp2_with fail
    refine (need_any _ d m _).mono ?_
    rintro e w3 ⟨rfl, rfl⟩
    rw [HZ.out _ (by omega) (by omega) (by omega)]
    go_wp2_with fail
    go_ret
    exact ⟨rfl, B1.out⟩
  · subst hx
    have E1 : Hid (need r d m = 0) := by show _ = _; rw [EN.out]; omega
    have E2 : Hid (spare r d m = 0) := by show _ = _; rw [ES.out]; omega
    have h1 : (q == 0) = false := by rw [beq_eq_false_iff_ne]; omega
    go_enter Try.func7, Try.ntmps7
    go_wp2_with fail
    refine (lives_at _ (Below.refl _ _)).mono ?_
    rintro e w1 ⟨rfl, hb1⟩
    have B1 := Lib.hid hb1; clear hb1
    go_wp2_with fail
    refine (HC.out _).mono ?_
    rintro e w3 ⟨rfl, rfl⟩
    go_wp2_with fail
    refine (need_any r d m _).mono ?_
    rintro e w3 ⟨rfl, rfl⟩
    rw [E1.out]
    go_wp2_with fail
    refine (spare_any r d m _).mono ?_
    rintro e w3 ⟨rfl, rfl⟩
    rw [E2.out]
    go_wp2_with fail
    refine (need_any _ d m _).mono ?_
    rintro e w3 ⟨rfl, rfl⟩
    rw [HZ.out _ (by omega) (by omega) (by omega)]
    go_wp2_with fail
    refine (need_any _ d m _).mono ?_
    rintro e w3 ⟨rfl, rfl⟩
    rw [HO.out _ (by omega) (by omega) (by omega)]
    go_wp2_with fail
    go_ret
    exact ⟨rfl, B1.out⟩
  · have E1 : Hid (need r d m = q - c) := by show _ = _; rw [EN.out]; omega
    have E2 : Hid (spare r d m = 0) := by show _ = _; rw [ES.out]; omega
    have h2 : c + (q - c) = q := by omega
    go_enter Try.func7, Try.ntmps7
    go_wp2_with fail
    refine (lives_at _ (Below.refl _ _)).mono ?_
    rintro e w1 ⟨rfl, hb1⟩
    have B1 := Lib.hid hb1; clear hb1
    go_wp2_with fail
    refine (HC.out _).mono ?_
    rintro e w3 ⟨rfl, rfl⟩
    go_wp2_with fail
    refine (need_any r d m _).mono ?_
    rintro e w3 ⟨rfl, rfl⟩
    rw [E1.out]
    go_wp2_with fail
    refine (spare_any r d m _).mono ?_
    rintro e w3 ⟨rfl, rfl⟩
    rw [E2.out]
    go_wp2_with fail
    refine (need_any _ d m _).mono ?_
    rintro e w3 ⟨rfl, rfl⟩
    rw [HZ.out _ (by omega) (by omega) (by omega)]
    go_wp2_with fail
    refine (need_any _ d m _).mono ?_
    rintro e w3 ⟨rfl, rfl⟩
    rw [HO.out _ (by omega) (by omega) (by omega)]
    go_wp2_with fail
    go_ret
    exact ⟨rfl, B1.out⟩
end Go.Proofs.Ytghbaoliokkfhaa
