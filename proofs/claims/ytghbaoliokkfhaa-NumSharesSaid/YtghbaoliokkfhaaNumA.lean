/-
  Package num: all but Share; and the document's own answers for them: what they answer, from any world.
-/
import Derived.Test.YtghbaoliokkfhaaRows
import Derived.WalkKit
import Derived.ProofKit
import Derived.OpenShut
import Derived.Below
import Derived.Outline
import Derived.Lib.Hide
import Derived.WalkLawsBesides
namespace Go.Proofs.Ytghbaoliokkfhaa
open Go.RowKit

/-- A number as a count, and as a percent. -/
def cut (n : Int) : Int := max 0 (min n 1048576)
def pc (n : Int) : Int := max 0 (min n 100)
theorem cut_bd (n : Int) : 0 ≤ cut n ∧ cut n ≤ 1048576 := by unfold cut; omega
theorem pc_bd (n : Int) : 0 ≤ pc n ∧ pc n ≤ 100 := by unfold pc; omega
theorem ret_int {k : IntKind} {a b : Int} (h : a = b) : Ending.returned (.int k a) = .returned (.int k b) := by rw [h]
theorem ret_bool {a b : Bool} (h : a = b) : Ending.returned (.bool a) = .returned (.bool b) := by rw [h]
theorem mul_bd {a b A B : Int} (ha : 0 ≤ a ∧ a ≤ A) (hb : 0 ≤ b ∧ b ≤ B) : 0 ≤ a * b ∧ a * b ≤ A * B :=
  ⟨Int.mul_nonneg ha.1 hb.1, Int.mul_le_mul ha.2 hb.2 hb.1 (by omega)⟩
/-- So many percent. -/
def pct (p n : Int) (up : Bool) : Int := (pc p * cut n + if up then 99 else 0) / 100
def req (d m : Int) : Int := max 0 (cut d - cut m)
def need (r d m : Int) : Int := max 0 (req d m - cut r)
def room (t d m : Int) : Int := max 0 (cut d + cut m - cut t)
def spare (r d m : Int) : Int := max 0 (cut r - req d m)
theorem req_bd (d m : Int) : 0 ≤ req d m ∧ req d m ≤ 1048576 := by have := cut_bd d; have := cut_bd m; unfold req; omega

theorem within_any (n lo hi : Int) (w : World) :
    Calls Try.prog 31 #[.int .i64 n, .int .i64 lo, .int .i64 hi] w fun e w' => e = .returned (.int .i64 (max lo (min n hi))) ∧ w = w' := by
  go_enter Try.func31, Try.ntmps31
  go_wp2_with fail
  all_goals (go_ret; exact ⟨ret_int (by omega), rfl⟩)
theorem cut_any (n : Int) (w : World) :
    Calls Try.prog 15 #[.int .i64 n] w fun e w' => e = .returned (.int .i64 (cut n)) ∧ w = w' := by
  go_enter Try.func15, Try.ntmps15
  go_wp2_with fail
  refine (within_any n 0 1048576 w).mono ?_
  rintro e w' ⟨rfl, rfl⟩
  go_wp2_with fail
  go_ret
  exact ⟨rfl, rfl⟩
theorem isCount_any (n : Int) (w : World) :
    Calls Try.prog 33 #[.int .i64 n] w fun e w' => e = .returned (.bool (n == cut n)) ∧ w = w' := by
  go_enter Try.func33, Try.ntmps33
  go_wp2_with fail
  refine (cut_any n w).mono ?_
  rintro e w' ⟨rfl, rfl⟩
  go_wp2_with fail
  go_ret
  exact ⟨rfl, rfl⟩
theorem required_any (d m : Int) (w : World) :
    Calls Try.prog 32 #[.int .i64 d, .int .i64 m] w fun e w' => e = .returned (.int .i64 (req d m)) ∧ w = w' := by
  obtain ⟨a1, a2⟩ := cut_bd d
  obtain ⟨b1, b2⟩ := cut_bd m
  go_enter Try.func32, Try.ntmps32
  go_wp2_with ((with_reducible refine (cut_any _ _).mono ?_); rintro e w' ⟨rfl, rfl⟩)
  all_goals (go_ret; exact ⟨ret_int (by unfold req; omega), rfl⟩)
theorem need_any (r d m : Int) (w : World) :
    Calls Try.prog 19 #[.int .i64 r, .int .i64 d, .int .i64 m] w fun e w' => e = .returned (.int .i64 (need r d m)) ∧ w = w' := by
  obtain ⟨a1, a2⟩ := cut_bd r
  obtain ⟨b1, b2⟩ := req_bd d m
  go_enter Try.func19, Try.ntmps19
  go_wp2_with (first | ((with_reducible refine (cut_any _ _).mono ?_); rintro e w' ⟨rfl, rfl⟩) | ((with_reducible refine (required_any _ _ _).mono ?_); rintro e w' ⟨rfl, rfl⟩))
  all_goals (go_ret; exact ⟨ret_int (by unfold need; omega), rfl⟩)
theorem spare_any (r d m : Int) (w : World) :
    Calls Try.prog 23 #[.int .i64 r, .int .i64 d, .int .i64 m] w fun e w' => e = .returned (.int .i64 (spare r d m)) ∧ w = w' := by
  obtain ⟨a1, a2⟩ := cut_bd r
  obtain ⟨b1, b2⟩ := req_bd d m
  go_enter Try.func23, Try.ntmps23
  go_wp2_with (first | ((with_reducible refine (cut_any _ _).mono ?_); rintro e w' ⟨rfl, rfl⟩) | ((with_reducible refine (required_any _ _ _).mono ?_); rintro e w' ⟨rfl, rfl⟩))
  all_goals (go_ret; exact ⟨ret_int (by unfold spare; omega), rfl⟩)
theorem room_any (t d m : Int) (w : World) :
    Calls Try.prog 21 #[.int .i64 t, .int .i64 d, .int .i64 m] w fun e w' => e = .returned (.int .i64 (room t d m)) ∧ w = w' := by
  obtain ⟨a1, a2⟩ := cut_bd t
  obtain ⟨b1, b2⟩ := cut_bd d
  obtain ⟨c1, c2⟩ := cut_bd m
  go_enter Try.func21, Try.ntmps21
  go_wp2_with ((with_reducible refine (cut_any _ _).mono ?_); rintro e w' ⟨rfl, rfl⟩)
  all_goals (go_ret; exact ⟨ret_int (by unfold room; omega), rfl⟩)
theorem percent_any (p n : Int) (up : Bool) (w : World) :
    Calls Try.prog 17 #[.int .i64 p, .int .i64 n, .bool up] w fun e w' => e = .returned (.int .i64 (pct p n up)) ∧ w = w' := by
  obtain ⟨c1, c2⟩ := mul_bd (pc_bd p) (cut_bd n)
  cases up
  all_goals
    go_enter Try.func17, Try.ntmps17
    go_wp2_with fail
    refine (within_any p 0 100 w).mono ?_
    rintro e w' ⟨rfl, rfl⟩
    rw [show max 0 (min p 100) = pc p from rfl]
    go_wp2_with ((with_reducible refine (cut_any _ _).mono ?_); rintro e w' ⟨rfl, rfl⟩)
    go_ret
    exact ⟨ret_int (by unfold pct; simp), rfl⟩

theorem refCut_any (n : Int) (w : World) :
    Calls Try.prog 16 #[.int .i64 n] w fun e w' => e = .returned (.int .i64 (cut n)) ∧ w = w' := by
  go_enter Try.func16, Try.ntmps16
  go_wp2_with fail
  all_goals (go_ret; exact ⟨ret_int (by unfold cut; omega), rfl⟩)
theorem refNeed_any (r d m : Int) (w : World) :
    Calls Try.prog 20 #[.int .i64 r, .int .i64 d, .int .i64 m] w fun e w' => e = .returned (.int .i64 (need r d m)) ∧ w = w' := by
  obtain ⟨a1, a2⟩ := cut_bd r
  obtain ⟨b1, b2⟩ := cut_bd d
  obtain ⟨c1, c2⟩ := cut_bd m
  go_enter Try.func20, Try.ntmps20
  go_wp2_with ((with_reducible refine (refCut_any _ _).mono ?_); rintro e w' ⟨rfl, rfl⟩)
  all_goals (go_ret; exact ⟨ret_int (by unfold need req; omega), rfl⟩)
theorem refSpare_any (r d m : Int) (w : World) :
    Calls Try.prog 24 #[.int .i64 r, .int .i64 d, .int .i64 m] w fun e w' => e = .returned (.int .i64 (spare r d m)) ∧ w = w' := by
  obtain ⟨a1, a2⟩ := cut_bd r
  obtain ⟨b1, b2⟩ := cut_bd d
  obtain ⟨c1, c2⟩ := cut_bd m
  go_enter Try.func24, Try.ntmps24
  go_wp2_with ((with_reducible refine (refCut_any _ _).mono ?_); rintro e w' ⟨rfl, rfl⟩)
  all_goals (go_ret; exact ⟨ret_int (by unfold spare req; omega), rfl⟩)
theorem refRoom_any (t d m : Int) (w : World) :
    Calls Try.prog 22 #[.int .i64 t, .int .i64 d, .int .i64 m] w fun e w' => e = .returned (.int .i64 (room t d m)) ∧ w = w' := by
  obtain ⟨a1, a2⟩ := cut_bd t
  obtain ⟨b1, b2⟩ := cut_bd d
  obtain ⟨c1, c2⟩ := cut_bd m
  go_enter Try.func22, Try.ntmps22
  go_wp2_with ((with_reducible refine (refCut_any _ _).mono ?_); rintro e w' ⟨rfl, rfl⟩)
  all_goals (go_ret; exact ⟨ret_int (by unfold room; omega), rfl⟩)
theorem refPercent_any (p n : Int) (up : Bool) (w : World) :
    Calls Try.prog 18 #[.int .i64 p, .int .i64 n, .bool up] w fun e w' => e = .returned (.int .i64 (pct p n up)) ∧ w = w' := by
  obtain ⟨b1, b2⟩ := cut_bd n
  have hp : p < 0 ∨ 100 < p ∨ 0 ≤ p ∧ p ≤ 100 := by omega
  rcases hp with h | h | ⟨h, h1⟩
  · have HP : Hid (pc p = 0) := by show pc p = 0; unfold pc; omega
    cases up
    all_goals
      go_enter Try.func18, Try.ntmps18
      go_wp2_with ((with_reducible refine (refCut_any _ _).mono ?_); rintro e w' ⟨rfl, rfl⟩)
      all_goals (go_ret; exact ⟨ret_int (by unfold pct; rw [HP.out]; simp), rfl⟩)
  · have HP : Hid (pc p = 100) := by show pc p = 100; unfold pc; omega
    cases up
    all_goals
      go_enter Try.func18, Try.ntmps18
      go_wp2_with ((with_reducible refine (refCut_any _ _).mono ?_); rintro e w' ⟨rfl, rfl⟩)
      all_goals (go_ret; exact ⟨ret_int (by unfold pct; rw [HP.out]; simp; try omega), rfl⟩)
  · have HP : Hid (pc p = p) := by show pc p = p; unfold pc; omega
    obtain ⟨c1, c2⟩ := mul_bd ⟨h, h1⟩ (cut_bd n)
    cases up
    all_goals
      go_enter Try.func18, Try.ntmps18
      go_wp2_with ((with_reducible refine (refCut_any _ _).mono ?_); rintro e w' ⟨rfl, rfl⟩)
      all_goals (go_ret; exact ⟨ret_int (by unfold pct; rw [HP.out]; generalize p * cut n = x at *; simp; try omega), rfl⟩)
end Go.Proofs.Ytghbaoliokkfhaa
