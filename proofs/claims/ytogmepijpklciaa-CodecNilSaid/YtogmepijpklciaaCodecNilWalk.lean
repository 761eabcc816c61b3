/-
  The walk of the statement CodecNil.
-/
import Derived.Test.YtogmepijpklciaaCdcLives
namespace Go.Proofs.Ytogmepijpklciaa
open Go.RowKit Cdc

theorem sz_test (n : Int) : (0 : Int) < (sz n : Nat) ↔ (0 ≤ n ∧ n ≤ 4611686018427387903) := by
  unfold sz
  split
  · have := digs_pos n.toNat; omega
  · omega
set_option maxRecDepth 100000 in
set_option maxHeartbeats 1600000 in
theorem nil_walk (n : Int) (w : World) :
    Calls Try.prog 8 #[.int .i64 n] w fun e w' => e = .returned (.bool true) ∧ Below w.heap.size w w' := by
  have HT := Lib.hid (sz_test n)
  have HE : Hid (txt [] = ⟨#[]⟩) := rfl
  go_enter Try.func8, Try.ntmps8
  go_wp2_with fail
  refine (lives_at _ (Below.refl _ _)).mono ?_
  rintro e w1 ⟨rfl, hb1⟩
  have B1 := Lib.hid hb1; clear hb1
  go_wp2_with fail
  refine (numb_nil _).mono ?_
  rintro e w2 ⟨rfl, rfl⟩
  go_wp2_with fail
  refine (text_nil _).mono ?_
  rintro e w2 ⟨rfl, rfl⟩
  rw [HE.out]
  go_wp2_with fail
  refine (list_nil _).mono ?_
  rintro e w2 ⟨rfl, hb2⟩
  have B2 := Lib.hid (B1.out.trans (hb2.mono B1.out.size)); clear hb2 B1
  go_wp2_with fail
  refine (err_nil _).mono ?_
  rintro e w3 ⟨rfl, rfl⟩
  go_wp2_with fail
  refine (left_nil _).mono ?_
  rintro e w3 ⟨rfl, rfl⟩
  go_wp2_with fail
  refine (end_nil _).mono ?_
  rintro e w3 ⟨rfl, rfl⟩
  go_wp2_with fail
  refine (size_any n _).mono ?_
  rintro e w3 ⟨rfl, rfl⟩
  generalize sz n = z at *
  by_cases h1 : 0 ≤ n
  · by_cases h2 : n ≤ 4611686018427387903
    · have h3 : (0 : Int) < (z : Nat) := HT.out.2 ⟨h1, h2⟩
      have h4 : 0 < z := by omega
      go_wp2_with fail
      go_ret
      exact ⟨rfl, B2.out⟩
    · have h3 : ¬ (0 : Int) < (z : Nat) := fun h => h2 (HT.out.1 h).2
      have h4 : z = 0 := by omega
      subst h4
      go_wp2_with fail
      go_ret
      exact ⟨ret_bool (by rw [decide_eq_false (by omega)]; rfl), B2.out⟩
  · have h3 : ¬ (0 : Int) < (z : Nat) := fun h => h1 (HT.out.1 h).1
    have h4 : z = 0 := by omega
    subst h4
    go_wp2_with fail
    go_ret
    exact ⟨rfl, B2.out⟩
end Go.Proofs.Ytogmepijpklciaa
