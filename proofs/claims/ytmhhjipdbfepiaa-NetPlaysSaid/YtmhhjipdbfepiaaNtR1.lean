/-
  The document's package of layer 14: which messages may be, a place, Good, New. No condition.
-/
import Derived.Test.YtmhhjipdbfepiaaNtMem
import Derived.Handy
import Derived.BigRegion
import Derived.Deep.Cut
import Derived.Deep.DeepCutAuto
import Derived.Deep.CutBlock
namespace Go.Proofs.Ytmhhjipdbfepiaa
open Go.RowKit
set_option linter.unusedSimpArgs false
set_option linter.unusedVariables false
set_option maxRecDepth 100000

set_option maxHeartbeats 1600000 in
theorem rtright_any (m : Nt.M) (w : World) : Calls Try.prog 31 #[Nt.val m] w (NPos w (.bool (Nt.right m))) := by
  have B1 := Lib.hid ((Below.refl w.heap.size w).alloc (Nat.le_refl _) (.cells (Nt.cs m) 32))
  have hmn := fun (W : World) ts t => run_min5 (P := Try.prog) W ts t m.e m.s m.u m.v m.t
  have E : Hid (Nt.right m = ((decide (m.k = 1) || decide (m.k = 2)) && decide (0 ≤ min (min (min (min m.e m.s) m.u) m.v) m.t))) := rfl
  rw [E.out]
  clear E
  obtain ⟨k, e, s, u, v, t⟩ := m
  simp only at *
  generalize min (min (min (min e s) u) v) t = z at *
  by_cases h1 : k = 1
  · subst h1
    go_enter Try.func31, Try.ntmps31
    go_wp2_with fail
    go_ret
    refine ⟨?_, B1.out⟩
    simp
  · have q1 : (k == 1) = false := by rw [beq_eq_false_iff_ne]; exact h1
    by_cases h2 : k = 2
    · subst h2
      go_enter Try.func31, Try.ntmps31
      go_wp2_with fail
      go_ret
      refine ⟨?_, B1.out⟩
      simp
    · have q2 : (k == 2) = false := by rw [beq_eq_false_iff_ne]; exact h2
      go_enter Try.func31, Try.ntmps31
      go_wp2_with fail
      go_ret
      refine ⟨?_, B1.out⟩
      simp [h1, h2]
theorem wrap_pl {n : Nat} (hn : 0 < n) (hn2 : n ≤ 100000) (x : Int) (h0 : 0 ≤ x) (h1 : x ≤ 9223372036854775807) : wrap64 (x.tmod (n : Int)) = ((x % (n : Int)).toNat : Int) := by
  rw [Int.tmod_eq_emod_of_nonneg h0]
  have h2 := Int.emod_nonneg x (b := (n : Int)) (by omega)
  have h3 := Int.emod_lt_of_pos x (b := (n : Int)) (by omega)
  rw [IntWalk.wrap64_in _ ⟨by omega, by omega⟩]
  omega
set_option maxHeartbeats 1600000 in
theorem rtplace_no (rm : Int) (A : Option Addr) (c : Nat) (se lo at_ : Int) (w : World) : Calls Try.prog 35 #[nrV rm (.slice A 0 c) se lo, .int .i64 at_] w (NPos w (.int .i64 (-1))) := by
  have B1 := Lib.hid ((Below.refl w.heap.size w).alloc (Nat.le_refl _) (.cells #[.int .i64 rm, .slice A 0 c, .int .i64 se, .int .i64 lo] 28))
  go_enter Try.func35, Try.ntmps35
  go_wp2_with fail
  go_ret
  exact ⟨rfl, B1.out⟩
set_option maxHeartbeats 1600000 in
theorem rtplace_yes (rm : Int) (A : Option Addr) (n c : Nat) (se lo at_ : Int) (hn : 0 < n) (hn2 : n ≤ 100000) (ha : Nt.i64 at_) (w : World) : Calls Try.prog 35 #[nrV rm (.slice A n c) se lo, .int .i64 at_] w (NPos w (.int .i64 (Nt.pl n at_ : Nat))) := by
  have B1 := Lib.hid ((Below.refl w.heap.size w).alloc (Nat.le_refl _) (.cells #[.int .i64 rm, .slice A n c, .int .i64 se, .int .i64 lo] 28))
  have q0 : ((n : Int) == 0) = false := by rw [beq_eq_false_iff_ne]; omega
  have hnz : ¬ ((n : Int) = 0) := by omega
  obtain ⟨a1, a2⟩ := ha
  by_cases hneg : at_ < 0
  · have hw1 : wrap64 (at_ + 1) = at_ + 1 := IntWalk.wrap64_in _ ⟨by omega, by omega⟩
    have hw2 : wrap64 (-(at_ + 1)) = -(at_ + 1) := IntWalk.wrap64_in _ ⟨by omega, by omega⟩
    have E : Hid (Nt.pl n at_ = ((-(at_ + 1)) % (n : Int)).toNat) := by show _ = _; unfold Nt.pl; rw [if_pos hneg]
    have hw3 : -((at_ + 1).tmod (n : Int)) = (((-(at_ + 1)) % (n : Int)).toNat : Nat) := by
      rw [← Int.neg_tmod, Int.tmod_eq_emod_of_nonneg (by omega)]
      have := Int.emod_nonneg (-(at_ + 1)) (b := (n : Int)) (by omega)
      omega
    rw [E.out]
    clear E
    have HW3 := Lib.hid hw3
    clear hw3
    generalize ((-(at_ + 1)) % (n : Int)).toNat = p at *
    go_enter Try.func35, Try.ntmps35
    go_wp2_with fail
    go_ret
    exact ⟨ret_int HW3.out, B1.out⟩
  · have E : Hid (Nt.pl n at_ = (at_ % (n : Int)).toNat) := by show _ = _; unfold Nt.pl; rw [if_neg hneg]
    have hw3 : at_ % (n : Int) = ((at_ % (n : Int)).toNat : Nat) := by
      have := Int.emod_nonneg at_ (b := (n : Int)) (by omega)
      omega
    have HW3 := Lib.hid hw3
    clear hw3
    rw [E.out]
    clear E
    generalize (at_ % (n : Int)).toNat = p at *
    go_enter Try.func35, Try.ntmps35
    go_wp2_with fail
    go_ret
    exact ⟨ret_int HW3.out, B1.out⟩
set_option maxHeartbeats 1600000 in
theorem rtnew_any (room : Int) (w : World) : Calls Try.prog 11 #[.int .i64 room] w (NPos w (nrV ((Nt.new room).room : Nat) (.slice none 0 0) 0 0)) := by
  have E : Hid (((Nt.new room).room : Int) = min (max room 1) 64) := by show ((max 1 (min room 64)).toNat : Int) = _; omega
  rw [E.out]
  clear E
  generalize hr : min (max room 1) 64 = rm
  have B1 := Lib.hid ((Below.refl w.heap.size w).alloc (Nat.le_refl _) (.cells #[.int .i64 rm, .slice none 0 0, .int .i64 0, .int .i64 0] 28))
  have X := Lib.hid (NrAt.new w rm (.slice none 0 0) 0 0)
  go_enter Try.func11, Try.ntmps11
  go_wp2_with fail
  exact bodyPost_ret (nr_results Try.results11 _ rfl X.out) rfl ⟨rfl, B1.out⟩
end Go.Proofs.Ytmhhjipdbfepiaa
