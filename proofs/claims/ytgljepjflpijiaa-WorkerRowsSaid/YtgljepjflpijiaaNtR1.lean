/-
  The document's package of layer 14: which messages may be, a place, Good, New. No condition.
-/
import Derived.Test.YtgljepjflpijiaaNtMem
import Derived.Handy
import Derived.BigRegion
import Derived.Deep.Cut
import Derived.Deep.DeepCutAuto
import Derived.Deep.CutBlock
namespace Go.Proofs.Ytgljepjflpijiaa
open Go.RowKit
set_option linter.unusedSimpArgs false
set_option linter.unusedVariables false
set_option maxRecDepth 100000
set_option maxHeartbeats 1600000 in
theorem rtright_any (m : Nt.M) (w : World) : Calls Try.prog 44 #[Nt.val m] w (NPos w (.bool (Nt.right m))) := by
  have B1 := Lib.hid ((Below.refl w.heap.size w).alloc (Nat.le_refl _) (.cells (Nt.cs m) 38))
  have hmn := fun (W : World) ts t => run_min5 (P := Try.prog) W ts t m.e m.s m.u m.v m.t
  have E : Hid (Nt.right m = ((decide (m.k = 1) || decide (m.k = 2)) && decide (0 ≤ min (min (min (min m.e m.s) m.u) m.v) m.t))) := rfl
  rw [E.out]
  clear E
  obtain ⟨k, e, s, u, v, t⟩ := m
  simp only at *
  generalize min (min (min (min e s) u) v) t = z at *
  by_cases h1 : k = 1
  · subst h1
    go_enter Try.func44, Try.ntmps44
    go_wp2_with fail
    go_ret
    refine ⟨?_, B1.out⟩
    simp
  · have q1 : (k == 1) = false := by rw [beq_eq_false_iff_ne]; exact h1
    by_cases h2 : k = 2
    · subst h2
      go_enter Try.func44, Try.ntmps44
      go_wp2_with fail
      go_ret
      refine ⟨?_, B1.out⟩
      simp
    · have q2 : (k == 2) = false := by rw [beq_eq_false_iff_ne]; exact h2
      go_enter Try.func44, Try.ntmps44
      go_wp2_with fail
      go_ret
      refine ⟨?_, B1.out⟩
      simp [h1, h2]
theorem wrap_pl {n : Nat} (hn : 0 < n) (hn2 : n ≤ 100000) (x : Int) (h0 : 0 ≤ x) (h1 : x ≤ 9223372036854775807) : wrap64 (x.tmod (n : Int)) = ((x % (n : Int)).toNat : Int) := by
  rw [Int.tmod_eq_emod_of_nonneg h0]
  have h2 := Int.emod_nonneg x (b := (n : Int)) (by omega)
  have h3 := Int.emod_lt_of_pos x (b := (n : Int)) (by omega)
  rw [IntWalk.wrap64_in _ ⟨by omega, by omega⟩]
  omega
end Go.Proofs.Ytgljepjflpijiaa
