/-
  The developers' package spec: a spec's numbers as pointers, in their row.
-/
import Derived.Test.YtifokcpkamdkeaaDoorSpRef1
import Derived.Test.YtifokcpkamdkeaaDoorSpRef3
import Derived.BigRegion
namespace Go.Proofs.YtifokcpkamdkeaaDoor
open Go.RowKit

/-- The 12 pointers to the numbers in block g. -/
def ptrs (g : Nat) : Array Value := #[.pointer (some ⟨g, 0, none⟩), .pointer (some ⟨g, 1, none⟩), .pointer (some ⟨g, 2, none⟩), .pointer (some ⟨g, 3, none⟩), .pointer (some ⟨g, 4, none⟩), .pointer (some ⟨g, 5, none⟩), .pointer (some ⟨g, 6, none⟩), .pointer (some ⟨g, 7, none⟩), .pointer (some ⟨g, 8, none⟩), .pointer (some ⟨g, 9, none⟩), .pointer (some ⟨g, 10, none⟩), .pointer (some ⟨g, 11, none⟩)]
set_option maxRecDepth 100000 in
set_option maxHeartbeats 1600000 in
theorem numbers_any (g : Nat) (w : World) : Calls Tryd.prog 41 #[.pointer (some ⟨g, 0, none⟩)] w fun e w' => e = .returned (.agg (ptrs g)) ∧ Below w.heap.size w w' := by
  go_enter Tryd.func41, Tryd.ntmps41
  go_wp2_with fail
  go_region
  go_wp2_with fail
  exact bodyPost_ret (v := .agg (ptrs g)) (by simp [results, Tryd.results41, ptrs, go_sem]) rfl ⟨rfl, ((Below.refl w.heap.size w).alloc (Nat.le_refl _) _).drew⟩
theorem ptrs_at (g j : Nat) (hj : j < 12) : (ptrs g)[j]? = some (.pointer (some ⟨g, j, none⟩)) := by
  rcases j with _ | _ | _ | _ | _ | _ | _ | _ | _ | _ | _ | _ | j <;> first | rfl | omega
theorem arr_ptr : Tryd.prog.underlying 67 = some (.array 12 37) := by kernel_rfl
/-- The pointer at place j, taken out of the row. -/
theorem ptrs_run (g j : Nat) (hj : j < 12) (W : World) : (Instr.index 67 (.agg (ptrs g)) (.int .i64 (j : Nat))).run Tryd.prog W = .ok (.pointer (some ⟨g, j, none⟩)) W := by
  have h1 : (0 : Int) ≤ (j : Nat) ∧ ((j : Nat) : Int) < ((12 : Nat) : Int) := by omega
  have hp := ptrs_at g j hj
  simp [Instr.index, run_underlying arr_ptr, asIntOf, part, isAgg, run_underlying Tryd.underlying37, h1, hp, go_sem]
  intro h; omega
theorem ptrs_size (g : Nat) : (ptrs g).size = 12 := rfl
/-- The number behind the pointer j. -/
theorem sp_at {w : World} {g : Nat} {s : Spc.Sp} (h : SpAt w g s) {j : Nat} (hj : j < 12) : w.cell? ⟨g, j, none⟩ = some (.int .i64 ((Spc.flds s).getD j 0)) := by
  rcases j with _ | _ | _ | _ | _ | _ | _ | _ | _ | _ | _ | _ | j
  · exact h.f0
  · exact h.f1
  · exact h.f2
  · exact h.f3
  · exact h.f4
  · exact h.f5
  · exact h.f6
  · exact h.f7
  · exact h.f8
  · exact h.f9
  · exact h.f10
  · exact h.f11
  · omega
end Go.Proofs.YtifokcpkamdkeaaDoor
