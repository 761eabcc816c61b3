/-
  The document's worker (layer 16): New; Turn of a unit that isn't its own; Fall. No condition but that its numbers may be.
-/
import Derived.Test.YtgljepjflpijiaaWkRef3
namespace Go.Proofs.Ytgljepjflpijiaa
open Go.RowKit Go.Deep
set_option linter.unusedSimpArgs false
set_option linter.unusedVariables false
set_option maxRecDepth 100000

theorem wpList_built {P : Program} {ops : Array Oper} {rest : List Oper} {o : Oper} {a : Act} {w : World} {Q : Exit → Act → World → Prop} (hg : o.guard = none) (t : TypeId) (parts : Array (Nat × Operand)) (ho : o.op = .build t parts) (cells : Array Value)
    (hf : P.built t (parts.map fun (i, x) => (i, a.eval x)).toList = some cells) (h : wpList P ops Q rest (a.put o.dst (.agg cells)) w) : wpList P ops Q (o :: rest) a w :=
  wpList_plain hg fun _ hK => by
    unfold Oper.wp execOp
    simp only [ho, Sem.run_bind, run_build w t _ cells hf, Result.andThen_ok]
    exact hK _ _ h
set_option maxHeartbeats 3200000 in
theorem rwnew_any (n many : Int) (W : World) : Calls Try.prog 11 #[.int .i64 n, .int .i64 many] W (WkPost W (if Wk.mayNew n many then Wk.new n many else Wk.zero) (.int .i64 (if Wk.mayNew n many then 0 else 1))) := by
  have hz := wk_zero
  have R0 := WkAt.zero W
  have B0 := (Below.refl W.heap.size W).alloc (Nat.le_refl _) (.cells Wk.zeros 32)
  obtain ⟨g, hg⟩ : ∃ g, g = W.heap.size := ⟨_, rfl⟩
  rw [← hg] at R0
  have HG := Lib.hid hg
  have G : Hid (W.heap.size ≤ g) := Nat.le_of_eq hg.symm
  obtain ⟨W1, hW⟩ : ∃ W1, W1 = W.alloc (.cells Wk.zeros 32) := ⟨_, rfl⟩
  rw [← hW] at R0 B0
  have HW := Lib.hid hW
  have R := Lib.hid R0
  have B := Lib.hid B0
  clear hg hW R0 B0
  by_cases hm : Wk.mayNew n many
  · rw [if_pos hm, if_pos hm]
    unfold Wk.mayNew at hm
    obtain ⟨h1, h2, h3, h4⟩ := hm
    have q1 : ¬ many < 1 := by omega
    have q2 : ¬ 16 < many := by omega
    have q3 : ¬ n < 0 := by omega
    have q4 : ¬ many ≤ n := by omega
    go_enter Try.func11, Try.ntmps11
    go_upto_region 1 with fail
    rw [← HW.out, ← HG.out]
    go_wp2_with (first
      | ((with_reducible show wpList _ _ _ ({ dst := some 24, op := .build _ _, type := _, pos := _, after := _, guard := _ } :: _) _ _); refine wpList_built rfl 32 _ rfl (Wk.cells (Wk.new n many)) (by kernel_rfl) ?_)
      | ((with_reducible show wpList _ _ _ ({ dst := none, op := .store _ _ _, type := _, pos := _, after := _, guard := _ } :: _) _ _); refine wpList_store_wk (s2 := Wk.new n many) rfl (.tmp 4) (.tmp 24) rfl rfl rfl R.out ?_))
    exact bodyPost_ret (v := .tuple #[.agg (Wk.cells (Wk.new n many)), .int .i64 0]) (wk_results2 Try.results11 _ rfl (R.out.setRow (Wk.new n many))) rfl ⟨rfl, below_row B.out (grown_row _ _ _) (by have := G.out; omega)⟩
  · rw [if_neg hm, if_neg hm]
    have hc : many < 1 ∨ (¬ many < 1 ∧ 16 < many) ∨ (¬ many < 1 ∧ ¬ 16 < many ∧ n < 0) ∨ (¬ many < 1 ∧ ¬ 16 < many ∧ ¬ n < 0 ∧ many ≤ n) := by unfold Wk.mayNew at hm; omega
    clear hm
    rcases hc with q1 | ⟨q1, q2⟩ | ⟨q1, q2, q3⟩ | ⟨q1, q2, q3, q4⟩
    all_goals
      go_enter Try.func11, Try.ntmps11
      go_upto_region 1 with fail
      rw [← HW.out, ← HG.out]
      go_wp2_with (first
        | ((with_reducible show wpList _ _ _ ({ dst := some 21, op := .build _ _, type := _, pos := _, after := _, guard := _ } :: _) _ _); refine wpList_built rfl 32 _ rfl (Wk.cells (Wk.zero)) (by kernel_rfl) ?_)
        | ((with_reducible show wpList _ _ _ ({ dst := none, op := .store _ _ _, type := _, pos := _, after := _, guard := _ } :: _) _ _); refine wpList_store_wk (s2 := Wk.zero) rfl (.tmp 4) (.tmp 21) rfl rfl rfl R.out ?_))
      exact bodyPost_ret (v := .tuple #[.agg (Wk.cells (Wk.zero)), .int .i64 1]) (wk_results2 Try.results11 _ rfl (R.out.setRow (Wk.zero))) rfl ⟨rfl, below_row B.out (grown_row _ _ _) (by have := G.out; omega)⟩
end Go.Proofs.Ytgljepjflpijiaa
