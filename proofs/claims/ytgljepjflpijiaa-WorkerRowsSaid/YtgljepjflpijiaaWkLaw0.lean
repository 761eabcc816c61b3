/-
  Layer 16's laws: what a step of both in a loop wants. Written by wip/tools/gen/wklaws.py. No condition.
-/
import Derived.Test.YtgljepjflpijiaaWkDoes
import Derived.Test.YtgljepjflpijiaaWkLives
import Derived.Test.YtgljepjflpijiaaWkLike
import Derived.Test.YtgljepjflpijiaaWkArg
namespace Go.Proofs.Ytgljepjflpijiaa
open Go.RowKit Go.Deep
set_option linter.unusedSimpArgs false
set_option linter.unusedVariables false
set_option maxRecDepth 100000

theorem WIn.row {L : WkP} (hC : WC L) {w0 W : World} {F : Nat → Prop} {q : Nat} {s : Wk.W} (h : WIn L w0 F q s W) {g : Nat} (hg : F g) (h0 : w0.heap.size ≤ g) (cs : Array Value) : WIn L w0 F q s (W.setRow g cs) := by
  obtain ⟨X, h1, h2, h3, h4⟩ := h
  have hz : (W.setRow g cs).heap.size = W.heap.size := by simp [World.setRow]
  exact ⟨X, hC.keep _ _ _ _ _ h1 (by omega) fun i hi => nt_rowOff (fun e => (h3 g hg).1 (by rw [e]; exact hi)) cs, h2, fun b hb => ⟨(h3 b hb).1, by rw [hz]; exact (h3 b hb).2⟩, below_row h4 (grown_row W g cs) h0⟩
/-- A step where it lies in a row. -/
theorem take_wst {op : Oper} {a : Act} {w : World} {b o : Nat} {s : WStep} (x : Operand) (ho : op.op = .load 40 x) (hx : a.eval x = .pointer (some ⟨b, o, none⟩)) (h : w.rangeAt b o (wstC s)) : (execOp a.eval op).run Try.prog w = .ok (.value (wsV s)) w := by
  have hz : (Try.prog.info? 40).map (·.size) = some (wstC s).length := by kernel_rfl
  have := run_loadVar_mid (P := Try.prog) w b o 40 (wstC s) _ h ws_fields rfl hz
  unfold execOp
  simp only [ho, hx, Instr.loadAt, Instr.sureAddr, Sem.run_bind, Sem.run_pure, Result.andThen_ok, this]
  rfl
theorem wst_range {w : World} {A : Option Addr} {n c : Nat} {ts : List WStep} (h : SlF wstC w A n c ts) {j : Nat} {t : WStep} (hq : ts[j]? = some t) : ∃ b o, A = some ⟨b, o, none⟩ ∧ b < w.heap.size ∧ w.rangeAt b (o + j * 8) (wstC t) := by
  obtain ⟨b, o, h1, h2, h3⟩ := h.at_ wstC_len hq
  exact ⟨b, o, h1, h2, fun i u hi => h3 i u hi⟩
theorem wst_on {w w' : World} {b o : Nat} {cs : List Value} (h : w.rangeAt b o cs) (hb : w'.heap[b]? = w.heap[b]?) : w'.rangeAt b o cs := fun j v hv => (World.cell?_of_block hb).trans (h j v hv)
theorem wpList_load_wkw {w : World} {ops : Array Oper} {rest : List Oper} {op : Oper} {a : Act} {Q : Exit → Act → World → Prop} {g : Nat} {s : Wk.W} (hgd : Region.wanted op (yielded ops a.tmps) = true) (x : Operand) (ho : op.op = .load 32 x) (hx : a.eval x = .pointer (some ⟨g, 0, none⟩)) (hg : WkAt w g s)
    (h : wpList Try.prog ops Q rest (a.put op.dst (.agg (Wk.cells s))) w) : wpList Try.prog ops Q (op :: rest) a w := by
  simp only [wpList, hgd, if_true]
  exact .inl (wp_load_row 32 x ho g hx 32 _ (0, 0) _ hg.row wk_fields rfl (wk_size s) h)
theorem wkcell {W : World} (s : Wk.W) : (W.alloc (.cells Wk.zeros 32)).setRow W.heap.size (Wk.cells s) = W.alloc (.cells (Wk.cells s) 32) := World.setRow_alloc_new _ _ _ _
end Go.Proofs.Ytgljepjflpijiaa
