/-
  The document's worker of layer 16 in memory: 67 cells; its fields and slots read and stored. Written by wip/tools/gen/wkmem.py. No condition.
-/
import Derived.Test.YtgljepjflpijiaaWkMath
import Derived.Test.YtgljepjflpijiaaSuMem
import Derived.Deep.WholeRow
import Derived.Deep.MidRow
namespace Go.Proofs.Ytgljepjflpijiaa
open Go.RowKit Go.Deep
set_option linter.unusedSimpArgs false

namespace Wk
def cells (s : W) : Array Value := #[.int .i64 s.n, .int .i64 s.many, .int .i64 s.seen, .int .i64 (s.l 0).st, .int .i64 (s.l 0).v, .int .i64 (s.l 0).wa, .int .i64 (s.l 0).sq, .int .i64 (s.l 1).st, .int .i64 (s.l 1).v, .int .i64 (s.l 1).wa, .int .i64 (s.l 1).sq, .int .i64 (s.l 2).st, .int .i64 (s.l 2).v, .int .i64 (s.l 2).wa, .int .i64 (s.l 2).sq, .int .i64 (s.l 3).st, .int .i64 (s.l 3).v, .int .i64 (s.l 3).wa, .int .i64 (s.l 3).sq, .int .i64 (s.l 4).st, .int .i64 (s.l 4).v, .int .i64 (s.l 4).wa, .int .i64 (s.l 4).sq, .int .i64 (s.l 5).st, .int .i64 (s.l 5).v, .int .i64 (s.l 5).wa, .int .i64 (s.l 5).sq, .int .i64 (s.l 6).st, .int .i64 (s.l 6).v, .int .i64 (s.l 6).wa, .int .i64 (s.l 6).sq, .int .i64 (s.l 7).st, .int .i64 (s.l 7).v, .int .i64 (s.l 7).wa, .int .i64 (s.l 7).sq, .int .i64 (s.l 8).st, .int .i64 (s.l 8).v, .int .i64 (s.l 8).wa, .int .i64 (s.l 8).sq, .int .i64 (s.l 9).st, .int .i64 (s.l 9).v, .int .i64 (s.l 9).wa, .int .i64 (s.l 9).sq, .int .i64 (s.l 10).st, .int .i64 (s.l 10).v, .int .i64 (s.l 10).wa, .int .i64 (s.l 10).sq, .int .i64 (s.l 11).st, .int .i64 (s.l 11).v, .int .i64 (s.l 11).wa, .int .i64 (s.l 11).sq, .int .i64 (s.l 12).st, .int .i64 (s.l 12).v, .int .i64 (s.l 12).wa, .int .i64 (s.l 12).sq, .int .i64 (s.l 13).st, .int .i64 (s.l 13).v, .int .i64 (s.l 13).wa, .int .i64 (s.l 13).sq, .int .i64 (s.l 14).st, .int .i64 (s.l 14).v, .int .i64 (s.l 14).wa, .int .i64 (s.l 14).sq, .int .i64 (s.l 15).st, .int .i64 (s.l 15).v, .int .i64 (s.l 15).wa, .int .i64 (s.l 15).sq]
def zeros : Array Value := #[.int .i64 0, .int .i64 0, .int .i64 0, .int .i64 0, .int .i64 0, .int .i64 0, .int .i64 0, .int .i64 0, .int .i64 0, .int .i64 0, .int .i64 0, .int .i64 0, .int .i64 0, .int .i64 0, .int .i64 0, .int .i64 0, .int .i64 0, .int .i64 0, .int .i64 0, .int .i64 0, .int .i64 0, .int .i64 0, .int .i64 0, .int .i64 0, .int .i64 0, .int .i64 0, .int .i64 0, .int .i64 0, .int .i64 0, .int .i64 0, .int .i64 0, .int .i64 0, .int .i64 0, .int .i64 0, .int .i64 0, .int .i64 0, .int .i64 0, .int .i64 0, .int .i64 0, .int .i64 0, .int .i64 0, .int .i64 0, .int .i64 0, .int .i64 0, .int .i64 0, .int .i64 0, .int .i64 0, .int .i64 0, .int .i64 0, .int .i64 0, .int .i64 0, .int .i64 0, .int .i64 0, .int .i64 0, .int .i64 0, .int .i64 0, .int .i64 0, .int .i64 0, .int .i64 0, .int .i64 0, .int .i64 0, .int .i64 0, .int .i64 0, .int .i64 0, .int .i64 0, .int .i64 0, .int .i64 0]
theorem zeros_eq : zeros = cells zero := rfl
end Wk
/-- Block g holds the worker. -/
structure WkAt (w : World) (g : Nat) (s : Wk.W) : Prop where
  row : w.heap[g]? = some (.cells (Wk.cells s) 32 (0, 0))
section
variable {w w' : World} {g : Nat} {s : Wk.W}
theorem WkAt.new (w : World) (s : Wk.W) : WkAt (w.alloc (.cells (Wk.cells s) 32)) w.heap.size s := ⟨heap_alloc_new w _⟩
theorem WkAt.zero (w : World) : WkAt (w.alloc (.cells Wk.zeros 32)) w.heap.size Wk.zero := ⟨heap_alloc_new w _⟩
theorem WkAt.on (h : WkAt w g s) (hb : Below w.heap.size w w') : WkAt w' g s := ⟨blk_on h.row hb⟩
theorem WkAt.keep (h : WkAt w g s) (hk : w'.heap[g]? = w.heap[g]?) : WkAt w' g s := ⟨hk.trans h.row⟩
theorem WkAt.cs (h : WkAt w g s) : w.cell? ⟨g, 0, none⟩ = some (.int .i64 s.n) ∧ w.cell? ⟨g, 1, none⟩ = some (.int .i64 s.many) ∧ w.cell? ⟨g, 2, none⟩ = some (.int .i64 s.seen) ∧ g < w.heap.size :=
  ⟨by rw [cell_of_row w g 0 _ _ _ h.row]; rfl, by rw [cell_of_row w g 1 _ _ _ h.row]; rfl, by rw [cell_of_row w g 2 _ _ _ h.row]; rfl, (Array.getElem?_eq_some_iff.1 h.row).1⟩
theorem WkAt.slot (h : WkAt w g s) {j : Nat} (hj : j < 16) : w.cell? ⟨g, 3 + j * 4, none⟩ = some (.int .i64 (s.l j).st) ∧ w.cell? ⟨g, 3 + j * 4 + 1, none⟩ = some (.int .i64 (s.l j).v) ∧ w.cell? ⟨g, 3 + j * 4 + 2, none⟩ = some (.int .i64 (s.l j).wa) ∧ w.cell? ⟨g, 3 + j * 4 + 3, none⟩ = some (.int .i64 (s.l j).sq) := by
  rw [cell_of_row w g _ _ _ _ h.row, cell_of_row w g _ _ _ _ h.row, cell_of_row w g _ _ _ _ h.row, cell_of_row w g _ _ _ _ h.row]
  rcases j with _ | _ | _ | _ | _ | _ | _ | _ | _ | _ | _ | _ | _ | _ | _ | _ | j
  all_goals first | exact ⟨rfl, rfl, rfl, rfl⟩ | omega
theorem WkAt.fz (h : WkAt w g s) (i : Nat) : w.frozen? ⟨g, i, none⟩ = false := frozen_of_row _ _ _ _ _ h.row
theorem WkAt.set (h : WkAt w g s) (k : Nat) (v : Value) {s' : Wk.W} (he : (Wk.cells s).setIfInBounds k v = Wk.cells s') : WkAt (w.setCell ⟨g, k, none⟩ v) g s' := ⟨by rw [← he]; exact heap_setCell_same w g k _ _ _ h.row⟩
theorem WkAt.seen (h : WkAt w g s) (x : Int) : WkAt (w.setCell ⟨g, 2, none⟩ (.int .i64 x)) g ⟨s.n, s.many, x, s.l⟩ := h.set 2 _ rfl
theorem WkAt.p0 (h : WkAt w g s) {j : Nat} (hj : j < 16) (x : Int) : WkAt (w.setCell ⟨g, 3 + j * 4, none⟩ (.int .i64 x)) g ⟨s.n, s.many, s.seen, Wk.setL s.l j ⟨x, (s.l j).v, (s.l j).wa, (s.l j).sq⟩⟩ := by
  refine h.set _ _ ?_
  rcases j with _ | _ | _ | _ | _ | _ | _ | _ | _ | _ | _ | _ | _ | _ | _ | _ | j
  all_goals first | rfl | omega
theorem WkAt.p1 (h : WkAt w g s) {j : Nat} (hj : j < 16) (x : Int) : WkAt (w.setCell ⟨g, 3 + j * 4 + 1, none⟩ (.int .i64 x)) g ⟨s.n, s.many, s.seen, Wk.setL s.l j ⟨(s.l j).st, x, (s.l j).wa, (s.l j).sq⟩⟩ := by
  refine h.set _ _ ?_
  rcases j with _ | _ | _ | _ | _ | _ | _ | _ | _ | _ | _ | _ | _ | _ | _ | _ | j
  all_goals first | rfl | omega
theorem WkAt.p2 (h : WkAt w g s) {j : Nat} (hj : j < 16) (x : Int) : WkAt (w.setCell ⟨g, 3 + j * 4 + 2, none⟩ (.int .i64 x)) g ⟨s.n, s.many, s.seen, Wk.setL s.l j ⟨(s.l j).st, (s.l j).v, x, (s.l j).sq⟩⟩ := by
  refine h.set _ _ ?_
  rcases j with _ | _ | _ | _ | _ | _ | _ | _ | _ | _ | _ | _ | _ | _ | _ | _ | j
  all_goals first | rfl | omega
theorem WkAt.p3 (h : WkAt w g s) {j : Nat} (hj : j < 16) (x : Int) : WkAt (w.setCell ⟨g, 3 + j * 4 + 3, none⟩ (.int .i64 x)) g ⟨s.n, s.many, s.seen, Wk.setL s.l j ⟨(s.l j).st, (s.l j).v, (s.l j).wa, x⟩⟩ := by
  refine h.set _ _ ?_
  rcases j with _ | _ | _ | _ | _ | _ | _ | _ | _ | _ | _ | _ | _ | _ | _ | _ | j
  all_goals first | rfl | omega
theorem Wk.setL2 (l : Nat → Su.S) (j : Nat) (x y : Su.S) : Wk.setL (Wk.setL l j x) j y = Wk.setL l j y := by
  funext i
  unfold Wk.setL
  split <;> rfl
/-- A whole slot stored. -/
theorem WkAt.put (h : WkAt w g s) {j : Nat} (hj : j < 16) (x : Su.S) : WkAt ((((w.setCell ⟨g, 3 + j * 4, none⟩ (.int .i64 x.st)).setCell ⟨g, 3 + j * 4 + 1, none⟩ (.int .i64 x.v)).setCell ⟨g, 3 + j * 4 + 2, none⟩ (.int .i64 x.wa)).setCell ⟨g, 3 + j * 4 + 3, none⟩ (.int .i64 x.sq)) g ⟨s.n, s.many, s.seen, Wk.setL s.l j x⟩ := by
  have h4 := (((h.p0 hj x.st).p1 hj x.v).p2 hj x.wa).p3 hj x.sq
  simp only [Wk.setL2, Wk.setL_at] at h4
  exact h4
end
theorem wk_fields : Try.prog.underlying 32 = some (.struct (Try.prog.fieldsOf 32)) := by kernel_rfl
theorem wk_size (s : Wk.W) : (Try.prog.info? 32).map (·.size) = some (Wk.cells s).size := by kernel_rfl
theorem wk_zero : ∀ w, (zeroValue 32).run Try.prog w = .ok (.agg Wk.zeros) w := (zero_of_info (n := 67) (by kernel_rfl)).1
theorem wk_one (s : Wk.W) : (Wk.cells s).all (·.oneCell') = true := by simp [Wk.cells, Value.oneCell']
section
variable {w : World} {ops : Array Oper} {rest : List Oper} {op : Oper} {a : Act} {Q : Exit → Act → World → Prop} {g : Nat} {s s2 : Wk.W}
theorem wpList_load_wk (hgd : op.guard = none) (x : Operand) (ho : op.op = .load 32 x) (hx : a.eval x = .pointer (some ⟨g, 0, none⟩)) (hg : WkAt w g s)
    (h : wpList Try.prog ops Q rest (a.put op.dst (.agg (Wk.cells s))) w) : wpList Try.prog ops Q (op :: rest) a w :=
  wpList_load_row hgd 32 x ho g hx 32 _ (0, 0) _ hg.row wk_fields rfl (wk_size s) h
theorem wpList_store_wk (hgd : op.guard = none) (x y : Operand) (ho : op.op = .store 32 x y) (hx : a.eval x = .pointer (some ⟨g, 0, none⟩)) (hy : a.eval y = .agg (Wk.cells s2)) (hg : WkAt w g s)
    (h : wpList Try.prog ops Q rest (a.put op.dst undef) (w.setRow g (Wk.cells s2))) : wpList Try.prog ops Q (op :: rest) a w :=
  wpList_plain hgd fun _ hK => wp_store_row 32 x y ho g (Wk.cells s2) hx hy 32 _ hg.row (wk_size s2) rfl (wk_one s2) (hK _ _ h)
theorem WkAt.setRow (h : WkAt w g s) (s2 : Wk.W) : WkAt (w.setRow g (Wk.cells s2)) g s2 := ⟨setRow_heap w g _ _ _ _ h.row⟩
theorem take_wk {W : World} (x : Operand) (ho : op.op = .load 32 x) (hx : a.eval x = .pointer (some ⟨g, 0, none⟩)) (h : WkAt W g s) : (execOp a.eval op).run Try.prog W = .ok (.value (.agg (Wk.cells s))) W := by
  unfold execOp
  simp only [ho, hx, Instr.loadAt, Instr.sureAddr, Sem.run_bind, Sem.run_pure, Result.andThen_ok, run_loadVar_row (P := Try.prog) W g 32 32 (Wk.cells s) (0, 0) _ h.row wk_fields rfl (wk_size s)]
theorem wk_results {fn : Func} {p : Tmp} (h : fn.results = #[.cell p 32]) (tmps : Array Value) (hp : tmps.getD p undef = .pointer (some ⟨g, 0, none⟩)) (hg : WkAt w g s) :
    (results fn tmps).run Try.prog w = .ok (.agg (Wk.cells s)) w :=
  results_cell_row h tmps w g 32 _ (0, 0) _ hp hg.row wk_fields rfl (wk_size s)
theorem wk_results2 {fn : Func} {p u : Tmp} (h : fn.results = #[.cell p 32, .tmp u]) (tmps : Array Value) (hp : tmps.getD p undef = .pointer (some ⟨g, 0, none⟩)) (hg : WkAt w g s) :
    (results fn tmps).run Try.prog w = .ok (.tuple #[.agg (Wk.cells s), tmps.getD u undef]) w := by
  rw [results_cell_tmp h, hp]
  have := run_loadVar_row (P := Try.prog) w g 32 32 (Wk.cells s) (0, 0) _ hg.row wk_fields rfl (wk_size s)
  simp [asAddr, this, Result.andThen]
end
/-- What a call answers that answers a worker, and something. -/
def WkPost (W : World) (s : Wk.W) (x : Value) (e : Ending) (w' : World) : Prop := e = .returned (.tuple #[.agg (Wk.cells s), x]) ∧ Below W.heap.size W w'
end Go.Proofs.Ytgljepjflpijiaa
