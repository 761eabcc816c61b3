/-
  Layer 14 in memory: messages, rows of them; the document's net by value. No condition.
-/
import Derived.Test.YtgljepjflpijiaaRows
import Derived.Test.YtgljepjflpijiaaNtMath
import Derived.WalkKit
import Derived.ProofKit
import Derived.OpenShut
import Derived.Below
import Derived.Outline
import Derived.WalkLawsBesides
import Derived.KernelRfl
import Derived.Test.YtgljepjflpijiaaRowsE
import Derived.Test.YtgljepjflpijiaaEqF
import Derived.Test.YtgljepjflpijiaaAggOpen
import Derived.Test.YtgljepjflpijiaaRegion
import Derived.Deep.WholeRow
import Derived.Deep.MidRow
import Derived.Laws.CopyOwn
import Derived.Laws.ResultCell
import Derived.Great.BuildSlice
import Derived.Lib.MinMax
import Derived.Lib.Hide
namespace Go.Proofs.Ytgljepjflpijiaa
open Go.RowKit
set_option linter.unusedSimpArgs false
set_option linter.unusedVariables false
namespace Nt
abbrev cs (m : M) : Array Value := #[.int .i64 m.k, .int .i64 m.e, .int .i64 m.s, .int .i64 m.u, .int .i64 m.v, .int .i64 m.t]
abbrev val (m : M) : Value := .agg (cs m)
def mC (m : M) : List Value := [.int .i64 m.k, .int .i64 m.e, .int .i64 m.s, .int .i64 m.u, .int .i64 m.v, .int .i64 m.t]
theorem mC_len (m : M) : (mC m).length = 6 := rfl
theorem mC_one (m : M) : ∀ u ∈ mC m, u.oneCell' = true := by intro u hu; simp [mC] at hu; rcases hu with rfl | rfl | rfl | rfl | rfl | rfl <;> rfl
end Nt
structure NtAt (w : World) (g : Nat) (m : Nt.M) : Prop where
  row : w.heap[g]? = some (.cells (Nt.cs m) 38 (0, 0))
structure NtCs (w : World) (g : Nat) (m : Nt.M) : Prop where
  c0 : w.cell? ⟨g, 0, none⟩ = some (.int .i64 m.k)
  c1 : w.cell? ⟨g, 1, none⟩ = some (.int .i64 m.e)
  c2 : w.cell? ⟨g, 2, none⟩ = some (.int .i64 m.s)
  c3 : w.cell? ⟨g, 3, none⟩ = some (.int .i64 m.u)
  c4 : w.cell? ⟨g, 4, none⟩ = some (.int .i64 m.v)
  c5 : w.cell? ⟨g, 5, none⟩ = some (.int .i64 m.t)
  lt : g < w.heap.size
theorem NtAt.new (w : World) (m : Nt.M) : NtAt (w.alloc (.cells (Nt.cs m) 38)) w.heap.size m := ⟨heap_alloc_new w _⟩
theorem NtAt.on {w w' : World} {g : Nat} {m : Nt.M} (h : NtAt w g m) (hb : Below w.heap.size w w') : NtAt w' g m := ⟨(hb.block g (Array.getElem?_eq_some_iff.1 h.row).1).trans h.row⟩
theorem NtAt.keep {w w' : World} {g : Nat} {m : Nt.M} (h : NtAt w g m) (hk : w'.heap[g]? = w.heap[g]?) : NtAt w' g m := ⟨hk.trans h.row⟩
theorem NtAt.cs {w : World} {g : Nat} {m : Nt.M} (h : NtAt w g m) : NtCs w g m :=
  ⟨by rw [cell_of_row w g 0 _ _ _ h.row]; rfl, by rw [cell_of_row w g 1 _ _ _ h.row]; rfl, by rw [cell_of_row w g 2 _ _ _ h.row]; rfl, by rw [cell_of_row w g 3 _ _ _ h.row]; rfl, by rw [cell_of_row w g 4 _ _ _ h.row]; rfl, by rw [cell_of_row w g 5 _ _ _ h.row]; rfl, (Array.getElem?_eq_some_iff.1 h.row).1⟩
theorem NtAt.range {w : World} {g : Nat} {m : Nt.M} (h : NtAt w g m) : w.rangeAt g 0 (Nt.mC m) := fun j v hv => by
  rw [Nat.zero_add, cell_of_row w g j _ _ _ h.row, ← hv]
  simp [Nt.mC]
theorem msg_fields : Try.prog.underlying 38 = some (.struct (Try.prog.fieldsOf 38)) := by kernel_rfl
theorem msg_stood : Try.prog.stoodInHeld 38 = false := by kernel_rfl
theorem msg_guard : Try.prog.eqGuardType Try.prog.depth 38 = false := by kernel_rfl
theorem msg_size (m : Nt.M) : (Try.prog.info? 38).map (·.size) = some (Nt.mC m).length := by kernel_rfl
theorem msg_size' (m : Nt.M) : (Try.prog.info? 38).map (·.size) = some (Nt.cs m).size := by kernel_rfl
theorem msg_info : (Try.prog.info? 38).map (fun i => (i.zero, i.size, i.bytes)) = some (some (.agg #[.int .i64 0, .int .i64 0, .int .i64 0, .int .i64 0, .int .i64 0, .int .i64 0]), 6, 48) := by kernel_rfl
theorem msg_eqIn (a b : Nt.M) (W : World) : (Op.equalIn 10000 38 (Nt.val a) (Nt.val b)).run Try.prog W = .ok (Nt.same a b) W := by
  rw [run_equalIn_agg W 9999 38 _ _ msg_fields msg_stood]
  have hi : ∀ x y, (Op.equalIn 9999 3 (.int .i64 x) (.int .i64 y)).run Try.prog W = .ok (x == y) W := fun x y => run_equalIn_int W 9998 3 .i64 .i64 x y Try.underlying3
  simp only [Program.fieldsOf, Try.underlying38]
  unfold Nt.same
  refine eqf_cons (by decide) ?_ ?_ (hi _ _) (eqf_cons (by decide) ?_ ?_ (hi _ _) (eqf_cons (by decide) ?_ ?_ (hi _ _) (eqf_cons (by decide) ?_ ?_ (hi _ _) (eqf_cons (by decide) ?_ ?_ (hi _ _) (eqf_cons (by decide) ?_ ?_ (hi _ _) eqf_nil)))))
  all_goals simp [go_sem, Sem.run_bind, Result.andThen]
theorem msg_eq {a b : Nt.M} {q : Bool} (h : q = true ↔ a = b) (W : World) : (binOp .eql 38 (Nt.val a) (Nt.val b)).run Try.prog W = .ok (.bool q) W := by
  have e : q = Nt.same a b := by rw [Bool.eq_iff_iff, h, Nt.same_iff]
  rw [run_eql_struct, msg_eqIn, e]
  rfl
theorem msg_neq {a b : Nt.M} {q : Bool} (h : q = true ↔ a ≠ b) (W : World) : (binOp .neq 38 (Nt.val a) (Nt.val b)).run Try.prog W = .ok (.bool q) W := by
  have e : q = !Nt.same a b := by
    rw [Bool.eq_iff_iff, h, Bool.not_eq_true', ← Bool.not_eq_true, Nt.same_iff]
  rw [run_neq_struct, msg_eqIn, e]
  rfl
theorem nt_range {w : World} {A : Option Addr} {n c : Nat} {ts : List Nt.M} (h : SlF Nt.mC w A n c ts) {q : Nat} {t : Nt.M} (hq : ts[q]? = some t) : ∃ b o, A = some ⟨b, o, none⟩ ∧ b < w.heap.size ∧ w.rangeAt b (o + q * 6) (Nt.mC t) := by
  obtain ⟨b, o, h1, h2, h3⟩ := h.at_ Nt.mC_len hq
  exact ⟨b, o, h1, h2, fun i u hi => h3 i u hi⟩
theorem nrange_on {w w' : World} {b o : Nat} {cs : List Value} (h : w.rangeAt b o cs) (hb : w'.heap[b]? = w.heap[b]?) : w'.rangeAt b o cs := fun j v hv => (World.cell?_of_block hb).trans (h j v hv)
section
variable {w : World} {ops : Array Oper} {rest : List Oper} {op : Oper} {a : Act} {Q : Exit → Act → World → Prop} {K : Act → World → Prop}
theorem wpList_load_msg (hgd : op.guard = none) (x : Operand) (ho : op.op = .load 38 x) (b o : Nat) (hx : a.eval x = .pointer (some ⟨b, o, none⟩)) (m : Nt.M) (hc : w.rangeAt b o (Nt.mC m))
    (h : wpList Try.prog ops Q rest (a.put op.dst (Nt.val m)) w) : wpList Try.prog ops Q (op :: rest) a w :=
  wpList_load_mid hgd 38 x ho b o hx (Nt.mC m) _ hc msg_fields rfl (msg_size m) h
theorem take_msg (x : Operand) (ho : op.op = .load 38 x) (b o : Nat) (m : Nt.M) (hx : a.eval x = .pointer (some ⟨b, o, none⟩)) (h : w.rangeAt b o (Nt.mC m)) : (execOp a.eval op).run Try.prog w = .ok (.value (Nt.val m)) w := by
  have := run_loadVar_mid (P := Try.prog) w b o 38 (Nt.mC m) _ h msg_fields rfl (msg_size m)
  unfold execOp
  simp only [ho, hx, Instr.loadAt, Instr.sureAddr, Sem.run_bind, Sem.run_pure, Result.andThen_ok, this]
  rfl
theorem wpList_build_msg (hgd : op.guard = none) (x : Operand) (ho : op.op = .buildSlice 43 1 #[(0, x)]) (m : Nt.M) (hx : a.eval x = Nt.val m)
    (h : wpList Try.prog ops Q rest (a.put op.dst (.slice (some ⟨w.heap.size, 0, none⟩) 1 1)) (w.alloc (.cells (Nt.mC m).toArray 38))) : wpList Try.prog ops Q (op :: rest) a w := by
  obtain ⟨i0, hi, hz0, hz1, hz2⟩ := info_parts msg_info
  refine wpList_buildSlice hgd 43 38 1 #[(0, x)] ho (Nt.mC m).toArray i0 _ Try.underlying43 hi hz0 (by rw [hz1]; omega) (by rw [hz1]; omega) ?_ h
  have hf := Great.fill_whole (s := 6) (by omega) [Nt.val m] ((Array.range (1 * 6)).map ((Value.agg (Nt.cs Nt.zero)).cells[· % (Value.agg (Nt.cs Nt.zero)).cells.size]!)) (fun v hv => by rw [List.mem_singleton.1 hv]; rfl) (by simp)
  rw [hz1]
  simp only [List.zipIdx_cons, List.zipIdx_nil, List.map_cons, List.map_nil, List.flatMap_cons, List.flatMap_nil, List.append_nil] at hf
  simp only [List.map_toArray, List.map_cons, List.map_nil, hx]
  exact hf
theorem wp_build_msg (x : Operand) (ho : op.op = .buildSlice 43 1 #[(0, x)]) (m : Nt.M) (hx : a.eval x = Nt.val m)
    (h : K (a.put op.dst (.slice (some ⟨w.heap.size, 0, none⟩) 1 1)) (w.alloc (.cells (Nt.mC m).toArray 38))) : Oper.wp Try.prog op a w K Q := by
  obtain ⟨i0, hi, hz0, hz1, hz2⟩ := info_parts msg_info
  refine wp_buildSlice 43 38 1 #[(0, x)] ho (Nt.mC m).toArray i0 _ Try.underlying43 hi hz0 (by rw [hz1]; omega) (by rw [hz1]; omega) ?_ h
  have hf := Great.fill_whole (s := 6) (by omega) [Nt.val m] ((Array.range (1 * 6)).map ((Value.agg (Nt.cs Nt.zero)).cells[· % (Value.agg (Nt.cs Nt.zero)).cells.size]!)) (fun v hv => by rw [List.mem_singleton.1 hv]; rfl) (by simp)
  rw [hz1]
  simp only [List.zipIdx_cons, List.zipIdx_nil, List.map_cons, List.map_nil, List.flatMap_cons, List.flatMap_nil, List.append_nil] at hf
  simp only [List.map_toArray, List.map_cons, List.map_nil, hx]
  exact hf
end
def NPos (w : World) (v : Value) (e : Ending) (w' : World) : Prop := e = .returned v ∧ Below w.heap.size w w'
abbrev nrV (rm : Int) (V : Value) (se lo : Int) : Value := .agg #[.int .i64 rm, V, .int .i64 se, .int .i64 lo]
structure NrCs (w : World) (g : Nat) (rm : Int) (V : Value) (se lo : Int) : Prop where
  c0 : w.cell? ⟨g, 0, none⟩ = some (.int .i64 rm)
  c1 : w.cell? ⟨g, 1, none⟩ = some V
  c2 : w.cell? ⟨g, 2, none⟩ = some (.int .i64 se)
  c3 : w.cell? ⟨g, 3, none⟩ = some (.int .i64 lo)
  fz : ∀ i, w.frozen? ⟨g, i, none⟩ = false
  lt : g < w.heap.size
section
variable {w w' : World} {g : Nat} {rm se lo : Int} {V : Value}
end
theorem two_new {w W : World} {o1 o2 : Obj} (h : W = (w.alloc o1).alloc o2) : W.heap[w.heap.size]? = some o1 ∧ W.heap[w.heap.size + 1]? = some o2 ∧ Below w.heap.size w W ∧ W.heap.size = w.heap.size + 2 := by
  subst h
  have b1 : Below w.heap.size w (w.alloc o1) := (Below.refl _ _).alloc (Nat.le_refl _) _
  have b2 : Below (w.alloc o1).heap.size (w.alloc o1) ((w.alloc o1).alloc o2) := (Below.refl _ _).alloc (Nat.le_refl _) _
  have z1 : (w.alloc o1).heap.size = w.heap.size + 1 := by simp
  refine ⟨(b2.block _ (by omega)).trans (heap_alloc_new w o1), by rw [← z1]; exact heap_alloc_new _ _, b1.trans (b2.mono (by omega)), by simp⟩
section
variable {w : World} {ops : Array Oper} {rest : List Oper} {op : Oper} {a : Act} {Q : Exit → Act → World → Prop} {g : Nat} {rm se lo rm2 se2 lo2 : Int} {V V2 : Value}
theorem nr_one (hV : V.oneCell' = true) : (#[.int .i64 rm, V, .int .i64 se, .int .i64 lo] : Array Value).all (·.oneCell') = true := by
  simp [hV]
  simp [Value.oneCell']
theorem msg_one (m : Nt.M) : (Nt.cs m).all (·.oneCell') = true := by simp [Value.oneCell']
theorem grown_row (w : World) (g : Nat) (cs : Array Value) : w.grownBy (w.setRow g cs) (some g) := by
  refine ⟨rfl, rfl, rfl, by simp [World.setRow], fun k _ hk => ?_⟩
  simp only [World.setRow]
  rw [Array.getElem?_modify]
  rw [if_neg (fun e => hk (by rw [e]))]
theorem wpList_store_msg (hgd : op.guard = none) (x y : Operand) (ho : op.op = .store 38 x y) (m m2 : Nt.M) (hx : a.eval x = .pointer (some ⟨g, 0, none⟩)) (hy : a.eval y = Nt.val m2) (hg : NtAt w g m)
    (h : ∀ w', NtAt w' g m2 → w.grownBy w' (some g) → wpList Try.prog ops Q rest (a.put op.dst undef) w') : wpList Try.prog ops Q (op :: rest) a w :=
  wpList_plain hgd fun _ hK => wp_store_row 38 x y ho g _ hx hy 38 _ hg.row (msg_size' m2) rfl (msg_one m2) (hK _ _ (h _ ⟨setRow_heap w g _ _ _ _ hg.row⟩ (grown_row w g _)))
theorem msg_results {fn : Func} {p : Tmp} (h : fn.results = #[.cell p 38]) (tmps : Array Value) (m : Nt.M) (hp : tmps.getD p undef = .pointer (some ⟨g, 0, none⟩)) (hg : NtAt w g m) :
    (results fn tmps).run Try.prog w = .ok (Nt.val m) w :=
  results_cell_row h tmps w g 38 _ (0, 0) _ hp hg.row msg_fields rfl (msg_size' m)
theorem msg_results2 {fn : Func} {p u : Tmp} (h : fn.results = #[.cell p 38, .tmp u]) (tmps : Array Value) (m : Nt.M) (hp : tmps.getD p undef = .pointer (some ⟨g, 0, none⟩)) (hg : NtAt w g m) :
    (results fn tmps).run Try.prog w = .ok (.tuple #[Nt.val m, tmps.getD u undef]) w := by
  rw [results_cell_tmp h, hp]
  have := run_loadVar_row (P := Try.prog) w g 38 38 (Nt.cs m) (0, 0) _ hg.row msg_fields rfl (msg_size' m)
  simp [asAddr, this, Result.andThen]
end
theorem run_min5 {P : Program} (w : World) (ts : Array TypeId) (t : TypeId) (a b c d e : Int) :
    (Builtin.min_ ts t #[.int .i64 a, .int .i64 b, .int .i64 c, .int .i64 d, .int .i64 e]).run P w = .ok (.int .i64 (min (min (min (min a b) c) d) e)) w := by
  have q : ∀ x y : Int, (if y < x then y else x) = min x y := fun x y => by
    rw [Int.min_def]
    split <;> split <;> omega
  simp [Builtin.min_, Builtin.min2, q, List.foldlM]
end Go.Proofs.Ytgljepjflpijiaa
