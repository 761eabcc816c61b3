/-
  What is asked of package record: the list of its calls' contracts; the document's example. No condition.
-/
import Derived.Test.YtifokcpkamdkeaaDoorRcRef3
import Derived.Deep.WholeRow
import Derived.Lib.MinMax
namespace Go.Proofs.YtifokcpkamdkeaaDoor
open Go.RowKit Cdc
set_option linter.unusedSimpArgs false

namespace Rc
def nameB (k : Int) : ByteArray :=
  if k = 1 then ⟨#[108, 101, 97, 100]⟩ else if k = 2 then ⟨#[112, 117, 98, 108, 105, 115, 104]⟩ else if k = 3 then ⟨#[98, 101, 103, 105, 110]⟩ else if k = 4 then ⟨#[109, 111, 118, 101]⟩
  else if k = 5 then ⟨#[105, 110, 116, 101, 110, 116]⟩ else if k = 6 then ⟨#[97, 99, 107]⟩ else if k = 7 then ⟨#[115, 116, 101, 112]⟩ else ⟨#[]⟩
end Rc
structure RcC : Prop where
  right : ∀ W r, Rc.In r → Calls Tryd.prog 9 #[.agg (Rc.cells r)] W (APos W (.bool (Rc.right r)))
  bytes : ∀ W r, Rc.In r → Calls Tryd.prog 7 #[.agg (Rc.cells r)] W (RPost (Rc.bytesL r) (Rc.bytesE r) W)
  name : ∀ W k, Spc.i64 k → Calls Tryd.prog 13 #[.int .i64 k] W (APos W (.string (Rc.nameB k)))
/-- A whole record read, where a guard lets it. -/
theorem wpList_load_want {P : Program} {ops : Array Oper} {rest : List Oper} {o : Oper} {a : Act} {w : World} {Q : Exit → Act → World → Prop} (hgd : Region.wanted o (yielded ops a.tmps) = true) (ty : TypeId) (x : Operand) (ho : o.op = .load ty x)
    (g : Nat) (hx : a.eval x = .pointer (some ⟨g, 0, none⟩)) (t : TypeId) (cs : Array Value) (fr : Nat × Nat) (d : TypeDesc) (hg : w.heap[g]? = some (.cells cs t fr))
    (hu : P.underlying ty = some d) (hd : (match d with | .struct _ | .array _ _ => true | _ => false) = true) (hi : (P.info? ty).map (·.size) = some cs.size)
    (h : wpList P ops Q rest (a.put o.dst (.agg cs)) w) : wpList P ops Q (o :: rest) a w := by
  simp only [wpList, hgd, if_true]
  exact .inl (wp_load_row ty x ho g hx t cs fr d hg hu hd hi h)
theorem RcAt.ld {w : World} {g : Nat} {r : Rc.R} (h : RcAt w g r) : (loadCellsFrom ⟨g, 0, none⟩ 0 18 #[]).run Tryd.prog w = .ok (Rc.cells r) w := by
  have hl := run_loadCells_list (P := Tryd.prog) w ⟨g, 0, none⟩ (Rc.cells r).toList (fun j v hv => by
    have hadd : (⟨g, 0, none⟩ : Addr).add j = ⟨g, j, none⟩ := by unfold Addr.add; split <;> simp_all
    rw [hadd, cell_of_row w g j _ _ _ h.row]
    simpa using hv)
  simp only [Array.length_toList, Array.toArray_toList] at hl
  exact hl
def Rc.zeros : Array Value := #[.int .i64 0, .int .i64 0, .int .i64 0, .int .i64 0, .int .i64 0, .string ⟨#[]⟩, .int .i64 0, .int .i64 0, .int .i64 0, .int .i64 0, .int .i64 0, .int .i64 0, .int .i64 0, .int .i64 0, .int .i64 0, .int .i64 0, .int .i64 0, .int .i64 0]
theorem Rc.one_cell (r : Rc.R) : (Rc.cells r).all (·.oneCell') = true := by simp [Rc.cells, Value.oneCell']
theorem rc_store (w : World) (r : Rc.R) : (storeCells ⟨w.heap.size, 0, none⟩ (Rc.cells r).toList 0).run Tryd.prog (w.alloc (.cells Rc.zeros 26)) = .ok () (w.alloc (.cells (Rc.cells r) 26)) :=
  run_storeCells_new w 26 Rc.zeros (Rc.cells r) (rec_size r) rfl (Rc.one_cell r)
theorem rc_storeAt (w : World) (r : Rc.R) : (Instr.storeAt 26 (.pointer (some ⟨w.heap.size, 0, none⟩)) (.agg (Rc.cells r))).run Tryd.prog (w.alloc (.cells Rc.zeros 26)) = .ok () (w.alloc (.cells (Rc.cells r) 26)) :=
  run_storeAt_new w 26 Rc.zeros (Rc.cells r) (rec_size r) rfl (Rc.one_cell r)
def Rc.ex : Rc.R := ⟨1, 1, 0, 5, 10, ⟨#[]⟩, Spc.zero⟩
theorem Rc.ex_in : Rc.In Rc.ex := by
  refine ⟨?_, by decide, ?_⟩
  · intro x hx
    simp [Rc.nums, Rc.ex] at hx
    unfold Spc.i64; omega
  · intro x hx
    simp [Spc.flds, Rc.ex, Spc.zero] at hx
    unfold Spc.i64; omega
theorem Rc.ex_bytes : Rc.bytes Rc.ex = [1, 1, 0, 5, 10, 0] := by
  have d : ∀ n, n < 128 → digs n = [n] := fun n h => digs_lt h
  unfold Rc.bytes
  simp [Rc.nums, Rc.ex, fl, d, sb]
  exact digs_lt (by decide)
theorem Rc.ex_right : Rc.right Rc.ex = true := by decide
theorem rclives_any (hC : RcC) (w : World) : Calls Tryd.prog 5 #[] w fun e w' => e = .returned (.bool true) ∧ Below w.heap.size w w' := by
  have CB := Lib.hid (hC.bytes w Rc.ex Rc.ex_in)
  rw [(Rc.bytes_yes Rc.ex_right).1, (Rc.bytes_yes Rc.ex_right).2, Rc.ex_bytes] at CB
  unfold Rc.ex Rc.cells Spc.zero at CB
  simp only at CB
  have CN := Lib.hid (fun W => hC.name W 7 (by unfold Spc.i64; omega))
  have EN : Hid (Rc.nameB 7 = ⟨#[115, 116, 101, 112]⟩) := rfl
  rw [EN.out] at CN
  go_enter Tryd.func5, Tryd.ntmps5
  go_upto_region 2 with (go_at_call 7; (with_reducible refine CB.out.mono ?_); rintro e w1 ⟨A1, k1, rfl, hs1, hb1⟩; have S1 := Lib.hid hs1; have B1 := Lib.hid hb1; clear hs1 hb1)
  have hcv := conv_rd (c := k1) S1.out.rd (n := 6) rfl
  have ht : txt [1, 1, 0, 5, 10, 0] = ⟨#[1, 1, 0, 5, 10, 0]⟩ := rfl
  rw [ht] at hcv
  go_wp2_with (go_at_call 13; (with_reducible refine (CN.out _).mono ?_); rintro e w2 ⟨rfl, hb2⟩; have B2 := Lib.hid (B1.out.trans (hb2.mono B1.out.size)); clear hb2)
  go_ret
  exact ⟨rfl, B2.out⟩
/-- What is asked of the document's Good. -/
def RgC : Prop := ∀ W r, Rc.In r → Calls Tryd.prog 15 #[.agg (Rc.cells r)] W (APos W (.agg (Rc.cells (Rc.good r))))
/-- A whole record stored over another one. -/
theorem wpList_store_rec {ops : Array Oper} {rest : List Oper} {op : Oper} {a : Act} {w : World} {Q : Exit → Act → World → Prop} (hgd : op.guard = none) (x y : Operand) (ho : op.op = .store 26 x y)
    (g : Nat) (r s : Rc.R) (hx : a.eval x = .pointer (some ⟨g, 0, none⟩)) (hy : a.eval y = .agg (Rc.cells r)) (hg : RcAt w g s)
    (h : wpList Tryd.prog ops Q rest (a.put op.dst undef) (w.setRow g (Rc.cells r))) : wpList Tryd.prog ops Q (op :: rest) a w :=
  wpList_plain hgd fun _ hK => wp_store_row 26 x y ho g (Rc.cells r) hx hy 26 _ hg.row (rec_size r) rfl (Rc.one_cell r) (hK _ _ h)
end Go.Proofs.YtifokcpkamdkeaaDoor
