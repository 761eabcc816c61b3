/-
  Slots as values and in memory; structs of four numbers compared. No condition.
-/
import Derived.Test.YtgljepjflpijiaaRows
import Derived.Test.YtgljepjflpijiaaSuMath
import Derived.Test.YtgljepjflpijiaaEqF
import Derived.Test.YtgljepjflpijiaaAggOpen
import Derived.Test.YtgljepjflpijiaaKept
import Derived.Laws.BytesArg
import Derived.Maps.AppendAt
import Derived.Deep.Slices
import Derived.Laws.ByValue
import Derived.Laws.StructEq
import Derived.Laws.CopyOwn
import Derived.Lib.MinMax
import Derived.IntWalk
import Derived.Deep.Cut
import Derived.Deep.CutBlock
import Derived.Deep.DeepCutAuto
import Derived.BigRegion
import Derived.Shelf.Abstract
import Derived.Laws.ResultCell
namespace Go.Proofs.Ytgljepjflpijiaa
open Go.RowKit Go.Deep

/-- A slot by value. -/
abbrev suC (s : Su.S) : Array Value := #[.int .i64 s.st, .int .i64 s.v, .int .i64 s.wa, .int .i64 s.sq]
abbrev suV (s : Su.S) : Value := .agg (suC s)
theorem slot_fields : Try.prog.underlying 46 = some (.struct (Try.prog.fieldsOf 46)) := by kernel_rfl
theorem slot_stood : Try.prog.stoodInHeld 46 = false := by kernel_rfl
theorem slot_eqIn (a b : Su.S) (d : Nat) (W : World) : (Op.equalIn (d + 2) 46 (suV a) (suV b)).run Try.prog W = .ok ((a.st == b.st) && ((a.v == b.v) && ((a.wa == b.wa) && ((a.sq == b.sq) && true)))) W := by
  rw [run_equalIn_agg W (d + 1) 46 _ _ slot_fields slot_stood]
  have hi : ∀ x y, (Op.equalIn (d + 1) 3 (.int .i64 x) (.int .i64 y)).run Try.prog W = .ok (x == y) W := fun x y => run_equalIn_int W d 3 .i64 .i64 x y Try.underlying3
  simp only [Program.fieldsOf, Try.underlying46]
  refine eqf_cons (by decide) ?_ ?_ (hi _ _) (eqf_cons (by decide) ?_ ?_ (hi _ _) (eqf_cons (by decide) ?_ ?_ (hi _ _) (eqf_cons (by decide) ?_ ?_ (hi _ _) eqf_nil)))
  all_goals simp [go_sem, Sem.run_bind, Result.andThen]
theorem su_bits (a b : Su.S) : ((a.st == b.st) && ((a.v == b.v) && ((a.wa == b.wa) && ((a.sq == b.sq) && true)))) = decide (a = b) := by
  rw [Bool.eq_iff_iff]
  obtain ⟨a0, a1, a2, a3⟩ := a
  obtain ⟨b0, b1, b2, b3⟩ := b
  simp
theorem slot_eq {a b : Su.S} {x : Bool} (h : x = decide (a = b)) (W : World) : (binOp .eql 46 (suV a) (suV b)).run Try.prog W = .ok (.bool x) W := by
  rw [run_eql_struct, slot_eqIn, su_bits, h]
  rfl
theorem slot_neq {a b : Su.S} {x : Bool} (h : x = !decide (a = b)) (W : World) : (binOp .neq 46 (suV a) (suV b)).run Try.prog W = .ok (.bool x) W := by
  rw [run_neq_struct, slot_eqIn, su_bits, h]
  rfl
/-- A block that holds a slot. -/
def SuAt (T : TypeId) (w : World) (q : Nat) (s : Su.S) : Prop := w.heap[q]? = some (.cells (suC s) T (0, 0))
section
variable {T : TypeId} {w w' : World} {q : Nat} {s : Su.S}
theorem SuAt.cells (h : SuAt T w q s) : w.cell? ⟨q, 0, none⟩ = some (.int .i64 s.st) ∧ w.cell? ⟨q, 1, none⟩ = some (.int .i64 s.v) ∧ w.cell? ⟨q, 2, none⟩ = some (.int .i64 s.wa) ∧ w.cell? ⟨q, 3, none⟩ = some (.int .i64 s.sq) ∧ q < w.heap.size :=
  ⟨by rw [cell_of_row w q 0 _ _ _ h]; rfl, by rw [cell_of_row w q 1 _ _ _ h]; rfl, by rw [cell_of_row w q 2 _ _ _ h]; rfl, by rw [cell_of_row w q 3 _ _ _ h]; rfl, (Array.getElem?_eq_some_iff.1 h).1⟩
theorem SuAt.fz (h : SuAt T w q s) : w.frozen? ⟨q, 0, none⟩ = false ∧ w.frozen? ⟨q, 1, none⟩ = false ∧ w.frozen? ⟨q, 2, none⟩ = false ∧ w.frozen? ⟨q, 3, none⟩ = false :=
  ⟨frozen_of_row _ _ _ _ _ h, frozen_of_row _ _ _ _ _ h, frozen_of_row _ _ _ _ _ h, frozen_of_row _ _ _ _ _ h⟩
theorem SuAt.on (h : SuAt T w q s) (hb : Below w.heap.size w w') : SuAt T w' q s := blk_on h hb
theorem SuAt.off (h : SuAt T w q s) {r : Nat} (hg : w.grownBy w' (some r)) (hr : q ≠ r) : SuAt T w' q s := (hg.block q h.cells.2.2.2.2 (fun e => hr (by injection e))).trans h
theorem SuAt.set0 (h : SuAt T w q s) (x : Int) : SuAt T (w.setCell ⟨q, 0, none⟩ (.int .i64 x)) q ⟨x, s.v, s.wa, s.sq⟩ := heap_setCell_same w q 0 _ _ _ h
theorem SuAt.set1 (h : SuAt T w q s) (x : Int) : SuAt T (w.setCell ⟨q, 1, none⟩ (.int .i64 x)) q ⟨s.st, x, s.wa, s.sq⟩ := heap_setCell_same w q 1 _ _ _ h
theorem SuAt.set2 (h : SuAt T w q s) (x : Int) : SuAt T (w.setCell ⟨q, 2, none⟩ (.int .i64 x)) q ⟨s.st, s.v, x, s.sq⟩ := heap_setCell_same w q 2 _ _ _ h
theorem SuAt.set3 (h : SuAt T w q s) (x : Int) : SuAt T (w.setCell ⟨q, 3, none⟩ (.int .i64 x)) q ⟨s.st, s.v, s.wa, x⟩ := heap_setCell_same w q 3 _ _ _ h
theorem SuAt.new (T : TypeId) (W : World) (s : Su.S) : SuAt T (W.alloc (.cells (suC s) T)) W.heap.size s := heap_alloc_new W _
end
/-- A boxed slot, and the answer's block, made since W. -/
structure Su2 (T U : TypeId) (W w : World) (g : Nat) (s r : Su.S) : Prop where
  a : SuAt T w g s
  r : SuAt U w (g + 1) r
  b : Below W.heap.size W w
  g : W.heap.size ≤ g
section
variable {T U : TypeId} {W w w' : World} {g : Nat} {s r : Su.S}
theorem set_apart (h : SuAt T w g s) {q : Nat} (hq : q ≠ g) (k : Nat) (v : Value) : SuAt T (w.setCell ⟨q, k, none⟩ v) g s := (Below.heap_setCell _ _ _ _ (by simpa using hq.symm)).trans h
theorem Su2.on (h : Su2 T U W w g s r) (hb : Below w.heap.size w w') : Su2 T U W w' g s r := ⟨h.a.on hb, h.r.on hb, h.b.trans (hb.mono h.b.size), h.g⟩
theorem Su2.s0 (h : Su2 T U W w g s r) (x : Int) : Su2 T U W (w.setCell ⟨g, 0, none⟩ (.int .i64 x)) g ⟨x, s.v, s.wa, s.sq⟩ r := ⟨h.a.set0 x, set_apart h.r (by omega) _ _, h.b.setCell h.g _, h.g⟩
theorem Su2.s1 (h : Su2 T U W w g s r) (x : Int) : Su2 T U W (w.setCell ⟨g, 1, none⟩ (.int .i64 x)) g ⟨s.st, x, s.wa, s.sq⟩ r := ⟨h.a.set1 x, set_apart h.r (by omega) _ _, h.b.setCell h.g _, h.g⟩
theorem Su2.s2 (h : Su2 T U W w g s r) (x : Int) : Su2 T U W (w.setCell ⟨g, 2, none⟩ (.int .i64 x)) g ⟨s.st, s.v, x, s.sq⟩ r := ⟨h.a.set2 x, set_apart h.r (by omega) _ _, h.b.setCell h.g _, h.g⟩
theorem Su2.s3 (h : Su2 T U W w g s r) (x : Int) : Su2 T U W (w.setCell ⟨g, 3, none⟩ (.int .i64 x)) g ⟨s.st, s.v, s.wa, x⟩ r := ⟨h.a.set3 x, set_apart h.r (by omega) _ _, h.b.setCell h.g _, h.g⟩
theorem Su2.r0 (h : Su2 T U W w g s r) (x : Int) : Su2 T U W (w.setCell ⟨g + 1, 0, none⟩ (.int .i64 x)) g s ⟨x, r.v, r.wa, r.sq⟩ := ⟨set_apart h.a (by omega) _ _, h.r.set0 x, h.b.setCell (by have := h.g; show _ ≤ g + 1; omega) _, h.g⟩
theorem Su2.r1 (h : Su2 T U W w g s r) (x : Int) : Su2 T U W (w.setCell ⟨g + 1, 1, none⟩ (.int .i64 x)) g s ⟨r.st, x, r.wa, r.sq⟩ := ⟨set_apart h.a (by omega) _ _, h.r.set1 x, h.b.setCell (by have := h.g; show _ ≤ g + 1; omega) _, h.g⟩
theorem Su2.r2 (h : Su2 T U W w g s r) (x : Int) : Su2 T U W (w.setCell ⟨g + 1, 2, none⟩ (.int .i64 x)) g s ⟨r.st, r.v, x, r.sq⟩ := ⟨set_apart h.a (by omega) _ _, h.r.set2 x, h.b.setCell (by have := h.g; show _ ≤ g + 1; omega) _, h.g⟩
theorem Su2.r3 (h : Su2 T U W w g s r) (x : Int) : Su2 T U W (w.setCell ⟨g + 1, 3, none⟩ (.int .i64 x)) g s ⟨r.st, r.v, r.wa, x⟩ := ⟨set_apart h.a (by omega) _ _, h.r.set3 x, h.b.setCell (by have := h.g; show _ ≤ g + 1; omega) _, h.g⟩
theorem Su2.fill (h : Su2 T U W w g s r) (a b c d : Int) : Su2 T U W ((((w.setCell ⟨g + 1, 0, none⟩ (.int .i64 a)).setCell ⟨g + 1, 1, none⟩ (.int .i64 b)).setCell ⟨g + 1, 2, none⟩ (.int .i64 c)).setCell ⟨g + 1, 3, none⟩ (.int .i64 d)) g s ⟨a, b, c, d⟩ :=
  (((h.r0 a).r1 b).r2 c).r3 d
end
theorem su_two (T U : TypeId) (W : World) (s : Su.S) : ∃ g W1, W1 = (W.alloc (.cells #[.int .i64 s.st, .int .i64 s.v, .int .i64 s.wa, .int .i64 s.sq] T)).alloc (.cells #[.int .i64 0, .int .i64 0, .int .i64 0, .int .i64 0] U) ∧ g = W.heap.size ∧ Su2 T U W W1 g s Su.zero := by
  refine ⟨_, _, rfl, rfl, (SuAt.new T W s).on ((Below.refl _ _).alloc (Nat.le_refl _) _), ?_, ((Below.refl W.heap.size W).alloc (Nat.le_refl _) _).alloc (by simp) _, Nat.le_refl _⟩
  have := SuAt.new U (W.alloc (.cells (suC s) T)) Su.zero
  rw [show (W.alloc (.cells (suC s) T)).heap.size = W.heap.size + 1 from by simp] at this
  exact this
/-- What a call on a slot answers. -/
def SuPost (W : World) (r : Su.S) (b : Bool) (e : Ending) (w' : World) : Prop := e = .returned (.tuple #[suV r, .bool b]) ∧ Below W.heap.size W w'
theorem run_loadVar_su {U : TypeId} {fs : Array Field} (hu : Try.prog.underlying U = some (.struct fs)) (hi : (Try.prog.info? U).map (·.size) = some 4) {w : World} {q : Nat} {r : Su.S} (h : SuAt U w q r) : (loadVar U ⟨q, 0, none⟩).run Try.prog w = .ok (suV r) w :=
  run_loadVar_row w q U U (suC r) (0, 0) (.struct fs) h hu rfl hi
theorem su_ret {U : TypeId} {fn : Func} {p u : Tmp} (hf : fn.results = #[.cell p U, .tmp u]) {fs : Array Field} (hu : Try.prog.underlying U = some (.struct fs)) (hi : (Try.prog.info? U).map (·.size) = some 4) {T : TypeId} {W w : World} {g : Nat} {s r : Su.S} {b : Bool} (h : Su2 T U W w g s r) {a : Act}
    (hp : a.tmps.getD p undef = .pointer (some ⟨g + 1, 0, none⟩)) (hb : a.tmps.getD u undef = .bool b) (hdf : a.defers = []) {r' : Su.S} {b' : Bool} (hr : r = r') (hbb : b = b') : bodyPost Try.prog fn (SuPost W r' b') .ret a w := by
  subst hr hbb
  refine bodyPost_ret (v := .tuple #[suV r, .bool b]) ?_ hdf ⟨rfl, h.b⟩
  rw [results_cell_tmp hf, hp, hb]
  simp [asAddr, run_loadVar_su hu hi h.r, Result.andThen]
/-- What a change of a slot in memory leaves. -/
def SuCh (W : World) (q : Nat) (r : Su.S) (e : Ending) (w' : World) : Prop := e = .returned (.tuple #[]) ∧ SuAt 46 w' q r ∧ W.grownBy w' (some q)
end Go.Proofs.Ytgljepjflpijiaa
