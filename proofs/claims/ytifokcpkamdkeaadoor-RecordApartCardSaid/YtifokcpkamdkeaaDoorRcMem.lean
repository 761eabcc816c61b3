/-
  Records in memory: their cells, compared, as an argument. No condition.
-/
import Derived.Test.YtifokcpkamdkeaaDoorRcMath
import Derived.Test.YtifokcpkamdkeaaDoorSpEqAll
import Derived.Test.YtifokcpkamdkeaaDoorAggOpen
namespace Go.Proofs.YtifokcpkamdkeaaDoor
open Go.RowKit

def Rc.cells (r : Rc.R) : Array Value := #[.int .i64 r.kind, .int .i64 r.epoch, .int .i64 r.who, .int .i64 r.n, .int .i64 r.seq, .string r.text, .int .i64 r.sp.v, .int .i64 r.sp.d, .int .i64 r.sp.u, .int .i64 r.sp.n, .int .i64 r.sp.g, .int .i64 r.sp.a, .int .i64 r.sp.b, .int .i64 r.sp.c, .int .i64 r.sp.e, .int .i64 r.sp.w, .int .i64 r.sp.x, .int .i64 r.sp.k]
def Rc.val (r : Rc.R) : Value := .agg (Rc.cells r)
/-- A block that holds a record. -/
structure RcAt (w : World) (g : Nat) (r : Rc.R) : Prop where
  row : w.heap[g]? = some (.cells (Rc.cells r) 26 (0, 0))
theorem RcAt.new (w : World) (r : Rc.R) : RcAt (w.alloc (.cells (Rc.cells r) 26)) w.heap.size r := ⟨heap_alloc_new w _⟩
theorem RcAt.on {w w' : World} {g : Nat} {r : Rc.R} (h : RcAt w g r) (hb : Below w.heap.size w w') : RcAt w' g r := ⟨(hb.block g (Array.getElem?_eq_some_iff.1 h.row).1).trans h.row⟩
structure RcCs (w : World) (g : Nat) (r : Rc.R) : Prop where
  c0 : w.cell? ⟨g, 0, none⟩ = some (.int .i64 r.kind)
  c1 : w.cell? ⟨g, 1, none⟩ = some (.int .i64 r.epoch)
  c2 : w.cell? ⟨g, 2, none⟩ = some (.int .i64 r.who)
  c3 : w.cell? ⟨g, 3, none⟩ = some (.int .i64 r.n)
  c4 : w.cell? ⟨g, 4, none⟩ = some (.int .i64 r.seq)
  c5 : w.cell? ⟨g, 5, none⟩ = some (.string r.text)
  c6 : w.cell? ⟨g, 6, none⟩ = some (.int .i64 r.sp.v)
  c7 : w.cell? ⟨g, 7, none⟩ = some (.int .i64 r.sp.d)
  c8 : w.cell? ⟨g, 8, none⟩ = some (.int .i64 r.sp.u)
  c9 : w.cell? ⟨g, 9, none⟩ = some (.int .i64 r.sp.n)
  c10 : w.cell? ⟨g, 10, none⟩ = some (.int .i64 r.sp.g)
  c11 : w.cell? ⟨g, 11, none⟩ = some (.int .i64 r.sp.a)
  c12 : w.cell? ⟨g, 12, none⟩ = some (.int .i64 r.sp.b)
  c13 : w.cell? ⟨g, 13, none⟩ = some (.int .i64 r.sp.c)
  c14 : w.cell? ⟨g, 14, none⟩ = some (.int .i64 r.sp.e)
  c15 : w.cell? ⟨g, 15, none⟩ = some (.int .i64 r.sp.w)
  c16 : w.cell? ⟨g, 16, none⟩ = some (.int .i64 r.sp.x)
  c17 : w.cell? ⟨g, 17, none⟩ = some (.int .i64 r.sp.k)
  lt : g < w.heap.size
theorem RcAt.cs {w : World} {g : Nat} {r : Rc.R} (h : RcAt w g r) : RcCs w g r :=
  ⟨by rw [cell_of_row w g 0 _ _ _ h.row]; rfl, by rw [cell_of_row w g 1 _ _ _ h.row]; rfl, by rw [cell_of_row w g 2 _ _ _ h.row]; rfl, by rw [cell_of_row w g 3 _ _ _ h.row]; rfl, by rw [cell_of_row w g 4 _ _ _ h.row]; rfl, by rw [cell_of_row w g 5 _ _ _ h.row]; rfl,
   by rw [cell_of_row w g 6 _ _ _ h.row]; rfl, by rw [cell_of_row w g 7 _ _ _ h.row]; rfl, by rw [cell_of_row w g 8 _ _ _ h.row]; rfl, by rw [cell_of_row w g 9 _ _ _ h.row]; rfl, by rw [cell_of_row w g 10 _ _ _ h.row]; rfl, by rw [cell_of_row w g 11 _ _ _ h.row]; rfl,
   by rw [cell_of_row w g 12 _ _ _ h.row]; rfl, by rw [cell_of_row w g 13 _ _ _ h.row]; rfl, by rw [cell_of_row w g 14 _ _ _ h.row]; rfl, by rw [cell_of_row w g 15 _ _ _ h.row]; rfl, by rw [cell_of_row w g 16 _ _ _ h.row]; rfl, by rw [cell_of_row w g 17 _ _ _ h.row]; rfl, (Array.getElem?_eq_some_iff.1 h.row).1⟩
def Rc.same (r s : Rc.R) : Bool := (r.kind == s.kind) && ((r.epoch == s.epoch) && ((r.who == s.who) && ((r.n == s.n) && ((r.seq == s.seq) && ((r.text.toList == s.text.toList) && (Spc.same r.sp s.sp && true))))))
theorem text_same_iff {a b : ByteArray} : (a.toList == b.toList) = true ↔ a = b := by
  rw [beq_iff_eq]
  constructor
  · intro h
    rw [ByteArray.toList_eq, ByteArray.toList_eq] at h
    exact ByteArray.ext (Array.ext' h)
  · rintro rfl; rfl
theorem Rc.same_iff {r s : Rc.R} : Rc.same r s = true ↔ r = s := by
  unfold Rc.same
  simp only [Bool.and_eq_true, beq_iff_eq, and_true, Spc.same_iff]
  constructor
  · rintro ⟨h1, h2, h3, h4, h5, h6, h7⟩
    have ht : r.text = s.text := text_same_iff.1 (beq_iff_eq.2 h6)
    clear h6
    exact Rc.ext (by unfold Rc.nums; rw [h1, h2, h3, h4, h5]) ht h7
  · rintro rfl
    simp
theorem rec_fields : Tryd.prog.underlying 26 = some (.struct (Tryd.prog.fieldsOf 26)) := by kernel_rfl
theorem rec_stood : Tryd.prog.stoodInHeld 26 = false := by kernel_rfl
theorem rec_guard : Tryd.prog.eqGuardType Tryd.prog.depth 26 = false := by kernel_rfl
set_option maxRecDepth 100000 in
set_option maxHeartbeats 1600000 in
theorem rec_eqIn (r s : Rc.R) (W : World) : (Op.equalIn 10000 26 (Rc.val r) (Rc.val s)).run Tryd.prog W = .ok (Rc.same r s) W := by
  unfold Rc.val
  rw [run_equalIn_agg W 9999 26 _ _ rec_fields rec_stood]
  have hi : ∀ x y, (Op.equalIn 9999 3 (.int .i64 x) (.int .i64 y)).run Tryd.prog W = .ok (x == y) W := fun x y => run_equalIn_int W 9998 3 .i64 .i64 x y Tryd.underlying3
  have ht : ∀ x y, (Op.equalIn 9999 9 (.string x) (.string y)).run Tryd.prog W = .ok (x.toList == y.toList) W := fun x y => run_equalIn_string W 9998 9 x y Tryd.underlying9
  have hs := spec_eqIn r.sp s.sp 9996 W
  simp only [Program.fieldsOf, Tryd.underlying26, Rc.cells]
  unfold Rc.same
  unfold Spc.val Spc.cells at hs
  refine eqf_cons (by decide) ?_ ?_ (hi _ _) (eqf_cons (by decide) ?_ ?_ (hi _ _) (eqf_cons (by decide) ?_ ?_ (hi _ _) (eqf_cons (by decide) ?_ ?_ (hi _ _) (eqf_cons (by decide) ?_ ?_ (hi _ _) (eqf_cons (by decide) ?_ ?_ (ht _ _) (eqf_cons (by decide) ?_ ?_ hs eqf_nil))))))
  all_goals simp [go_sem, Sem.run_bind, Result.andThen]
theorem rec_eq (r s : Rc.R) (W : World) : (binOp .eql 26 (Rc.val r) (Rc.val s)).run Tryd.prog W = .ok (.bool (Rc.same r s)) W := by
  have h := rec_eqIn r s W
  unfold Rc.val at *
  rw [run_eql_struct, h]; rfl
theorem rec_neq (r s : Rc.R) (W : World) : (binOp .neq 26 (Rc.val r) (Rc.val s)).run Tryd.prog W = .ok (.bool (!Rc.same r s)) W := by
  have h := rec_eqIn r s W
  unfold Rc.val at *
  rw [run_neq_struct, h]; rfl
theorem rc_eqs (r : Rc.R) (W : World) : (binOp .eql 26 (.agg (Rc.cells r)) (.agg (Rc.cells r))).run Tryd.prog W = .ok (.bool true) W := by
  have := rec_eq r r W
  rw [Rc.same_iff.2 rfl] at this
  exact this
theorem rc_neqs (r : Rc.R) (W : World) : (binOp .neq 26 (.agg (Rc.cells r)) (.agg (Rc.cells r))).run Tryd.prog W = .ok (.bool false) W := by
  have := rec_neq r r W
  rw [Rc.same_iff.2 rfl] at this
  exact this
theorem recCells : Tryd.prog.cellsOf 26 = 18 := by kernel_rfl
theorem rec_types : Tryd.prog.cellTypes Tryd.prog.depth 26 = some [3, 3, 3, 3, 3, 9, 3, 3, 3, 3, 3, 3, 3, 3, 3, 3, 3, 3] := by kernel_rfl
set_option maxRecDepth 100000 in
theorem open_rec {W : World} {r : Reach} {b0 : Nat} {v : Value} (hv : Value.okWide Tryd.prog W r b0 26 v) : ∃ x : Rc.R, v = Rc.val x ∧ Rc.In x := by
  obtain ⟨cs, rfl, hl, key⟩ := agg_open (ts := [3, 3, 3, 3, 3, 9, 3, 3, 3, 3, 3, 3, 3, 3, 3, 3, 3, 3]) rec_fields recCells rec_types hv
  clear hv
  have ki : ∀ j : Nat, ([3, 3, 3, 3, 3, 9, 3, 3, 3, 3, 3, 3, 3, 3, 3, 3, 3, 3] : List TypeId)[j]? = some 3 → ∃ n, cs[j]? = some (.int .i64 n) ∧ Spc.i64 n := fun j hj => by
    obtain ⟨c, e, k⟩ := key j _ hj
    obtain ⟨n, rfl, i⟩ := cell_int Tryd.underlying3 k
    exact ⟨n, e, i⟩
  obtain ⟨n0, e0, i0⟩ := ki 0 rfl
  obtain ⟨n1, e1, i1⟩ := ki 1 rfl
  obtain ⟨n2, e2, i2⟩ := ki 2 rfl
  obtain ⟨n3, e3, i3⟩ := ki 3 rfl
  obtain ⟨n4, e4, i4⟩ := ki 4 rfl
  obtain ⟨c5, e5, k5⟩ := key 5 _ rfl
  obtain ⟨s5, rfl, i5⟩ := cell_str Tryd.underlying9 k5
  obtain ⟨n6, e6, i6⟩ := ki 6 rfl
  obtain ⟨n7, e7, i7⟩ := ki 7 rfl
  obtain ⟨n8, e8, i8⟩ := ki 8 rfl
  obtain ⟨n9, e9, i9⟩ := ki 9 rfl
  obtain ⟨n10, e10, i10⟩ := ki 10 rfl
  obtain ⟨n11, e11, i11⟩ := ki 11 rfl
  obtain ⟨n12, e12, i12⟩ := ki 12 rfl
  obtain ⟨n13, e13, i13⟩ := ki 13 rfl
  obtain ⟨n14, e14, i14⟩ := ki 14 rfl
  obtain ⟨n15, e15, i15⟩ := ki 15 rfl
  obtain ⟨n16, e16, i16⟩ := ki 16 rfl
  obtain ⟨n17, e17, i17⟩ := ki 17 rfl
  clear key ki k5
  obtain ⟨a0, a1, a2, a3, a4, a5, a6, a7, a8, a9, a10, a11, a12, a13, a14, a15, a16, a17, rfl⟩ : ∃ a0 a1 a2 a3 a4 a5 a6 a7 a8 a9 a10 a11 a12 a13 a14 a15 a16 a17, cs = [a0, a1, a2, a3, a4, a5, a6, a7, a8, a9, a10, a11, a12, a13, a14, a15, a16, a17] := by
    clear e0 e1 e2 e3 e4 e5 e6 e7 e8 e9 e10 e11 e12 e13 e14 e15 e16 e17
    match cs, hl with
    | [a0, a1, a2, a3, a4, a5, a6, a7, a8, a9, a10, a11, a12, a13, a14, a15, a16, a17], _ => exact ⟨_, _, _, _, _, _, _, _, _, _, _, _, _, _, _, _, _, _, rfl⟩
  simp at e0 e1 e2 e3 e4 e5 e6 e7 e8 e9 e10 e11 e12 e13 e14 e15 e16 e17
  subst e0 e1 e2 e3 e4 e5 e6 e7 e8 e9 e10 e11 e12 e13 e14 e15 e16 e17
  refine ⟨⟨n0, n1, n2, n3, n4, s5, ⟨n6, n7, n8, n9, n10, n11, n12, n13, n14, n15, n16, n17⟩⟩, rfl, ?_, i5, ?_⟩
  · intro x hx
    simp only [Rc.nums, List.mem_cons, List.not_mem_nil, or_false] at hx
    rcases hx with rfl | rfl | rfl | rfl | rfl <;> assumption
  · intro n hn
    simp only [Spc.flds, List.mem_cons, List.not_mem_nil, or_false] at hn
    rcases hn with rfl | rfl | rfl | rfl | rfl | rfl | rfl | rfl | rfl | rfl | rfl | rfl <;> assumption
end Go.Proofs.YtifokcpkamdkeaaDoor
