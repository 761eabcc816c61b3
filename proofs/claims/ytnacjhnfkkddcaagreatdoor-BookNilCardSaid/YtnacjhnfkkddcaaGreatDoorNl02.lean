import Derived.Test.YtnacjhnfkkddcaaGreatDoorNl01
import Derived.OpenShut
import Derived.Laws.BytesArg
import Derived.Maps.AppendAt
import Derived.Deep.Slices
import Derived.Deep.WholeRow
import Derived.Lib.MinMax
import Derived.Handy
import Derived.BigRegion
import Derived.BigQuiet
import Derived.Deep.Cut
import Derived.Deep.DeepCutAuto
import Derived.Deep.RegionHeld3
import Derived.Laws.Cover1
import Derived.Laws.CopyOwn
import Derived.Laws.ResultCell
import Derived.Great.BuildSlice
import Derived.Deep.MidRow
import Derived.Maps.OwnSet
import Derived.Maps.OwnOps
import Derived.Maps.RangeWalk
import Derived.StringKeys
import Derived.Laws.IdiomRangeMap
namespace Go.Proofs.YtnacjhnfkkddcaaGreatDoor
open Go.RowKit
theorem arr_eq (a b c e a' b' c' e' : Int) (d : Nat) (W : World) : (Op.equalIn (d + 2) 33 (.agg #[.int .i64 a, .int .i64 b, .int .i64 c, .int .i64 e]) (.agg #[.int .i64 a', .int .i64 b', .int .i64 c', .int .i64 e'])).run Tryz.prog W = .ok ((a == a') && ((b == b') && ((c == c') && ((e == e') && true)))) W := by
  obtain ⟨i0, hi0, hz0, hz1, hz2⟩ := info_parts info_int
  rw [run_equalIn_array W (d + 1) _ _ steps_arr hi0, int_cells, show List.range 4 = [0, 1, 2, 3] from rfl]
  have hi : ∀ x y, (Op.equalIn (d + 1) 3 (.int .i64 x) (.int .i64 y)).run Tryz.prog W = .ok (x == y) W := fun x y => run_equalIn_int W d 3 .i64 .i64 x y Tryz.underlying3
  refine eqi_cons ?_ ?_ (hi _ _) (eqi_cons ?_ ?_ (hi _ _) (eqi_cons ?_ ?_ (hi _ _) (eqi_cons ?_ ?_ (hi _ _) eqi_nil)))
  all_goals simp [go_sem, Sem.run_bind, Result.andThen]
def Spc.same (s t : Spc.Sp) : Bool := (s.v == t.v) && ((s.d == t.d) && ((s.u == t.u) && ((s.n == t.n) && ((s.g == t.g) && (((s.a == t.a) && ((s.b == t.b) && ((s.c == t.c) && ((s.e == t.e) && true)))) && ((s.w == t.w) && ((s.x == t.x) && ((s.k == t.k) && true))))))))
theorem Spc.same_iff {s t : Spc.Sp} : Spc.same s t = true ↔ s = t := by
  unfold Spc.same
  simp only [Bool.and_eq_true, beq_iff_eq, and_true]
  constructor
  · rintro ⟨h1, h2, h3, h4, h5, ⟨h6, h7, h8, h9⟩, h10, h11, h12⟩
    cases s; cases t
    simp only at h1 h2 h3 h4 h5 h6 h7 h8 h9 h10 h11 h12
    subst h1 h2 h3 h4 h5 h6 h7 h8 h9 h10 h11 h12
    rfl
  · rintro rfl
    simp
set_option maxRecDepth 100000 in
set_option maxHeartbeats 1600000 in
theorem spec_eqIn (s t : Spc.Sp) (d : Nat) (W : World) : (Op.equalIn (d + 3) 35 (Spc.val s) (Spc.val t)).run Tryz.prog W = .ok (Spc.same s t) W := by
  unfold Spc.val
  rw [run_equalIn_agg W (d + 2) 35 _ _ spec_fields spec_stood]
  have hi : ∀ x y, (Op.equalIn (d + 2) 3 (.int .i64 x) (.int .i64 y)).run Tryz.prog W = .ok (x == y) W := fun x y => run_equalIn_int W (d + 1) 3 .i64 .i64 x y Tryz.underlying3
  have ha := arr_eq s.a s.b s.c s.e t.a t.b t.c t.e d W
  simp only [Program.fieldsOf, Tryz.underlying35, Spc.cells]
  unfold Spc.same
  refine eqf_cons (by decide) ?_ ?_ (hi _ _) (eqf_cons (by decide) ?_ ?_ (hi _ _) (eqf_cons (by decide) ?_ ?_ (hi _ _) (eqf_cons (by decide) ?_ ?_ (hi _ _) (eqf_cons (by decide) ?_ ?_ (hi _ _) (eqf_cons (by decide) ?_ ?_ ha (eqf_cons (by decide) ?_ ?_ (hi _ _) (eqf_cons (by decide) ?_ ?_ (hi _ _) (eqf_cons (by decide) ?_ ?_ (hi _ _) eqf_nil))))))))
  all_goals simp [go_sem, Sem.run_bind, Result.andThen]
theorem spec_eq (s t : Spc.Sp) (W : World) : (binOp .eql 35 (Spc.val s) (Spc.val t)).run Tryz.prog W = .ok (.bool (Spc.same s t)) W := by
  have h := spec_eqIn s t 9997 W
  unfold Spc.val at *
  rw [run_eql_struct, h]; rfl
end Go.Proofs.YtnacjhnfkkddcaaGreatDoor
namespace Go.Proofs.YtnacjhnfkkddcaaGreatDoor
open Go Go.RowKit
theorem agg_open {P : Program} {t : TypeId} {fs : Array Field} (hu : P.underlying t = some (.struct fs)) {ts : List TypeId} (hc : P.cellsOf t = ts.length) (ht : P.cellTypes P.depth t = some ts) {W : World} {r : Reach} {b0 : Nat} {v : Value} (h : Value.okWide P W r b0 t v) :
    ∃ cs : List Value, v = .agg cs.toArray ∧ cs.length = ts.length ∧ ∀ (j : Nat) (u : TypeId), ts[j]? = some u → ∃ c, cs[j]? = some c ∧ Cell.okWide P W r b0 u c := by
  unfold Value.okWide at h
  rw [hu] at h
  obtain ⟨cs, rfl, hsz, ts', hts, _, hall⟩ := h
  rw [ht] at hts
  obtain rfl := Option.some.inj hts
  rw [hc] at hsz
  refine ⟨cs.toList, by simp, by simpa using hsz, fun j u hj => ?_⟩
  have hjl : j < ts.length := (List.getElem?_eq_some_iff.1 hj).1
  obtain ⟨u', hu', hcell⟩ := hall j (cs[j]'(by omega)) (by simp [hsz, hjl])
  rw [Nat.mod_eq_of_lt hjl, hj] at hu'
  obtain rfl := Option.some.inj hu'
  exact ⟨_, by simp [hsz, hjl], hcell⟩
theorem cell_int {P : Program} {t : TypeId} (hu : P.underlying t = some (.int .i64)) {W : World} {r : Reach} {b0 : Nat} {v : Value} (h : Cell.okWide P W r b0 t v) : ∃ n, v = .int .i64 n ∧ -9223372036854775808 ≤ n ∧ n ≤ 9223372036854775807 := by
  unfold Cell.okWide at h
  rw [hu] at h
  cases v <;> simp [Cell.ok, hu] at h
  case int k n =>
    obtain ⟨rfl, h1⟩ := h
    refine ⟨n, rfl, ?_⟩
    simp [IntKind.has, IntKind.min, IntKind.max, IntKind.signed, IntKind.bits] at h1
    omega
theorem cell_str {P : Program} {t : TypeId} (hu : P.underlying t = some .string) {W : World} {r : Reach} {b0 : Nat} {v : Value} (h : Cell.okWide P W r b0 t v) : ∃ s, v = .string s ∧ s.size ≤ maxLen := by
  unfold Cell.okWide at h
  rw [hu] at h
  cases v <;> simp [Cell.ok, hu] at h
  case string s => exact ⟨s, rfl, by unfold maxLen; omega⟩
end Go.Proofs.YtnacjhnfkkddcaaGreatDoor
namespace Go.Proofs.YtnacjhnfkkddcaaGreatDoor
open Go.RowKit
def Rc.cells (r : Rc.R) : Array Value := #[.int .i64 r.kind, .int .i64 r.epoch, .int .i64 r.who, .int .i64 r.n, .int .i64 r.seq, .string r.text, .int .i64 r.sp.v, .int .i64 r.sp.d, .int .i64 r.sp.u, .int .i64 r.sp.n, .int .i64 r.sp.g, .int .i64 r.sp.a, .int .i64 r.sp.b, .int .i64 r.sp.c, .int .i64 r.sp.e, .int .i64 r.sp.w, .int .i64 r.sp.x, .int .i64 r.sp.k]
def Rc.val (r : Rc.R) : Value := .agg (Rc.cells r)
structure RcAt (w : World) (g : Nat) (r : Rc.R) : Prop where
  row : w.heap[g]? = some (.cells (Rc.cells r) 53 (0, 0))
theorem RcAt.new (w : World) (r : Rc.R) : RcAt (w.alloc (.cells (Rc.cells r) 53)) w.heap.size r := ⟨heap_alloc_new w _⟩
theorem RcAt.on {w w' : World} {g : Nat} {r : Rc.R} (h : RcAt w g r) (hb : Below w.heap.size w w') : RcAt w' g r := ⟨(hb.block g (Array.getElem?_eq_some_iff.1 h.row).1).trans h.row⟩
structure RcCs (w : World) (g : Nat) (r : Rc.R) : Prop where
  c0 : w.cell? ⟨g, 0, none⟩ = some (.int .i64 r.kind)
  c1 : w.cell? ⟨g, 1, none⟩ = some (.int .i64 r.epoch)
  c2 : w.cell? ⟨g, 2, none⟩ = some (.int .i64 r.who)
  c3 : w.cell? ⟨g, 3, none⟩ = some (.int .i64 r.n)
  c4 : w.cell? ⟨g, 4, none⟩ = some (.int .i64 r.seq)
  c5 : w.cell? ⟨g, 5, none⟩ = some (.string r.text)
  c6 : w.cell? ⟨g, 6, none⟩ = some (.int .i64 r.sp.v)
  c7 : w.cell? ⟨g, 7, none⟩ = some (.int .i64 r.sp.d)
  c8 : w.cell? ⟨g, 8, none⟩ = some (.int .i64 r.sp.u)
  c9 : w.cell? ⟨g, 9, none⟩ = some (.int .i64 r.sp.n)
  c10 : w.cell? ⟨g, 10, none⟩ = some (.int .i64 r.sp.g)
  c11 : w.cell? ⟨g, 11, none⟩ = some (.int .i64 r.sp.a)
  c12 : w.cell? ⟨g, 12, none⟩ = some (.int .i64 r.sp.b)
  c13 : w.cell? ⟨g, 13, none⟩ = some (.int .i64 r.sp.c)
  c14 : w.cell? ⟨g, 14, none⟩ = some (.int .i64 r.sp.e)
  c15 : w.cell? ⟨g, 15, none⟩ = some (.int .i64 r.sp.w)
  c16 : w.cell? ⟨g, 16, none⟩ = some (.int .i64 r.sp.x)
  c17 : w.cell? ⟨g, 17, none⟩ = some (.int .i64 r.sp.k)
  lt : g < w.heap.size
theorem RcAt.cs {w : World} {g : Nat} {r : Rc.R} (h : RcAt w g r) : RcCs w g r :=
  ⟨by rw [cell_of_row w g 0 _ _ _ h.row]; rfl, by rw [cell_of_row w g 1 _ _ _ h.row]; rfl, by rw [cell_of_row w g 2 _ _ _ h.row]; rfl, by rw [cell_of_row w g 3 _ _ _ h.row]; rfl, by rw [cell_of_row w g 4 _ _ _ h.row]; rfl, by rw [cell_of_row w g 5 _ _ _ h.row]; rfl,
   by rw [cell_of_row w g 6 _ _ _ h.row]; rfl, by rw [cell_of_row w g 7 _ _ _ h.row]; rfl, by rw [cell_of_row w g 8 _ _ _ h.row]; rfl, by rw [cell_of_row w g 9 _ _ _ h.row]; rfl, by rw [cell_of_row w g 10 _ _ _ h.row]; rfl, by rw [cell_of_row w g 11 _ _ _ h.row]; rfl,
   by rw [cell_of_row w g 12 _ _ _ h.row]; rfl, by rw [cell_of_row w g 13 _ _ _ h.row]; rfl, by rw [cell_of_row w g 14 _ _ _ h.row]; rfl, by rw [cell_of_row w g 15 _ _ _ h.row]; rfl, by rw [cell_of_row w g 16 _ _ _ h.row]; rfl, by rw [cell_of_row w g 17 _ _ _ h.row]; rfl, (Array.getElem?_eq_some_iff.1 h.row).1⟩
theorem rec_fields : Tryz.prog.underlying 53 = some (.struct (Tryz.prog.fieldsOf 53)) := by kernel_rfl
theorem recCells : Tryz.prog.cellsOf 53 = 18 := by kernel_rfl
theorem rec_types : Tryz.prog.cellTypes Tryz.prog.depth 53 = some [3, 3, 3, 3, 3, 9, 3, 3, 3, 3, 3, 3, 3, 3, 3, 3, 3, 3] := by kernel_rfl
set_option maxRecDepth 100000 in
theorem open_rec {W : World} {r : Reach} {b0 : Nat} {v : Value} (hv : Value.okWide Tryz.prog W r b0 53 v) : ∃ x : Rc.R, v = Rc.val x ∧ Rc.In x := by
  obtain ⟨cs, rfl, hl, key⟩ := agg_open (ts := [3, 3, 3, 3, 3, 9, 3, 3, 3, 3, 3, 3, 3, 3, 3, 3, 3, 3]) rec_fields recCells rec_types hv
  clear hv
  have ki : ∀ j : Nat, ([3, 3, 3, 3, 3, 9, 3, 3, 3, 3, 3, 3, 3, 3, 3, 3, 3, 3] : List TypeId)[j]? = some 3 → ∃ n, cs[j]? = some (.int .i64 n) ∧ Spc.i64 n := fun j hj => by
    obtain ⟨c, e, k⟩ := key j _ hj
    obtain ⟨n, rfl, i⟩ := cell_int Tryz.underlying3 k
    exact ⟨n, e, i⟩
  obtain ⟨n0, e0, i0⟩ := ki 0 rfl
  obtain ⟨n1, e1, i1⟩ := ki 1 rfl
  obtain ⟨n2, e2, i2⟩ := ki 2 rfl
  obtain ⟨n3, e3, i3⟩ := ki 3 rfl
  obtain ⟨n4, e4, i4⟩ := ki 4 rfl
  obtain ⟨c5, e5, k5⟩ := key 5 _ rfl
  obtain ⟨s5, rfl, i5⟩ := cell_str Tryz.underlying9 k5
  obtain ⟨n6, e6, i6⟩ := ki 6 rfl
  obtain ⟨n7, e7, i7⟩ := ki 7 rfl
  obtain ⟨n8, e8, i8⟩ := ki 8 rfl
  obtain ⟨n9, e9, i9⟩ := ki 9 rfl
  obtain ⟨n10, e10, i10⟩ := ki 10 rfl
  obtain ⟨n11, e11, i11⟩ := ki 11 rfl
  obtain ⟨n12, e12, i12⟩ := ki 12 rfl
  obtain ⟨n13, e13, i13⟩ := ki 13 rfl
  obtain ⟨n14, e14, i14⟩ := ki 14 rfl
  obtain ⟨n15, e15, i15⟩ := ki 15 rfl
  obtain ⟨n16, e16, i16⟩ := ki 16 rfl
  obtain ⟨n17, e17, i17⟩ := ki 17 rfl
  clear key ki k5
  obtain ⟨a0, a1, a2, a3, a4, a5, a6, a7, a8, a9, a10, a11, a12, a13, a14, a15, a16, a17, rfl⟩ : ∃ a0 a1 a2 a3 a4 a5 a6 a7 a8 a9 a10 a11 a12 a13 a14 a15 a16 a17, cs = [a0, a1, a2, a3, a4, a5, a6, a7, a8, a9, a10, a11, a12, a13, a14, a15, a16, a17] := by
    clear e0 e1 e2 e3 e4 e5 e6 e7 e8 e9 e10 e11 e12 e13 e14 e15 e16 e17
    match cs, hl with
    | [a0, a1, a2, a3, a4, a5, a6, a7, a8, a9, a10, a11, a12, a13, a14, a15, a16, a17], _ => exact ⟨_, _, _, _, _, _, _, _, _, _, _, _, _, _, _, _, _, _, rfl⟩
  simp at e0 e1 e2 e3 e4 e5 e6 e7 e8 e9 e10 e11 e12 e13 e14 e15 e16 e17
  subst e0 e1 e2 e3 e4 e5 e6 e7 e8 e9 e10 e11 e12 e13 e14 e15 e16 e17
  refine ⟨⟨n0, n1, n2, n3, n4, s5, ⟨n6, n7, n8, n9, n10, n11, n12, n13, n14, n15, n16, n17⟩⟩, rfl, ?_, i5, ?_⟩
  · intro x hx
    simp only [Rc.nums, List.mem_cons, List.not_mem_nil, or_false] at hx
    rcases hx with rfl | rfl | rfl | rfl | rfl <;> assumption
  · intro n hn
    simp only [Spc.flds, List.mem_cons, List.not_mem_nil, or_false] at hn
    rcases hn with rfl | rfl | rfl | rfl | rfl | rfl | rfl | rfl | rfl | rfl | rfl | rfl <;> assumption
end Go.Proofs.YtnacjhnfkkddcaaGreatDoor
namespace Go.Proofs.YtnacjhnfkkddcaaGreatDoor
open Go.RowKit Go.Deep
structure SlR {T : Type} (K : Nat) (E : World → List Value → T → Prop) (w : World) (A : Option Addr) (n c : Nat) (ts : List T) : Prop where
  rd : ∀ j t, ts[j]? = some t → ∃ b o cs, A = some ⟨b, o, none⟩ ∧ b < w.heap.size ∧ cs.length = K ∧ (∀ i, i < K → w.cell? ⟨b, o + j * K + i, none⟩ = cs[i]?) ∧ E w cs t
  len : n = ts.length
  cap : n ≤ c
  max : c ≤ maxLen
  nil : A = none → c = 0
section
variable {T : Type} {K : Nat} {E : World → List Value → T → Prop}
section
variable {G : List Value → Option Nat} {e : TypeId} {w0 w w' : World} {B : Nat} {v : Value} {ts : List T}
end
end
end Go.Proofs.YtnacjhnfkkddcaaGreatDoor
namespace Go.Proofs.YtnacjhnfkkddcaaGreatDoor
open Go.RowKit
structure Kept (F : Nat → Prop) (w w' : World) : Prop where
  os : w'.os = w.os
  tape : w'.tape = w.tape
  output : w'.output = w.output
  size : w.heap.size ≤ w'.heap.size
  block : ∀ i, i < w.heap.size → ¬ F i → w'.heap[i]? = w.heap[i]?
theorem Kept.trans {F G : Nat → Prop} {a b c : World} (h : Kept F a b) (k : Kept G b c) (hG : ∀ i, i < a.heap.size → G i → F i) : Kept F a c :=
  ⟨k.os.trans h.os, k.tape.trans h.tape, k.output.trans h.output, Nat.le_trans h.size k.size, fun i hi hF => (k.block i (Nat.lt_of_lt_of_le hi h.size) (fun hg => hF (hG i hi hg))).trans (h.block i hi hF)⟩
theorem Kept.more {F G : Nat → Prop} {a b : World} (h : Kept F a b) (hG : ∀ i, i < a.heap.size → F i → G i) : Kept G a b := ⟨h.os, h.tape, h.output, h.size, fun i hi hg => h.block i hi (fun hf => hg (hG i hi hf))⟩
theorem Kept.of_grown {F : Nat → Prop} {w w' : World} {row : Option Nat} (h : w.grownBy w' row) (hr : ∀ k, row = some k → F k) : Kept F w w' :=
  ⟨h.os, h.tape, h.output, h.size, fun i hi hF => h.block i hi (fun e => hF (hr i e.symm))⟩
theorem Kept.of_below {F : Nat → Prop} {w w' : World} (h : Below w.heap.size w w') : Kept F w w' := ⟨h.os, h.tape, h.output, h.size, fun i hi _ => h.block i hi⟩
theorem Kept.below {F : Nat → Prop} {w w' : World} {B : Nat} (h : Kept F w w') (hB : B ≤ w.heap.size) (hF : ∀ i, F i → B ≤ i) : Below B w w' :=
  ⟨h.os, h.tape, h.output, h.size, fun i hi => h.block i (by omega) (fun hf => by have := hF i hf; omega)⟩
theorem blk_on {W W' : World} {g : Nat} {o : Obj} (h : W.heap[g]? = some o) (hb : Below W.heap.size W W') : W'.heap[g]? = some o := (hb.block g (Array.getElem?_eq_some_iff.1 h).1).trans h
end Go.Proofs.YtnacjhnfkkddcaaGreatDoor
namespace Go.Proofs.YtnacjhnfkkddcaaGreatDoor
open Go.RowKit
section
variable {T : Type} {enc : T → List Value} {K : Nat}
theorem flat_len (hK : ∀ t, (enc t).length = K) (ts : List T) : (ts.flatMap enc).length = ts.length * K := by
  induction ts with
  | nil => simp
  | cons t ts ih => rw [List.flatMap_cons, List.length_append, ih, hK, List.length_cons, Nat.succ_mul]; omega
theorem flat_take (hK : ∀ t, (enc t).length = K) (ts : List T) (k : Nat) : (ts.take k).flatMap enc = (ts.flatMap enc).take (k * K) := by
  induction ts generalizing k with
  | nil => simp
  | cons t ts ih =>
    cases k with
    | zero => simp
    | succ k => rw [List.take_succ_cons, List.flatMap_cons, List.flatMap_cons, ih, Nat.succ_mul, List.take_append, hK, show k * K + K - K = k * K by omega, List.take_of_length_le (l := enc t) (by rw [hK]; omega)]
theorem flat_drop (hK : ∀ t, (enc t).length = K) (ts : List T) (k : Nat) : (ts.drop k).flatMap enc = (ts.flatMap enc).drop (k * K) := by
  induction ts generalizing k with
  | nil => simp
  | cons t ts ih =>
    cases k with
    | zero => simp
    | succ k => rw [List.drop_succ_cons, List.flatMap_cons, ih, Nat.succ_mul, List.drop_append, hK, show k * K + K - K = k * K by omega, List.drop_eq_nil_of_le («as» := enc t) (by rw [hK]; omega), List.nil_append]
theorem flat_get (hK : ∀ t, (enc t).length = K) {ts : List T} {q : Nat} {t : T} (hq : ts[q]? = some t) {i : Nat} (hi : i < K) : (ts.flatMap enc)[q * K + i]? = (enc t)[i]? := by
  have h1 := flat_drop hK ts q
  have hl := (List.getElem?_eq_some_iff.1 hq).1
  have h2 : ts.drop q = t :: ts.drop (q + 1) := by
    rw [List.drop_eq_getElem_cons hl, (List.getElem?_eq_some_iff.1 hq).2]
  rw [h2, List.flatMap_cons] at h1
  rw [← List.getElem?_drop, ← h1, List.getElem?_append_left (by rw [hK]; exact hi)]
structure SlF (enc : T → List Value) (w : World) (A : Option Addr) (n c : Nat) (ts : List T) : Prop where
  rd : 0 < ts.length → ∃ b o, A = some ⟨b, o, none⟩ ∧ b < w.heap.size ∧ ∀ j u, (ts.flatMap enc)[j]? = some u → w.cell? ⟨b, o + j, none⟩ = some u
  len : n = ts.length
  cap : n ≤ c
  max : c ≤ maxLen
  nil : A = none → c = 0
theorem SlF.none_ (w : World) : SlF enc w none 0 0 [] := ⟨by simp, rfl, Nat.le_refl _, Nat.zero_le _, fun _ => rfl⟩
theorem SlF.keep {w w' : World} {A : Option Addr} {n c : Nat} {ts : List T} (h : SlF enc w A n c ts) (hs : w.heap.size ≤ w'.heap.size) (hk : ∀ b o, A = some ⟨b, o, none⟩ → 0 < ts.length → w'.heap[b]? = w.heap[b]?) : SlF enc w' A n c ts :=
  ⟨fun hl => by
    obtain ⟨b, o, h1, h2, h3⟩ := h.rd hl
    exact ⟨b, o, h1, by omega, fun j u hj => (World.cell?_of_block (hk b o h1 hl)).trans (h3 j u hj)⟩, h.len, h.cap, h.max, h.nil⟩
theorem SlF.on {w w' : World} {A : Option Addr} {n c : Nat} {ts : List T} (h : SlF enc w A n c ts) (hb : Below w.heap.size w w') : SlF enc w' A n c ts :=
  h.keep hb.size fun b o he hl => by
    obtain ⟨b', o', h1, h2, _⟩ := h.rd hl
    rw [he] at h1; injection h1 with h1; injection h1 with h1 _
    exact hb.block b (by omega)
theorem SlF.at_ (hK : ∀ t, (enc t).length = K) {w : World} {A : Option Addr} {n c : Nat} {ts : List T} (h : SlF enc w A n c ts) {q : Nat} {t : T} (hq : ts[q]? = some t) : ∃ b o, A = some ⟨b, o, none⟩ ∧ b < w.heap.size ∧ ∀ i u, (enc t)[i]? = some u → w.cell? ⟨b, o + q * K + i, none⟩ = some u := by
  obtain ⟨b, o, h1, h2, h3⟩ := h.rd (by have := (List.getElem?_eq_some_iff.1 hq).1; omega)
  refine ⟨b, o, h1, h2, fun i u hi => ?_⟩
  have hlt : i < K := by have := (List.getElem?_eq_some_iff.1 hi).1; rw [hK] at this; exact this
  rw [Nat.add_assoc]
  exact h3 _ u (by rw [flat_get hK hq hlt]; exact hi)
def OwF (enc : T → List Value) (K : Nat) (e : TypeId) (w : World) (B : Nat) (v : Value) (ts : List T) : Prop := w.ownsRow B e K v ts.length (ts.flatMap enc)
section
variable {e : TypeId} {w w' : World} {B : Nat} {v : Value} {ts : List T}
theorem OwF.none_ (e : TypeId) (w : World) (B : Nat) : OwF enc K e w B (.slice none 0 0) [] := World.ownsRow_nil _ _ _ _
theorem OwF.below (h : OwF enc K e w B v ts) (hb : Below w.heap.size w w') : OwF enc K e w' B v ts := own_below h hb
theorem OwF.kept {g : Nat} (h : OwF enc K e w B v ts) (hg : w.grownBy w' (some g)) (hv : v.ownBlock ≠ some g) : OwF enc K e w' B v ts := World.ownsRow.kept h hg (.inr hv)
theorem OwF.keep (h : OwF enc K e w B v ts) (hk : ∀ k, v.ownBlock = some k → w'.heap[k]? = w.heap[k]?) : OwF enc K e w' B v ts := by
  refine ⟨h.1, ?_⟩
  rcases h.2 with h3 | ⟨g, cap, cur, rfl, hg, hh, r⟩
  · exact .inl h3
  · exact .inr ⟨g, cap, cur, rfl, hg, (hk g rfl).trans hh, r⟩
theorem OwF.lt (h : OwF enc K e w B v ts) : ∀ k, v.ownBlock = some k → B ≤ k ∧ k < w.heap.size := World.ownsRow.lt h
theorem OwF.form (h : OwF enc K e w B v ts) : ∃ A c, v = .slice A ts.length c := by
  rcases h.2 with ⟨rfl, h0⟩ | ⟨g, cap, cur, rfl, _⟩
  · exact ⟨none, 0, by rw [h0]⟩
  · exact ⟨_, cap, rfl⟩
theorem OwF.len {n c : Nat} {A : Option Addr} (h : OwF enc K e w B (.slice A n c) ts) : n = ts.length ∧ n ≤ c ∧ c ≤ maxLen := by
  rcases h.2 with ⟨h2, h3⟩ | ⟨g, cap, cur, h2, _, _, h3, h4, _⟩
  · injection h2 with _ h4 h5; subst h4 h5; exact ⟨h3.symm, Nat.le_refl _, Nat.zero_le _⟩
  · injection h2 with _ h5 h6; subst h5 h6; exact ⟨rfl, h3, h4⟩
theorem OwF.sl {n c : Nat} {A : Option Addr} (h : OwF enc K e w B (.slice A n c) ts) : SlF enc w A n c ts := by
  have hl := h.len
  rcases h.2 with ⟨h2, h3⟩ | ⟨g, cap, cur, h2, _, hh, h3, h4, h5, h6⟩
  · injection h2 with h7 h8 h9; subst h7 h8 h9
    obtain rfl : ts = [] := List.eq_nil_of_length_eq_zero h3
    exact SlF.none_ w
  · injection h2 with h7 h8 h9; subst h7 h8 h9
    refine ⟨fun _ => ⟨g, 0, rfl, (Array.getElem?_eq_some_iff.1 hh).1, fun j u hj => ?_⟩, rfl, h3, h4, fun hn => by cases hn⟩
    rw [cell_of_row w g (0 + j) _ _ _ hh, Nat.zero_add]
    rw [← h6, List.getElem?_take] at hj
    split at hj
    · simpa using hj
    · cases hj
end
theorem wpList_append_all {P : Program} {e sl : TypeId} {z : Value} {by_ : Nat} (hK : ∀ t, (enc t).length = K) (h1c : ∀ t, ∀ u ∈ enc t, u.oneCell' = true) (hsl : P.underlying sl = some (.slice e)) (hi0 : (P.info? e).map (fun i => (i.zero, i.size, i.bytes)) = some (some z, K, by_)) (hzs : z.cells.size = K) (hK0 : 0 < K)
    {w : World} {ops : Array Oper} {rest : List Oper} {op : Oper} {a : Act} {Q : Exit → Act → World → Prop} (hgd : op.guard = none) (s x : Operand)
    (ho : op.op = .call { callee := .builtin .append, args := #[s, x], argTypes := #[sl, sl] })
    (base : Nat) (v : Value) (ts us : List T) (hs : a.eval s = v) (hown : OwF enc K e w base v ts) {A : Option Addr} {n c : Nat} (hx : a.eval x = .slice A n c) (hr : SlF enc w A n c us)
    (hlen : ts.length + us.length ≤ maxLen) (hbytes : (ts.length + us.length) * by_ ≤ 140737488355328) (hB : base ≤ w.heap.size)
    (h : ∀ v' w', OwF enc K e w' base v' (ts ++ us) → Below base w w' → w.grownBy w' v.ownBlock → (v'.ownBlock = v.ownBlock ∨ ∃ k, v'.ownBlock = some k ∧ w.heap.size ≤ k) → wpList P ops Q rest (a.put op.dst v') w') : wpList P ops Q (op :: rest) a w := by
  obtain ⟨i0, hi, hz0, hz1, hz2⟩ := info_parts hi0
  rcases A with _ | ad
  · obtain rfl := hr.nil rfl
    have hn : us = [] := by
      rcases us with _ | ⟨y, l⟩
      · rfl
      · obtain ⟨_, _, h0, _⟩ := hr.rd (by simp); cases h0
    subst hn
    obtain rfl := hr.len
    refine wpList_append_own_none hgd s x sl ho base e i0 K hsl hi v ts.length _ hs hown hx ?_
    exact h v w (by rw [List.append_nil]; exact hown) (Below.refl _ _) (grown_below _ (Below.refl _ _)) (.inl rfl)
  · have hcells : ∀ j u, (us.flatMap enc)[j]? = some u → w.cell? (ad.add j) = some u := by
      intro j u hj
      have hl : 0 < us.length := by
        rcases us with _ | ⟨y, l⟩
        · simp at hj
        · simp
      obtain ⟨b, o, e1, _, hc⟩ := hr.rd hl
      injection e1 with e1
      subst e1
      have : ((⟨b, o, none⟩ : Addr).add j) = ⟨b, o + j, none⟩ := by unfold Addr.add; split <;> simp_all
      rw [this]
      exact hc j u hj
    have hn := hr.len
    subst hn
    refine wpList_append_own_at w hgd s x sl ho base e i0 z K by_ hsl hi hz0 hz1 hz2 hzs hK0 v ts.length _ hs hown ad us.length c (us.flatMap enc) hx (flat_len hK us) hcells (fun u hu => ?_) hlen hbytes hB ?_
    · obtain ⟨t, _, ht⟩ := List.mem_flatMap.1 hu
      exact h1c t u ht
    · intro v' w' h1 h2 _ hvo
      refine h v' w' ?_ ((Below.refl base w).grown h2 hB (own_base hown)) h2 (hvo.imp id fun e => ⟨_, e, Nat.le_refl _⟩)
      unfold OwF
      rw [List.flatMap_append, List.length_append]
      exact h1
end
end Go.Proofs.YtnacjhnfkkddcaaGreatDoor
namespace Go.Proofs.YtnacjhnfkkddcaaGreatDoor
open Go.RowKit
set_option linter.unusedSimpArgs false
structure Le where
  who : Int
  ep : Int
  till : Int
namespace Bk
def rcC (r : Rc.R) : List Value := (Rc.cells r).toList
theorem rcC_len (r : Rc.R) : (rcC r).length = 18 := rfl
theorem rcC_one (r : Rc.R) : ∀ u ∈ rcC r, u.oneCell' = true := by
  intro u hu
  simp [rcC, Rc.cells] at hu
  rcases hu with rfl | rfl | rfl | rfl | rfl | rfl | rfl | rfl | rfl | rfl | rfl | rfl | rfl | rfl | rfl | rfl | rfl | rfl <;> rfl
def tl (s : St) : List Le := if s.ep = 0 then [] else [⟨s.who, s.ep, s.till⟩]
def cells (s : St) (L V H : Value) : Array Value := #[.int .i64 s.m, L, V, .int .i64 s.ep, .int .i64 s.who, .int .i64 s.till, .int .i64 s.stable, .int .i64 s.from_, .int .i64 s.ph, .int .i64 s.step, .int .i64 s.since, .int .i64 s.begun, .int .i64 s.seq, .int .i64 s.sp.v, .int .i64 s.sp.d, .int .i64 s.sp.u, .int .i64 s.sp.n, .int .i64 s.sp.g, .int .i64 s.sp.a, .int .i64 s.sp.b, .int .i64 s.sp.c, .int .i64 s.sp.e, .int .i64 s.sp.w, .int .i64 s.sp.x, .int .i64 s.sp.k, .int .i64 (s.us 0).v, .int .i64 (s.us 0).q, .bool (s.us 0).d, .int .i64 (s.us 1).v, .int .i64 (s.us 1).q, .bool (s.us 1).d, .int .i64 (s.us 2).v, .int .i64 (s.us 2).q, .bool (s.us 2).d, .int .i64 (s.us 3).v, .int .i64 (s.us 3).q, .bool (s.us 3).d, .int .i64 (s.us 4).v, .int .i64 (s.us 4).q, .bool (s.us 4).d, .int .i64 (s.us 5).v, .int .i64 (s.us 5).q, .bool (s.us 5).d, .int .i64 (s.us 6).v, .int .i64 (s.us 6).q, .bool (s.us 6).d, .int .i64 (s.us 7).v, .int .i64 (s.us 7).q, .bool (s.us 7).d, .int .i64 (s.us 8).v, .int .i64 (s.us 8).q, .bool (s.us 8).d, .int .i64 (s.us 9).v, .int .i64 (s.us 9).q, .bool (s.us 9).d, .int .i64 (s.us 10).v, .int .i64 (s.us 10).q, .bool (s.us 10).d, .int .i64 (s.us 11).v, .int .i64 (s.us 11).q, .bool (s.us 11).d, .int .i64 (s.us 12).v, .int .i64 (s.us 12).q, .bool (s.us 12).d, .int .i64 (s.us 13).v, .int .i64 (s.us 13).q, .bool (s.us 13).d, .int .i64 (s.us 14).v, .int .i64 (s.us 14).q, .bool (s.us 14).d, .int .i64 (s.us 15).v, .int .i64 (s.us 15).q, .bool (s.us 15).d, H]
def none_ : St := ⟨0, 0, 0, 0, 0, 0, 0, 0, 0, 0, 0, Spc.zero, fun _ => ⟨0, 0, false⟩, [], []⟩
end Bk
section
variable {w w' : World} {g : Nat} {s : Bk.St} {L V H : Value}
end
theorem rc_info : (Tryz.prog.info? 53).map (fun i => (i.zero, i.size, i.bytes)) = some (some (.agg #[.int .i64 0, .int .i64 0, .int .i64 0, .int .i64 0, .int .i64 0, .string ⟨#[]⟩, .int .i64 0, .int .i64 0, .int .i64 0, .int .i64 0, .int .i64 0, .int .i64 0, .int .i64 0, .int .i64 0, .int .i64 0, .int .i64 0, .int .i64 0, .int .i64 0]), 18, 152) := by kernel_rfl
end Go.Proofs.YtnacjhnfkkddcaaGreatDoor
namespace Go.Proofs.YtnacjhnfkkddcaaGreatDoor
open Go.RowKit
set_option linter.unusedSimpArgs false
set_option linter.unusedVariables false
def i64P (n : Int) : Prop := -9223372036854775808 ≤ n ∧ n ≤ 9223372036854775807
def PhPost (w : World) (a : Value) (b : Value) (e : Ending) (w' : World) : Prop := e = .returned (.tuple #[a, b]) ∧ Below w.heap.size w w'
def PhRet (w : World) (a : Value) (e : Ending) (w' : World) : Prop := e = .returned a ∧ Below w.heap.size w w'
end Go.Proofs.YtnacjhnfkkddcaaGreatDoor
namespace Go.Proofs.YtnacjhnfkkddcaaGreatDoor
section
variable {P : Program} {ops : Array Oper} {Q : Exit → Act → World → Prop} {S : World → Prop} {fuel : Nat} {listed : Array Bool} {a : Act} {w : World}
theorem tkYes (i : Nat) {oi : Oper} {v : Value} (hi : ops.toList[i]? = some oi)
    (hk : (Region.noSelect ops && (Region.free .any ops listed i && (Region.ready .any ops listed).contains i)) = true)
    (hQ : ∀ c a w, Q (.panic c) (a.put oi.dst v) w → Q (.panic c) a w) (hw : Region.wanted oi (yielded ops a.tmps) = true)
    (hy : ∀ w, S w → (execOp a.eval oi).run P w = .ok (.value v) w) (hS : S w)
    (h : wpAnyH P .any ops Q S fuel (listed.setIfInBounds i true) (a.put oi.dst v) w) : wpAnyH P .any ops Q S (fuel + 1) listed a w := by
  simp only [Bool.and_eq_true] at hk
  exact wpAnyH_take (by simpa using hi) hk.1 hk.2.1 hk.2.2 hQ (.inl ⟨hw, hy⟩) hS h
theorem tkNo (i : Nat) {oi : Oper} (hi : ops.toList[i]? = some oi)
    (hk : (Region.noSelect ops && (Region.free .any ops listed i && (Region.ready .any ops listed).contains i)) = true)
    (hQ : ∀ c a w, Q (.panic c) (a.put oi.dst undef) w → Q (.panic c) a w) (hw : Region.wanted oi (yielded ops a.tmps) = false) (hS : S w)
    (h : wpAnyH P .any ops Q S fuel (listed.setIfInBounds i true) (a.put oi.dst undef) w) : wpAnyH P .any ops Q S (fuel + 1) listed a w := by
  simp only [Bool.and_eq_true] at hk
  exact wpAnyH_take (by simpa using hi) hk.1 hk.2.1 hk.2.2 hQ (.inr ⟨hw, rfl⟩) hS h
theorem rnOne (i : Nat) {oi : Oper} (hi : ops.toList[i]? = some oi) (hr : Region.ready .any ops listed = [i]) (hw : Region.wanted oi (yielded ops a.tmps) = true)
    (h : ∀ K : Act → World → Prop, Shut (∀ a w, S w → (S w → wpAnyH P .any ops Q S fuel (listed.setIfInBounds i true) a w) → K a w) → Oper.wp P oi a w K Q) :
    wpAnyH P .any ops Q S (fuel + 1) listed a w :=
  wpAnyH_ready hr (by simp) (AllReadyH.cons (o := oi) (by simpa using hi) (fun K hK => by rw [if_pos hw]; exact h K hK) AllReadyH.nil)
theorem rnTwo (i j : Nat) {oi oj : Oper} (hi : ops.toList[i]? = some oi) (hj : ops.toList[j]? = some oj) (hr : Region.ready .any ops listed = [i, j])
    (hw : Region.wanted oi (yielded ops a.tmps) = true) (hwj : Region.wanted oj (yielded ops a.tmps) = true)
    (h : ∀ K : Act → World → Prop, Shut (∀ a w, S w → (S w → wpAnyH P .any ops Q S fuel (listed.setIfInBounds i true) a w) → K a w) → Oper.wp P oi a w K Q)
    (h2 : ∀ K : Act → World → Prop, Shut (∀ a w, S w → (S w → wpAnyH P .any ops Q S fuel (listed.setIfInBounds j true) a w) → K a w) → Oper.wp P oj a w K Q) :
    wpAnyH P .any ops Q S (fuel + 1) listed a w :=
  wpAnyH_ready hr (by simp) (AllReadyH.cons (o := oi) (by simpa using hi) (fun K hK => by rw [if_pos hw]; exact h K hK) (AllReadyH.cons (o := oj) (by simpa using hj) (fun K hK => by rw [if_pos hwj]; exact h2 K hK) AllReadyH.nil))
end
end Go.Proofs.YtnacjhnfkkddcaaGreatDoor
namespace Go.Proofs.YtnacjhnfkkddcaaGreatDoor
open Go.RowKit
def APos (w : World) (x : Value) (e : Ending) (w' : World) : Prop := e = .returned x ∧ Below w.heap.size w w'
end Go.Proofs.YtnacjhnfkkddcaaGreatDoor
namespace Go.Proofs.YtnacjhnfkkddcaaGreatDoor
open Go.RowKit
set_option linter.unusedSimpArgs false
def CPost (s : Spc.Sp) (w : World) (e : Ending) (w' : World) : Prop := e = .returned (.tuple #[.int .i64 (Spc.chk s : Nat), .int .i64 (Spc.chkE s)]) ∧ Below w.heap.size w w'
theorem CPost.mk {s : Spc.Sp} {w w' : World} {x y : Int} {z : Nat} (h : Spc.chk s = z) (hx : x = (z : Int)) (hy : y = if z = 0 then 0 else 11) (hb : Below w.heap.size w w') : CPost s w (.returned (.tuple #[.int .i64 x, .int .i64 y])) w' := by
  refine ⟨?_, hb⟩
  have : Spc.chkE s = if z = 0 then 0 else 11 := by unfold Spc.chkE; rw [h]
  rw [this, h, hx, hy]
end Go.Proofs.YtnacjhnfkkddcaaGreatDoor
namespace Go.Proofs.YtnacjhnfkkddcaaGreatDoor
open Go.RowKit
set_option linter.unusedSimpArgs false
theorem size_text {t : ByteArray} (h : t.size ≤ maxLen) : (t.size : Int) ≤ 9223372036854775807 := by unfold maxLen at h; omega
theorem text_empty (t : ByteArray) : t.toList.isEmpty = decide (t.size = 0) := by
  rw [ByteArray.toList_eq, Bool.eq_iff_iff, List.isEmpty_iff, decide_eq_true_eq]
  constructor
  · intro h
    have : t.data.toList.length = 0 := by rw [h]; rfl
    rw [Array.length_toList] at this
    exact this
  · intro h
    exact List.length_eq_zero_iff.1 (by rw [Array.length_toList]; exact h)
end Go.Proofs.YtnacjhnfkkddcaaGreatDoor
namespace Go.Proofs.YtnacjhnfkkddcaaGreatDoor
open Go.RowKit
set_option linter.unusedSimpArgs false
set_option linter.unusedVariables false
theorem rec_size (r : Rc.R) : (Tryz.prog.info? 53).map (·.size) = some (Rc.cells r).size := by kernel_rfl
end Go.Proofs.YtnacjhnfkkddcaaGreatDoor
namespace Go.Proofs.YtnacjhnfkkddcaaGreatDoor
open Go.RowKit
set_option linter.unusedSimpArgs false
theorem wpList_load_want {P : Program} {ops : Array Oper} {rest : List Oper} {o : Oper} {a : Act} {w : World} {Q : Exit → Act → World → Prop} (hgd : Region.wanted o (yielded ops a.tmps) = true) (ty : TypeId) (x : Operand) (ho : o.op = .load ty x)
    (g : Nat) (hx : a.eval x = .pointer (some ⟨g, 0, none⟩)) (t : TypeId) (cs : Array Value) (fr : Nat × Nat) (d : TypeDesc) (hg : w.heap[g]? = some (.cells cs t fr))
    (hu : P.underlying ty = some d) (hd : (match d with | .struct _ | .array _ _ => true | _ => false) = true) (hi : (P.info? ty).map (·.size) = some cs.size)
    (h : wpList P ops Q rest (a.put o.dst (.agg cs)) w) : wpList P ops Q (o :: rest) a w := by
  simp only [wpList, hgd, if_true]
  exact .inl (wp_load_row ty x ho g hx t cs fr d hg hu hd hi h)
theorem Rc.one_cell (r : Rc.R) : (Rc.cells r).all (·.oneCell') = true := by simp [Rc.cells, Value.oneCell']
theorem wpList_store_rec {ops : Array Oper} {rest : List Oper} {op : Oper} {a : Act} {w : World} {Q : Exit → Act → World → Prop} (hgd : op.guard = none) (x y : Operand) (ho : op.op = .store 53 x y)
    (g : Nat) (r s : Rc.R) (hx : a.eval x = .pointer (some ⟨g, 0, none⟩)) (hy : a.eval y = .agg (Rc.cells r)) (hg : RcAt w g s)
    (h : wpList Tryz.prog ops Q rest (a.put op.dst undef) (w.setRow g (Rc.cells r))) : wpList Tryz.prog ops Q (op :: rest) a w :=
  wpList_plain hgd fun _ hK => wp_store_row 53 x y ho g (Rc.cells r) hx hy 53 _ hg.row (rec_size r) rfl (Rc.one_cell r) (hK _ _ h)
end Go.Proofs.YtnacjhnfkkddcaaGreatDoor
namespace Go.Proofs.YtnacjhnfkkddcaaGreatDoor
open Go.RowKit
set_option linter.unusedSimpArgs false
section
variable {w : World} {ops : Array Oper} {rest : List Oper} {op : Oper} {a : Act} {Q : Exit → Act → World → Prop} {g : Nat} {s s2 : Bk.St} {L V H L2 V2 H2 : Value}
theorem setRow_size (w : World) (g : Nat) (cs : Array Value) : (w.setRow g cs).heap.size = w.heap.size := by simp [World.setRow]
end
namespace Bk
end Bk
end Go.Proofs.YtnacjhnfkkddcaaGreatDoor
namespace Go.Proofs.YtnacjhnfkkddcaaGreatDoor
open Go.RowKit
set_option linter.unusedSimpArgs false
set_option linter.unusedVariables false
theorem same_text {a b : ByteArray} : (a.toList == b.toList) = decide (a = b) := by
  rw [Bool.eq_iff_iff, beq_iff_eq, decide_eq_true_eq]
  constructor
  · intro h
    rw [ByteArray.toList_eq, ByteArray.toList_eq] at h
    exact ByteArray.ext (Array.ext' h)
  · rintro rfl; rfl
end Go.Proofs.YtnacjhnfkkddcaaGreatDoor
namespace Go.Proofs.YtnacjhnfkkddcaaGreatDoor
open Go.RowKit
set_option linter.unusedSimpArgs false
theorem rc_range {w : World} {A : Option Addr} {n c : Nat} {ts : List Rc.R} (h : SlF Bk.rcC w A n c ts) {q : Nat} {t : Rc.R} (hq : ts[q]? = some t) : ∃ b o, A = some ⟨b, o, none⟩ ∧ b < w.heap.size ∧ w.rangeAt b (o + q * 18) (Rc.cells t).toList := by
  obtain ⟨b, o, h1, h2, h3⟩ := h.at_ Bk.rcC_len hq
  exact ⟨b, o, h1, h2, fun i u hi => h3 i u hi⟩
end Go.Proofs.YtnacjhnfkkddcaaGreatDoor
namespace Go.Proofs.YtnacjhnfkkddcaaGreatDoor
open Go.RowKit
set_option linter.unusedSimpArgs false
namespace Bk
end Bk
theorem un_info : (Tryz.prog.info? 37).map (fun i => (i.zero, i.size, i.bytes)) = some (some (.agg #[.int .i64 0, .int .i64 0, .bool false]), 3, 24) := by kernel_rfl
end Go.Proofs.YtnacjhnfkkddcaaGreatDoor
namespace Go.Proofs.YtnacjhnfkkddcaaGreatDoor
open Go.RowKit
set_option linter.unusedSimpArgs false
set_option linter.unusedVariables false
theorem wpList_load_midw {P : Program} {ops : Array Oper} {rest : List Oper} {op : Oper} {a : Act} {w : World} {Q : Exit → Act → World → Prop} (hgd : Region.wanted op (yielded ops a.tmps) = true) (ty : TypeId) (x : Operand) (ho : op.op = .load ty x)
    (b o : Nat) (hx : a.eval x = .pointer (some ⟨b, o, none⟩)) (cs : Array Value) (d : TypeDesc) (hc : w.rangeAt b o cs.toList)
    (hu : P.underlying ty = some d) (hd : d.isRow = true) (hi : (P.info? ty).map (·.size) = some cs.toList.length)
    (h : wpList P ops Q rest (a.put op.dst (.agg cs)) w) : wpList P ops Q (op :: rest) a w := by
  simp only [wpList, hgd, if_true]
  refine .inl (wp_load_mid ty x ho b o hx cs.toList d hc hu hd hi ?_)
  rw [Array.toArray_toList]
  exact h
end Go.Proofs.YtnacjhnfkkddcaaGreatDoor
namespace Go.Proofs.YtnacjhnfkkddcaaGreatDoor
open Go.RowKit
set_option linter.unusedSimpArgs false
set_option linter.unusedVariables false
theorem wpList_load_rcm {ops : Array Oper} {rest : List Oper} {op : Oper} {a : Act} {w : World} {Q : Exit → Act → World → Prop} (hgd : op.guard = none) (x : Operand) (ho : op.op = .load 53 x)
    (b o : Nat) (hx : a.eval x = .pointer (some ⟨b, o, none⟩)) (r : Rc.R) (hc : w.rangeAt b o (Rc.cells r).toList)
    (h : wpList Tryz.prog ops Q rest (a.put op.dst (.agg (Rc.cells r))) w) : wpList Tryz.prog ops Q (op :: rest) a w := by
  refine wpList_load_mid hgd 53 x ho b o hx (Rc.cells r).toList _ hc rec_fields rfl (rec_size r) ?_
  rw [Array.toArray_toList]
  exact h
end Go.Proofs.YtnacjhnfkkddcaaGreatDoor
namespace Go.Proofs.YtnacjhnfkkddcaaGreatDoor
open Go.RowKit
set_option linter.unusedSimpArgs false
namespace Bk
def unC (u : Un) : List Value := [.int .i64 u.v, .int .i64 u.q, .bool u.d]
def units (s : St) : List Un := (List.range 16).map s.us
def viewC (s : St) : Array Value := #[.int .i64 s.ep, .int .i64 s.who, .int .i64 s.till, .int .i64 s.stable, .int .i64 s.from_, .int .i64 s.ph, .int .i64 s.step, .int .i64 s.since, .int .i64 s.begun, .int .i64 s.seq, .int .i64 s.sp.v, .int .i64 s.sp.d, .int .i64 s.sp.u, .int .i64 s.sp.n, .int .i64 s.sp.g, .int .i64 s.sp.a, .int .i64 s.sp.b, .int .i64 s.sp.c, .int .i64 s.sp.e, .int .i64 s.sp.w, .int .i64 s.sp.x, .int .i64 s.sp.k]
end Bk
abbrev b64In (x : Int) : Prop := -9223372036854775808 ≤ x ∧ x ≤ 9223372036854775807
abbrev BPred := World → (Nat → Prop) → Nat → Bk.St → Prop
def BRet (v : Value) (w : World) (e : Ending) (w' : World) : Prop := e = .returned v ∧ Below w.heap.size w w'
def BTurn (K : BPred) (X : Nat → Prop) (q : Nat) (s' : Bk.St) (v : Value) (w : World) (e : Ending) (w' : World) : Prop := ∃ X', e = .returned v ∧ K w' X' q s' ∧ (∀ i, X' i → X i ∨ w.heap.size ≤ i) ∧ Kept X w w'
def BList {T : Type} (enc : T → List Value) (l : List T) (w : World) (e : Ending) (w' : World) : Prop := ∃ A c, e = .returned (.slice A l.length c) ∧ SlF enc w' A l.length c l ∧ Below w.heap.size w w' ∧ ∀ b o, A = some ⟨b, o, none⟩ → w.heap.size ≤ b
def BMade (K : BPred) (s : Bk.St) (f : Value → Value) (w : World) (e : Ending) (w' : World) : Prop := ∃ q X, e = .returned (f (.pointer (some ⟨q, 0, none⟩))) ∧ K w' X q s ∧ (∀ i, X i → w.heap.size ≤ i) ∧ Below w.heap.size w w'
structure BN : Prop where
  check : ∀ W r, Rc.In r → Calls Tryz.prog 27 #[.pointer none, .agg (Rc.cells r)] W (BRet (.int .i64 1) W)
  apply : ∀ W r, Rc.In r → Calls Tryz.prog 22 #[.pointer none, .agg (Rc.cells r)] W (BRet (.int .i64 1) W)
  view : ∀ W, Calls Tryz.prog 21 #[.pointer none] W (BRet (.agg (Bk.viewC Bk.none_)) W)
  units : ∀ W, Calls Tryz.prog 28 #[.pointer none] W (BList Bk.unC [] W)
  digest : ∀ W n, b64In n → Calls Tryz.prog 23 #[.pointer none, .int .i64 n] W (BRet (.tuple #[.string ⟨#[]⟩, .bool false]) W)
  versions : ∀ W, Calls Tryz.prog 24 #[.pointer none] W (BList (fun n : Int => [.int .i64 n]) [] W)
  history : ∀ W, Calls Tryz.prog 26 #[.pointer none] W (BList Bk.rcC [] W)
  free : ∀ W n, b64In n → Calls Tryz.prog 29 #[.pointer none, .int .i64 n] W (BRet (.bool false) W)
def BAt (K : BPred) (w0 : World) (F : Nat → Prop) (q : Nat) (s : Bk.St) (W : World) : Prop := ∃ X, K W X q s ∧ (∀ i, X i → w0.heap.size ≤ i) ∧ (∀ b, F b → ¬ X b ∧ b < W.heap.size) ∧ Below w0.heap.size w0 W
section
variable {K : BPred} {w0 W W' : World} {F : Nat → Prop} {q : Nat} {s : Bk.St}
end
end Go.Proofs.YtnacjhnfkkddcaaGreatDoor
namespace Go.Proofs.YtnacjhnfkkddcaaGreatDoor
open Go.RowKit Go.Maps Go.WideMaps
structure MapW (P : Program) (kt et t : TypeId) (K V : Type) where
  kv : K → Value
  kl : K → Lit
  ok : K → Prop
  ev : V → Value
  ed : V → DataW Unit
  R : Value → Option (DataW Unit × List MemPlace)
  zero : V
  keyed : Keyed P kt
  ty : P.underlying t = some (.map kt et)
  key : ∀ k, ok k → keyOf P kt (kv k) = some (kl k)
  inv : ∀ v z, keyOf P kt v = some z → ∃ k, v = kv k ∧ z = kl k ∧ ok k
  inj : ∀ k k', kl k = kl k' → k = k'
  isKey : ∀ k, WideAt.IsKeyLit (kl k)
  rd : ∀ v, R (ev v) = some (ed v, [])
  rinv : ∀ x z, R x = some z → ∃ v, x = ev v ∧ z = (ed v, [])
  einj : ∀ v v', ed v = ed v' → v = v'
  hz : ∀ w, (zeroValue et).run P w = .ok (ev zero) w
namespace MapW
variable {P : Program} {kt et t : TypeId} {K V : Type} (M : MapW P kt et t K V)
structure Dat (D : DataW Unit) (f : K → Option V) (n : Nat) : Prop where
  has : ∀ k, Maps.has D (M.kl k) = (f k).isSome
  at_ : ∀ k v, f k = some v → ∀ z, D.atKey (M.kl k) z = M.ed v
  size : Maps.size D = n
  tidy : Tidy D
def At (w : World) (b : Nat) (f : K → Option V) (n : Nat) : Prop := ∃ D, w.ownsMap P kt M.R b n D ∧ M.Dat D f n
noncomputable def set (f : K → Option V) (k : K) (o : Option V) : K → Option V := by
  classical exact fun k' => if k' = k then o else f k'
theorem set_same (f : K → Option V) (k : K) (o : Option V) : set f k o k = o := by unfold set; simp
theorem set_other (f : K → Option V) {k k' : K} (o : Option V) (h : k' ≠ k) : set f k o k' = f k' := by unfold set; simp [h]
variable {M}
theorem owns_tight {w : World} {b n : Nat} {D : DataW Unit} (h : w.ownsMap P kt M.R b n D) : w.ownsMap P kt M.R b (Maps.size D) D := by
  obtain ⟨es, clock, hb, F, _, rfl⟩ := h
  refine ⟨es, clock, hb, F, ?_, rfl⟩
  simp [Maps.size, length_sorted]
theorem At.of {w : World} {b n m : Nat} {D : DataW Unit} {f : K → Option V} (h : w.ownsMap P kt M.R b m D) (hd : M.Dat D f n) : M.At w b f n := ⟨D, by rw [← hd.size]; exact owns_tight h, hd⟩
theorem At.made (w : World) : M.At (w.alloc (.map #[] 0)) w.heap.size (fun _ => none) 0 := ⟨_, World.ownsMap_made w P kt M.R, fun _ => rfl, fun _ _ h => (by cases h), rfl, tidy_empty⟩
theorem At.lt {w : World} {b n : Nat} {f : K → Option V} (h : M.At w b f n) : b < w.heap.size := by
  obtain ⟨D, h1, _⟩ := h
  exact h1.lt
theorem At.keep {w w' : World} {b n : Nat} {f : K → Option V} (h : M.At w b f n) (hb : w'.heap[b]? = w.heap[b]?) : M.At w' b f n := by
  obtain ⟨D, ⟨es, clock, h1, h2⟩, hd⟩ := h
  exact ⟨D, ⟨es, clock, hb.trans h1, h2⟩, hd⟩
theorem At.on {w w' : World} {b n : Nat} {f : K → Option V} (h : M.At w b f n) (hb : Below w.heap.size w w') : M.At w' b f n := h.keep (hb.block b h.lt)
theorem At.block {w : World} {b n : Nat} {f : K → Option V} (h : M.At w b f n) : ∃ es clock, w.heap[b]? = some (.map es clock) := by
  obtain ⟨D, ⟨es, clock, h1, _⟩, _⟩ := h
  exact ⟨es, clock, h1⟩
theorem Dat.look {D : DataW Unit} {f : K → Option V} {n : Nat} (h : M.Dat D f n) (k : K) : D.atKey (M.kl k) (M.ed M.zero) = M.ed ((f k).getD M.zero) := by
  cases hf : f k with
  | none =>
    have := h.has k
    rw [hf] at this
    exact Maps.atKey_of_not_has this _
  | some v => exact h.at_ k v hf _
theorem Dat.put {D : DataW Unit} {f : K → Option V} {n : Nat} (h : M.Dat D f n) (k : K) (v : V) : M.Dat (D.put (M.kl k) (M.ed v)) (set f k (some v)) (if (f k).isSome then n else n + 1) := by
  refine ⟨fun k' => ?_, fun k' u hu z => ?_, ?_, h.tidy.put (M.isKey k) _⟩
  · by_cases hk : k' = k
    · subst hk; rw [set_same]; exact has_put_same h.tidy.isMap (M.isKey _) _
    · rw [set_other _ _ hk, has_put_other (fun e => hk (M.inj _ _ e))]; exact h.has k'
  · by_cases hk : k' = k
    · subst hk
      rw [set_same] at hu
      obtain rfl := Option.some.inj hu
      exact atKey_put_same h.tidy.isMap (M.isKey _) _ _
    · rw [set_other _ _ hk] at hu
      rw [atKey_put_other (fun e => hk (M.inj _ _ e))]; exact h.at_ k' u hu z
  · have h1 := size_put (k := M.kl k) h.tidy (M.ed v)
    rw [h.has k, h.size] at h1
    exact h1
theorem At.look {w : World} {b n : Nat} {f : K → Option V} (h : M.At w b f n) (k : K) (hk : M.ok k) : (Instr.lookup t (.map (some b)) (M.kv k) false).run P w = .ok (M.ev ((f k).getD M.zero)) w := by
  obtain ⟨D, h1, hd⟩ := h
  obtain ⟨v, ps, hrun, hv⟩ := h1.lookup M.keyed M.ty (M.hz w) (M.rd M.zero) (M.key k hk)
  obtain ⟨u, rfl, hu⟩ := M.rinv _ _ hv
  have h2 := hd.look k
  have h3 : D.atKey (M.kl k) (M.ed M.zero) = M.ed u := congrArg Prod.fst hu
  rw [M.einj _ _ (h2.symm.trans h3)]
  exact hrun
theorem At.look_ok {w : World} {b n : Nat} {f : K → Option V} (h : M.At w b f n) (k : K) (hk : M.ok k) : (Instr.lookup t (.map (some b)) (M.kv k) true).run P w = .ok (.tuple #[M.ev ((f k).getD M.zero), .bool (f k).isSome]) w := by
  obtain ⟨D, h1, hd⟩ := h
  obtain ⟨v, ps, hrun, hv⟩ := h1.look_ok M.keyed M.ty (M.hz w) (M.rd M.zero) (M.key k hk)
  obtain ⟨u, rfl, hu⟩ := M.rinv _ _ hv
  have h2 := hd.look k
  have h3 : D.atKey (M.kl k) (M.ed M.zero) = M.ed u := congrArg Prod.fst hu
  rw [hd.has k] at hrun
  rw [M.einj _ _ (h2.symm.trans h3)]
  exact hrun
theorem At.put {w : World} {b n : Nat} {f : K → Option V} (h : M.At w b f n) (hn : n < maxLen) (k : K) (v : V) (hk : M.ok k) :
    ∃ w', (Instr.mapUpdate t (.map (some b)) (M.kv k) (M.ev v)).run P w = .ok () w' ∧ M.At w' b (set f k (some v)) (if (f k).isSome then n else n + 1) ∧ w.mapTurned w' b := by
  obtain ⟨D, h1, hd⟩ := h
  obtain ⟨w', hrun, h2, h3⟩ := h1.store M.keyed M.ty hn (M.key k hk) (M.rd v)
  exact ⟨w', hrun, At.of h2 (hd.put k v), h3⟩
variable (M)
def Opt (w : World) (mo : Option Nat) (f : K → Option V) (n : Nat) : Prop :=
  match mo with
  | none => (∀ k, f k = none) ∧ n = 0
  | some m => M.At w m f n
variable {M}
theorem Opt.look {w : World} {mo : Option Nat} {n : Nat} {f : K → Option V} (h : M.Opt w mo f n) (k : K) (hk : M.ok k) : (Instr.lookup t (.map mo) (M.kv k) false).run P w = .ok (M.ev ((f k).getD M.zero)) w := by
  cases mo with
  | some m => exact At.look h k hk
  | none => rw [h.1 k]; exact Maps.look_nil false M.keyed M.ty (M.hz w) (M.key k hk)
theorem Opt.keep {w w' : World} {mo : Option Nat} {n : Nat} {f : K → Option V} (h : M.Opt w mo f n) (hk : ∀ m, mo = some m → w'.heap[m]? = w.heap[m]?) : M.Opt w' mo f n := by
  cases mo with
  | some m => exact At.keep h (hk m rfl)
  | none => exact h
theorem Opt.lt {w : World} {m n : Nat} {f : K → Option V} (h : M.Opt w (some m) f n) : m < w.heap.size := At.lt (M := M) h
theorem Opt.on {w w' : World} {mo : Option Nat} {n : Nat} {f : K → Option V} (h : M.Opt w mo f n) (hb : Below w.heap.size w w') : M.Opt w' mo f n := h.keep fun m e => by subst e; exact hb.block m (Opt.lt h)
variable {w : World} {ops : Array Oper} {rest : List Oper} {o : Oper} {a : Act} {Q : Exit → Act → World → Prop}
end MapW
end Go.Proofs.YtnacjhnfkkddcaaGreatDoor
