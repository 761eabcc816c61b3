import Derived.WalkKit
import Derived.Below
import Derived.Deep.Draws
import Derived.Laws.Rows
import Derived.Lib.Hide
import Derived.ProofKit
import Derived.OpenShut
import Derived.Outline
import Derived.OwnWalk
import Derived.Laws.OwnMore
import Derived.Laws.AppendOwnNone
import Derived.Deep.QuietTactic
import Derived.BigQuiet
import Derived.Deep.DeepFit
import Derived.ScopeJumps
import Derived.WalkMore
import Derived.Laws.BytesArg
import Derived.Laws.Concat
import Derived.Test.YtnacjhnfkkddcaaGreatDoorRows
import Derived.Laws.StructEq
import Derived.ChangeKeysEq
import Derived.Maps.AppendAt
import Derived.Deep.Slices
import Derived.Deep.WholeRow
import Derived.Test.YtnacjhnfkkddcaaGreatDoorSu01
namespace Go.Proofs.YtnacjhnfkkddcaaGreatDoor
open Go.RowKit
set_option linter.unusedSimpArgs false
structure Le where
 who : Int
 ep : Int
 till : Int
namespace Bk
def lead : ByteArray := ⟨#[108, 101, 97, 100]⟩
def leC (l : Le) : List Value := [.string lead, .int .i64 l.who, .int .i64 l.ep, .int .i64 l.till, .bool false]
def vnC (v : Vn) : List Value := [.int .i64 v.n, .string v.t]
def rcC (r : Rc.R) : List Value := (Rc.cells r).toList
theorem leC_len (l : Le) : (leC l).length = 5 := rfl
theorem vnC_len (v : Vn) : (vnC v).length = 2 := rfl
theorem rcC_len (r : Rc.R) : (rcC r).length = 18 := rfl
theorem leC_one (l : Le) : ∀ u ∈ leC l, u.oneCell' = true := by intro u hu; simp [leC] at hu; rcases hu with rfl | rfl | rfl | rfl | rfl <;> rfl
theorem vnC_one (v : Vn) : ∀ u ∈ vnC v, u.oneCell' = true := by intro u hu; simp [vnC] at hu; rcases hu with rfl | rfl <;> rfl
theorem rcC_one (r : Rc.R) : ∀ u ∈ rcC r, u.oneCell' = true := by
 intro u hu
 simp [rcC, Rc.cells] at hu
 rcases hu with rfl | rfl | rfl | rfl | rfl | rfl | rfl | rfl | rfl | rfl | rfl | rfl | rfl | rfl | rfl | rfl | rfl | rfl <;> rfl
def tl (s : St) : List Le := if s.ep = 0 then [] else [⟨s.who, s.ep, s.till⟩]
def cells (s : St) (L V H : Value) : Array Value := #[.int .i64 s.m, L, V, .int .i64 s.ep, .int .i64 s.who, .int .i64 s.till, .int .i64 s.stable, .int .i64 s.from_, .int .i64 s.ph, .int .i64 s.step, .int .i64 s.since, .int .i64 s.begun, .int .i64 s.seq, .int .i64 s.sp.v, .int .i64 s.sp.d, .int .i64 s.sp.u, .int .i64 s.sp.n, .int .i64 s.sp.g, .int .i64 s.sp.a, .int .i64 s.sp.b, .int .i64 s.sp.c, .int .i64 s.sp.e, .int .i64 s.sp.w, .int .i64 s.sp.x, .int .i64 s.sp.k, .int .i64 (s.us 0).v, .int .i64 (s.us 0).q, .bool (s.us 0).d, .int .i64 (s.us 1).v, .int .i64 (s.us 1).q, .bool (s.us 1).d, .int .i64 (s.us 2).v, .int .i64 (s.us 2).q, .bool (s.us 2).d, .int .i64 (s.us 3).v, .int .i64 (s.us 3).q, .bool (s.us 3).d, .int .i64 (s.us 4).v, .int .i64 (s.us 4).q, .bool (s.us 4).d, .int .i64 (s.us 5).v, .int .i64 (s.us 5).q, .bool (s.us 5).d, .int .i64 (s.us 6).v, .int .i64 (s.us 6).q, .bool (s.us 6).d, .int .i64 (s.us 7).v, .int .i64 (s.us 7).q, .bool (s.us 7).d, .int .i64 (s.us 8).v, .int .i64 (s.us 8).q, .bool (s.us 8).d, .int .i64 (s.us 9).v, .int .i64 (s.us 9).q, .bool (s.us 9).d, .int .i64 (s.us 10).v, .int .i64 (s.us 10).q, .bool (s.us 10).d, .int .i64 (s.us 11).v, .int .i64 (s.us 11).q, .bool (s.us 11).d, .int .i64 (s.us 12).v, .int .i64 (s.us 12).q, .bool (s.us 12).d, .int .i64 (s.us 13).v, .int .i64 (s.us 13).q, .bool (s.us 13).d, .int .i64 (s.us 14).v, .int .i64 (s.us 14).q, .bool (s.us 14).d, .int .i64 (s.us 15).v, .int .i64 (s.us 15).q, .bool (s.us 15).d, H]
def zeros : Array Value := #[.int .i64 0, .slice none 0 0, .slice none 0 0, .int .i64 0, .int .i64 0, .int .i64 0, .int .i64 0, .int .i64 0, .int .i64 0, .int .i64 0, .int .i64 0, .int .i64 0, .int .i64 0, .int .i64 0, .int .i64 0, .int .i64 0, .int .i64 0, .int .i64 0, .int .i64 0, .int .i64 0, .int .i64 0, .int .i64 0, .int .i64 0, .int .i64 0, .int .i64 0, .int .i64 0, .int .i64 0, .bool false, .int .i64 0, .int .i64 0, .bool false, .int .i64 0, .int .i64 0, .bool false, .int .i64 0, .int .i64 0, .bool false, .int .i64 0, .int .i64 0, .bool false, .int .i64 0, .int .i64 0, .bool false, .int .i64 0, .int .i64 0, .bool false, .int .i64 0, .int .i64 0, .bool false, .int .i64 0, .int .i64 0, .bool false, .int .i64 0, .int .i64 0, .bool false, .int .i64 0, .int .i64 0, .bool false, .int .i64 0, .int .i64 0, .bool false, .int .i64 0, .int .i64 0, .bool false, .int .i64 0, .int .i64 0, .bool false, .int .i64 0, .int .i64 0, .bool false, .int .i64 0, .int .i64 0, .bool false, .slice none 0 0]
def none_ : St := ⟨0, 0, 0, 0, 0, 0, 0, 0, 0, 0, 0, Spc.zero, fun _ => ⟨0, 0, false⟩, [], []⟩
end Bk
structure BkAt (w : World) (g : Nat) (s : Bk.St) (L V H : Value) : Prop where
 row : w.heap[g]? = some (.cells (Bk.cells s L V H) 40 (0, 0))
structure BkRd (w : World) (s : Bk.St) (L V H : Value) : Prop where
 l : ∃ A c, L = .slice A (Bk.tl s).length c ∧ SlF Bk.leC w A (Bk.tl s).length c (Bk.tl s)
 v : ∃ A c, V = .slice A s.vs.length c ∧ SlF Bk.vnC w A s.vs.length c s.vs
 h : ∃ A c, H = .slice A s.h.length c ∧ SlF Bk.rcC w A s.h.length c s.h
section
variable {w w' : World} {g : Nat} {s : Bk.St} {L V H : Value}
theorem BkAt.new (w : World) (s : Bk.St) (L V H : Value) : BkAt (w.alloc (.cells (Bk.cells s L V H) 40)) w.heap.size s L V H := ⟨heap_alloc_new w _⟩
theorem BkAt.on (h : BkAt w g s L V H) (hb : Below w.heap.size w w') : BkAt w' g s L V H := ⟨(hb.block g (Array.getElem?_eq_some_iff.1 h.row).1).trans h.row⟩
theorem BkAt.lt (h : BkAt w g s L V H) : g < w.heap.size := (Array.getElem?_eq_some_iff.1 h.row).1
theorem BkAt.keep (h : BkAt w g s L V H) (hk : w'.heap[g]? = w.heap[g]?) : BkAt w' g s L V H := ⟨hk.trans h.row⟩
theorem BkRd.on (h : BkRd w s L V H) (hb : Below w.heap.size w w') : BkRd w' s L V H := by
 obtain ⟨⟨A1, c1, e1, h1⟩, ⟨A2, c2, e2, h2⟩, ⟨A3, c3, e3, h3⟩⟩ := h
 exact ⟨⟨A1, c1, e1, h1.on hb⟩, ⟨A2, c2, e2, h2.on hb⟩, ⟨A3, c3, e3, h3.on hb⟩⟩
structure BkCs (w : World) (g : Nat) (s : Bk.St) (L V H : Value) : Prop where
 c0 : w.cell? ⟨g, 0, none⟩ = some (.int .i64 s.m)
 c1 : w.cell? ⟨g, 1, none⟩ = some (L)
 c2 : w.cell? ⟨g, 2, none⟩ = some (V)
 c3 : w.cell? ⟨g, 3, none⟩ = some (.int .i64 s.ep)
 c4 : w.cell? ⟨g, 4, none⟩ = some (.int .i64 s.who)
 c5 : w.cell? ⟨g, 5, none⟩ = some (.int .i64 s.till)
 c6 : w.cell? ⟨g, 6, none⟩ = some (.int .i64 s.stable)
 c7 : w.cell? ⟨g, 7, none⟩ = some (.int .i64 s.from_)
 c8 : w.cell? ⟨g, 8, none⟩ = some (.int .i64 s.ph)
 c9 : w.cell? ⟨g, 9, none⟩ = some (.int .i64 s.step)
 c10 : w.cell? ⟨g, 10, none⟩ = some (.int .i64 s.since)
 c11 : w.cell? ⟨g, 11, none⟩ = some (.int .i64 s.begun)
 c12 : w.cell? ⟨g, 12, none⟩ = some (.int .i64 s.seq)
 c13 : w.cell? ⟨g, 13, none⟩ = some (.int .i64 s.sp.v)
 c14 : w.cell? ⟨g, 14, none⟩ = some (.int .i64 s.sp.d)
 c15 : w.cell? ⟨g, 15, none⟩ = some (.int .i64 s.sp.u)
 c16 : w.cell? ⟨g, 16, none⟩ = some (.int .i64 s.sp.n)
 c17 : w.cell? ⟨g, 17, none⟩ = some (.int .i64 s.sp.g)
 c18 : w.cell? ⟨g, 18, none⟩ = some (.int .i64 s.sp.a)
 c19 : w.cell? ⟨g, 19, none⟩ = some (.int .i64 s.sp.b)
 c20 : w.cell? ⟨g, 20, none⟩ = some (.int .i64 s.sp.c)
 c21 : w.cell? ⟨g, 21, none⟩ = some (.int .i64 s.sp.e)
 c22 : w.cell? ⟨g, 22, none⟩ = some (.int .i64 s.sp.w)
 c23 : w.cell? ⟨g, 23, none⟩ = some (.int .i64 s.sp.x)
 c24 : w.cell? ⟨g, 24, none⟩ = some (.int .i64 s.sp.k)
 c73 : w.cell? ⟨g, 73, none⟩ = some (H)
 lt : g < w.heap.size
theorem BkAt.cs (h : BkAt w g s L V H) : BkCs w g s L V H := by
 constructor
 all_goals first | (rw [cell_of_row w g _ _ _ _ h.row]; rfl) | exact h.lt
theorem BkAt.unit (h : BkAt w g s L V H) {j : Nat} (hj : j < 16) : w.cell? ⟨g, 25 + j * 3, none⟩ = some (.int .i64 (s.us j).v) ∧ w.cell? ⟨g, 25 + j * 3 + 1, none⟩ = some (.int .i64 (s.us j).q) ∧ w.cell? ⟨g, 25 + j * 3 + 2, none⟩ = some (.bool (s.us j).d) := by
 rw [cell_of_row w g _ _ _ _ h.row, cell_of_row w g _ _ _ _ h.row, cell_of_row w g _ _ _ _ h.row]
 rcases j with _ | _ | _ | _ | _ | _ | _ | _ | _ | _ | _ | _ | _ | _ | _ | _ | j
 all_goals first | exact ⟨rfl, rfl, rfl⟩ | omega
theorem BkAt.fz (h : BkAt w g s L V H) (i : Nat) : w.frozen? ⟨g, i, none⟩ = false := frozen_of_row _ _ _ _ _ h.row
theorem BkAt.set (h : BkAt w g s L V H) (k : Nat) (v : Value) {s' : Bk.St} {L' V' H' : Value} (he : (Bk.cells s L V H).setIfInBounds k v = Bk.cells s' L' V' H') : BkAt (w.setCell ⟨g, k, none⟩ v) g s' L' V' H' := ⟨by rw [← he]; exact heap_setCell_same w g k _ _ _ h.row⟩
theorem BkAt.ep (h : BkAt w g s L V H) (x : Int) : BkAt (w.setCell ⟨g, 3, none⟩ (.int .i64 x)) g { s with ep := x } L V H := h.set 3 _ rfl
theorem BkAt.who (h : BkAt w g s L V H) (x : Int) : BkAt (w.setCell ⟨g, 4, none⟩ (.int .i64 x)) g { s with who := x } L V H := h.set 4 _ rfl
theorem BkAt.till (h : BkAt w g s L V H) (x : Int) : BkAt (w.setCell ⟨g, 5, none⟩ (.int .i64 x)) g { s with till := x } L V H := h.set 5 _ rfl
theorem BkAt.stable (h : BkAt w g s L V H) (x : Int) : BkAt (w.setCell ⟨g, 6, none⟩ (.int .i64 x)) g { s with stable := x } L V H := h.set 6 _ rfl
theorem BkAt.frm (h : BkAt w g s L V H) (x : Int) : BkAt (w.setCell ⟨g, 7, none⟩ (.int .i64 x)) g { s with from_ := x } L V H := h.set 7 _ rfl
theorem BkAt.ph (h : BkAt w g s L V H) (x : Int) : BkAt (w.setCell ⟨g, 8, none⟩ (.int .i64 x)) g { s with ph := x } L V H := h.set 8 _ rfl
theorem BkAt.step (h : BkAt w g s L V H) (x : Int) : BkAt (w.setCell ⟨g, 9, none⟩ (.int .i64 x)) g { s with step := x } L V H := h.set 9 _ rfl
theorem BkAt.since (h : BkAt w g s L V H) (x : Int) : BkAt (w.setCell ⟨g, 10, none⟩ (.int .i64 x)) g { s with since := x } L V H := h.set 10 _ rfl
theorem BkAt.begun (h : BkAt w g s L V H) (x : Int) : BkAt (w.setCell ⟨g, 11, none⟩ (.int .i64 x)) g { s with begun := x } L V H := h.set 11 _ rfl
theorem BkAt.seq (h : BkAt w g s L V H) (x : Int) : BkAt (w.setCell ⟨g, 12, none⟩ (.int .i64 x)) g { s with seq := x } L V H := h.set 12 _ rfl
theorem BkAt.ls (h : BkAt w g s L V H) (L' : Value) : BkAt (w.setCell ⟨g, 1, none⟩ L') g s L' V H := h.set 1 _ rfl
theorem BkAt.mg (h : BkAt w g s L V H) (x : Int) : BkAt (w.setCell ⟨g, 0, none⟩ (.int .i64 x)) g { s with m := x } L V H := h.set 0 _ rfl
theorem BkAt.sp_v (h : BkAt w g s L V H) (x : Int) : BkAt (w.setCell ⟨g, 13, none⟩ (.int .i64 x)) g { s with sp := { s.sp with v := x } } L V H := h.set 13 _ rfl
theorem BkAt.sp_d (h : BkAt w g s L V H) (x : Int) : BkAt (w.setCell ⟨g, 14, none⟩ (.int .i64 x)) g { s with sp := { s.sp with d := x } } L V H := h.set 14 _ rfl
theorem BkAt.sp_u (h : BkAt w g s L V H) (x : Int) : BkAt (w.setCell ⟨g, 15, none⟩ (.int .i64 x)) g { s with sp := { s.sp with u := x } } L V H := h.set 15 _ rfl
theorem BkAt.sp_n (h : BkAt w g s L V H) (x : Int) : BkAt (w.setCell ⟨g, 16, none⟩ (.int .i64 x)) g { s with sp := { s.sp with n := x } } L V H := h.set 16 _ rfl
theorem BkAt.sp_g (h : BkAt w g s L V H) (x : Int) : BkAt (w.setCell ⟨g, 17, none⟩ (.int .i64 x)) g { s with sp := { s.sp with g := x } } L V H := h.set 17 _ rfl
theorem BkAt.sp_a (h : BkAt w g s L V H) (x : Int) : BkAt (w.setCell ⟨g, 18, none⟩ (.int .i64 x)) g { s with sp := { s.sp with a := x } } L V H := h.set 18 _ rfl
theorem BkAt.sp_b (h : BkAt w g s L V H) (x : Int) : BkAt (w.setCell ⟨g, 19, none⟩ (.int .i64 x)) g { s with sp := { s.sp with b := x } } L V H := h.set 19 _ rfl
theorem BkAt.sp_c (h : BkAt w g s L V H) (x : Int) : BkAt (w.setCell ⟨g, 20, none⟩ (.int .i64 x)) g { s with sp := { s.sp with c := x } } L V H := h.set 20 _ rfl
theorem BkAt.sp_e (h : BkAt w g s L V H) (x : Int) : BkAt (w.setCell ⟨g, 21, none⟩ (.int .i64 x)) g { s with sp := { s.sp with e := x } } L V H := h.set 21 _ rfl
theorem BkAt.sp_w (h : BkAt w g s L V H) (x : Int) : BkAt (w.setCell ⟨g, 22, none⟩ (.int .i64 x)) g { s with sp := { s.sp with w := x } } L V H := h.set 22 _ rfl
theorem BkAt.sp_x (h : BkAt w g s L V H) (x : Int) : BkAt (w.setCell ⟨g, 23, none⟩ (.int .i64 x)) g { s with sp := { s.sp with x := x } } L V H := h.set 23 _ rfl
theorem BkAt.sp_k (h : BkAt w g s L V H) (x : Int) : BkAt (w.setCell ⟨g, 24, none⟩ (.int .i64 x)) g { s with sp := { s.sp with k := x } } L V H := h.set 24 _ rfl
def bkPuts (w : World) (g : Nat) (t : Spc.Sp) : World := ((((((((((((w.setCell ⟨g, 13, none⟩ (.int .i64 t.v)).setCell ⟨g, 14, none⟩ (.int .i64 t.d)).setCell ⟨g, 15, none⟩ (.int .i64 t.u)).setCell ⟨g, 16, none⟩ (.int .i64 t.n)).setCell ⟨g, 17, none⟩ (.int .i64 t.g)).setCell ⟨g, 18, none⟩ (.int .i64 t.a)).setCell ⟨g, 19, none⟩ (.int .i64 t.b)).setCell ⟨g, 20, none⟩ (.int .i64 t.c)).setCell ⟨g, 21, none⟩ (.int .i64 t.e)).setCell ⟨g, 22, none⟩ (.int .i64 t.w)).setCell ⟨g, 23, none⟩ (.int .i64 t.x)).setCell ⟨g, 24, none⟩ (.int .i64 t.k))
theorem BkAt.spec (h : BkAt w g s L V H) (t : Spc.Sp) : BkAt (bkPuts w g t) g { s with sp := t } L V H := (((((((((((h.sp_v t.v).sp_d t.d).sp_u t.u).sp_n t.n).sp_g t.g).sp_a t.a).sp_b t.b).sp_c t.c).sp_e t.e).sp_w t.w).sp_x t.x).sp_k t.k
theorem BkAt.unitV (h : BkAt w g s L V H) {j : Nat} (hj : j < 16) (x : Int) : BkAt (w.setCell ⟨g, 25 + j * 3, none⟩ (.int .i64 x)) g { s with us := Bk.setU s.us j { s.us j with v := x } } L V H := by
 refine h.set _ _ ?_
 rcases j with _ | _ | _ | _ | _ | _ | _ | _ | _ | _ | _ | _ | _ | _ | _ | _ | j
 all_goals first | rfl | omega
theorem BkAt.unitQ (h : BkAt w g s L V H) {j : Nat} (hj : j < 16) (x : Int) : BkAt (w.setCell ⟨g, 25 + j * 3 + 1, none⟩ (.int .i64 x)) g { s with us := Bk.setU s.us j { s.us j with q := x } } L V H := by
 refine h.set _ _ ?_
 rcases j with _ | _ | _ | _ | _ | _ | _ | _ | _ | _ | _ | _ | _ | _ | _ | _ | j
 all_goals first | rfl | omega
theorem BkAt.unitD (h : BkAt w g s L V H) {j : Nat} (hj : j < 16) (x : Bool) : BkAt (w.setCell ⟨g, 25 + j * 3 + 2, none⟩ (.bool x)) g { s with us := Bk.setU s.us j { s.us j with d := x } } L V H := by
 refine h.set _ _ ?_
 rcases j with _ | _ | _ | _ | _ | _ | _ | _ | _ | _ | _ | _ | _ | _ | _ | _ | j
 all_goals first | rfl | omega
end
theorem bk_fields : Tryz.prog.underlying 40 = some (.struct (Tryz.prog.fieldsOf 40)) := by kernel_rfl
theorem bk_size (s : Bk.St) (L V H : Value) : (Tryz.prog.info? 40).map (·.size) = some (Bk.cells s L V H).size := by kernel_rfl
theorem bk_zero : ∀ w, (zeroValue 40).run Tryz.prog w = .ok (.agg Bk.zeros) w := (zero_of_info (n := 74) (by kernel_rfl)).1
theorem vn_info : (Tryz.prog.info? 72).map (fun i => (i.zero, i.size, i.bytes)) = some (some (.agg #[.int .i64 0, .string ⟨#[]⟩]), 2, 24) := by kernel_rfl
theorem le_info : (Tryz.prog.info? 116).map (fun i => (i.zero, i.size, i.bytes)) = some (some (.agg #[.string ⟨#[]⟩, .int .i64 0, .int .i64 0, .int .i64 0, .bool false]), 5, 48) := by kernel_rfl
theorem rc_info : (Tryz.prog.info? 53).map (fun i => (i.zero, i.size, i.bytes)) = some (some (.agg #[.int .i64 0, .int .i64 0, .int .i64 0, .int .i64 0, .int .i64 0, .string ⟨#[]⟩, .int .i64 0, .int .i64 0, .int .i64 0, .int .i64 0, .int .i64 0, .int .i64 0, .int .i64 0, .int .i64 0, .int .i64 0, .int .i64 0, .int .i64 0, .int .i64 0]), 18, 152) := by kernel_rfl
theorem Bk.one_cell {s : Bk.St} {L V H : Value} (hL : L.oneCell' = true) (hV : V.oneCell' = true) (hH : H.oneCell' = true) : (Bk.cells s L V H).all (·.oneCell') = true := by
 simp [Bk.cells, hL, hV, hH]
 simp [Value.oneCell']
theorem BkRd.one {w : World} {s : Bk.St} {L V H : Value} (h : BkRd w s L V H) : (Bk.cells s L V H).all (·.oneCell') = true := by
 obtain ⟨⟨A1, c1, rfl, _⟩, ⟨A2, c2, rfl, _⟩, ⟨A3, c3, rfl, _⟩⟩ := h
 exact Bk.one_cell rfl rfl rfl
def BkPost (W : World) (s : Bk.St) (e : Ending) (w' : World) : Prop := ∃ L V H, e = .returned (.agg (Bk.cells s L V H)) ∧ BkRd w' s L V H ∧ Below W.heap.size W w'
end Go.Proofs.YtnacjhnfkkddcaaGreatDoor
