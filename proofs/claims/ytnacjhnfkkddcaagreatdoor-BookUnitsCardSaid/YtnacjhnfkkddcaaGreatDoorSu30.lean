import Derived.WalkKit
import Derived.Below
import Derived.Deep.Draws
import Derived.Laws.Rows
import Derived.Lib.Hide
import Derived.ProofKit
import Derived.OpenShut
import Derived.Outline
import Derived.OwnWalk
import Derived.Laws.OwnMore
import Derived.Laws.AppendOwnNone
import Derived.Deep.QuietTactic
import Derived.BigQuiet
import Derived.Deep.DeepFit
import Derived.ScopeJumps
import Derived.WalkMore
import Derived.Laws.BytesArg
import Derived.Laws.Concat
import Derived.Test.YtnacjhnfkkddcaaGreatDoorRows
import Derived.Laws.StructEq
import Derived.ChangeKeysEq
import Derived.Maps.AppendAt
import Derived.Deep.Slices
import Derived.Deep.WholeRow
import Derived.Lib.MinMax
import Derived.Handy
import Derived.BigRegion
import Derived.Deep.Cut
import Derived.Deep.DeepCutAuto
import Derived.Deep.RegionHeld3
import Derived.Laws.Cover1
import Derived.Laws.CopyOwn
import Derived.Laws.ResultCell
import Derived.Great.BuildSlice
import Derived.Deep.MidRow
import Derived.Maps.OwnSet
import Derived.Maps.OwnOps
import Derived.Maps.RangeWalk
import Derived.StringKeys
import Derived.Laws.IdiomRangeMap
import Derived.Laws.Strings
import Derived.Laws.ByValue
import Derived.IntWalk
import Derived.Lib.Atoi
import Derived.Lib.ItoaNum
import Derived.Lib.Split
import Derived.Lib.Join
import Derived.Lib.Strings
import Derived.Deep.RegionWith
import Derived.Laws.Tables
import Derived.Laws.Cover3
import Derived.Sort.OwnSorted
import Derived.Sort.KeysCollected
import Derived.Shelf.Strconv.Atoi
import Derived.Shelf.Strconv.Itoa0
import Derived.Shelf.Strconv.Itoa1
import Derived.Shelf.LaysM
import Derived.Shelf.Strconv.Itoa2
import Derived.Shelf.Strconv.Itoa3
import Derived.Shelf.Sort.Plain
import Derived.Shelf.Slices.Equal
import Derived.Shelf.Slices.In.SortNone
import Derived.Shelf.Slices.Empties2
import Derived.Test.YtnacjhnfkkddcaaGreatDoorProg
import Derived.Shelf.Abstract
import Derived.Lib.SmallJoins
import Derived.Lib.LaidTab
import Derived.Lib.LaidU8
import Derived.Deep.DeepAppendRoom
import Derived.Lib.SliceRun
import Derived.Laws.IdiomCopy
import Derived.Deep.CutBlock
import Derived.Carry
import Derived.Test.YtnacjhnfkkddcaaGreatDoorSu01
import Derived.Test.YtnacjhnfkkddcaaGreatDoorSu02
import Derived.Handed
import Derived.HandedShaped
import Derived.Test.YtnacjhnfkkddcaaGreatDoorSu16
import Derived.Test.YtnacjhnfkkddcaaGreatDoorSu21
import Derived.Stop.LaidErr
import Derived.Shelf.Vars
import Derived.MakeChecks
import Derived.Lay
import Derived.Test.YtnacjhnfkkddcaaGreatDoorSu22
import Derived.Test.YtnacjhnfkkddcaaGreatDoorSu17
import Derived.Test.YtnacjhnfkkddcaaGreatDoorSu25
import Derived.Test.YtnacjhnfkkddcaaGreatDoorSu07
import Derived.Test.YtnacjhnfkkddcaaGreatDoorSu05
import Derived.Test.YtnacjhnfkkddcaaGreatDoorSu15
import Derived.Test.YtnacjhnfkkddcaaGreatDoorSu06
import Derived.Test.YtnacjhnfkkddcaaGreatDoorSu28
import Derived.Sort.OwnSortedInts
import Derived.Test.YtnacjhnfkkddcaaGreatDoorSu20
namespace Go.Proofs.YtnacjhnfkkddcaaGreatDoor
open Go Go.RowKit Go.Deep
set_option linter.unusedVariables false
set_option maxRecDepth 100000
theorem n64_wf {n : Int} (h : (Lit.int .i64 n).wf = true) : -9223372036854775808 ≤ n ∧ n ≤ 9223372036854775807 := by
 simp [Lit.wf, IntKind.min, IntKind.max, IntKind.signed, IntKind.bits] at h
 omega
def ERc (_ : World) (cs : List Value) (r : Rc.R) : Prop := cs = Bk.rcC r ∧ Rc.In r
set_option maxHeartbeats 1600000 in
theorem spec_trod {H : Type} {enc : TypeId × Value → H} {w : World} {held : Bool} (f : Nat) (cs : List Value) (y : DataW H × List MemPlace) (h : DataW.trod enc Tryz.prog w 0 (fun _ => true) held f 35 cs = some y) (hl : cs.length = 12) : ∃ s : Spc.Sp, cs = [.int .i64 s.v, .int .i64 s.d, .int .i64 s.u, .int .i64 s.n, .int .i64 s.g, .int .i64 s.a, .int .i64 s.b, .int .i64 s.c, .int .i64 s.e, .int .i64 s.w, .int .i64 s.x, .int .i64 s.k] ∧ Spc.In s := by
 obtain ⟨xs, n, _, _, _, hxl, hf⟩ := DataW.trod_struct Tryz.underlying35 h
 match cs, hl with
 | [a0, a1, a2, a3, a4, a5, a6, a7, a8, a9, a10, a11], _ =>
  have hxl3 : xs.length = 9 := hxl
  have k1 : Tryz.prog.cellsOf 3 = 1 := by kernel_rfl
  have k4 : Tryz.prog.cellsOf 33 = 4 := by kernel_rfl
  have h0 : DataW.trod enc Tryz.prog w 0 (fun _ => true) held n 3 (([a0, a1, a2, a3, a4, a5, a6, a7, a8, a9, a10, a11].drop 0).take (Tryz.prog.cellsOf 3)) = xs[0]? := hf 0 _ rfl
  have h1 : DataW.trod enc Tryz.prog w 0 (fun _ => true) held n 3 (([a0, a1, a2, a3, a4, a5, a6, a7, a8, a9, a10, a11].drop 1).take (Tryz.prog.cellsOf 3)) = xs[1]? := hf 1 _ rfl
  have h2 : DataW.trod enc Tryz.prog w 0 (fun _ => true) held n 3 (([a0, a1, a2, a3, a4, a5, a6, a7, a8, a9, a10, a11].drop 2).take (Tryz.prog.cellsOf 3)) = xs[2]? := hf 2 _ rfl
  have h3 : DataW.trod enc Tryz.prog w 0 (fun _ => true) held n 3 (([a0, a1, a2, a3, a4, a5, a6, a7, a8, a9, a10, a11].drop 3).take (Tryz.prog.cellsOf 3)) = xs[3]? := hf 3 _ rfl
  have h4 : DataW.trod enc Tryz.prog w 0 (fun _ => true) held n 3 (([a0, a1, a2, a3, a4, a5, a6, a7, a8, a9, a10, a11].drop 4).take (Tryz.prog.cellsOf 3)) = xs[4]? := hf 4 _ rfl
  have h9 : DataW.trod enc Tryz.prog w 0 (fun _ => true) held n 3 (([a0, a1, a2, a3, a4, a5, a6, a7, a8, a9, a10, a11].drop 9).take (Tryz.prog.cellsOf 3)) = xs[6]? := hf 6 _ rfl
  have h10 : DataW.trod enc Tryz.prog w 0 (fun _ => true) held n 3 (([a0, a1, a2, a3, a4, a5, a6, a7, a8, a9, a10, a11].drop 10).take (Tryz.prog.cellsOf 3)) = xs[7]? := hf 7 _ rfl
  have h11 : DataW.trod enc Tryz.prog w 0 (fun _ => true) held n 3 (([a0, a1, a2, a3, a4, a5, a6, a7, a8, a9, a10, a11].drop 11).take (Tryz.prog.cellsOf 3)) = xs[8]? := hf 8 _ rfl
  have hA : DataW.trod enc Tryz.prog w 0 (fun _ => true) held n 33 (([a0, a1, a2, a3, a4, a5, a6, a7, a8, a9, a10, a11].drop 5).take (Tryz.prog.cellsOf 33)) = xs[5]? := hf 5 _ rfl
  rw [k1] at h0 h1 h2 h3 h4 h9 h10 h11
  rw [k4] at hA
  rw [List.getElem?_eq_getElem (by omega)] at h0 h1 h2 h3 h4 h9 h10 h11 hA
  obtain ⟨ys, m, _, _, hl4, hyl, hi⟩ := DataW.trod_array (cs := [a5, a6, a7, a8]) Tryz.underlying33 hA
  have h5 : DataW.trod enc Tryz.prog w 0 (fun _ => true) held m 3 (([a5, a6, a7, a8].drop (0 * Tryz.prog.cellsOf 3)).take (Tryz.prog.cellsOf 3)) = ys[0]? := hi 0 (by omega)
  have h6 : DataW.trod enc Tryz.prog w 0 (fun _ => true) held m 3 (([a5, a6, a7, a8].drop (1 * Tryz.prog.cellsOf 3)).take (Tryz.prog.cellsOf 3)) = ys[1]? := hi 1 (by omega)
  have h7 : DataW.trod enc Tryz.prog w 0 (fun _ => true) held m 3 (([a5, a6, a7, a8].drop (2 * Tryz.prog.cellsOf 3)).take (Tryz.prog.cellsOf 3)) = ys[2]? := hi 2 (by omega)
  have h8 : DataW.trod enc Tryz.prog w 0 (fun _ => true) held m 3 (([a5, a6, a7, a8].drop (3 * Tryz.prog.cellsOf 3)).take (Tryz.prog.cellsOf 3)) = ys[3]? := hi 3 (by omega)
  rw [k1] at h5 h6 h7 h8
  rw [List.getElem?_eq_getElem (by omega)] at h5 h6 h7 h8
  obtain ⟨x0, e0, _, w0⟩ := DataW.trod_int (cs := [a0]) Tryz.underlying3 h0
  obtain ⟨x1, e1, _, w1⟩ := DataW.trod_int (cs := [a1]) Tryz.underlying3 h1
  obtain ⟨x2, e2, _, w2⟩ := DataW.trod_int (cs := [a2]) Tryz.underlying3 h2
  obtain ⟨x3, e3, _, w3⟩ := DataW.trod_int (cs := [a3]) Tryz.underlying3 h3
  obtain ⟨x4, e4, _, w4⟩ := DataW.trod_int (cs := [a4]) Tryz.underlying3 h4
  obtain ⟨x5, e5, _, w5⟩ := DataW.trod_int (cs := [a5]) Tryz.underlying3 h5
  obtain ⟨x6, e6, _, w6⟩ := DataW.trod_int (cs := [a6]) Tryz.underlying3 h6
  obtain ⟨x7, e7, _, w7⟩ := DataW.trod_int (cs := [a7]) Tryz.underlying3 h7
  obtain ⟨x8, e8, _, w8⟩ := DataW.trod_int (cs := [a8]) Tryz.underlying3 h8
  obtain ⟨x9, e9, _, w9⟩ := DataW.trod_int (cs := [a9]) Tryz.underlying3 h9
  obtain ⟨x10, e10, _, w10⟩ := DataW.trod_int (cs := [a10]) Tryz.underlying3 h10
  obtain ⟨x11, e11, _, w11⟩ := DataW.trod_int (cs := [a11]) Tryz.underlying3 h11
  simp at e0 e1 e2 e3 e4 e5 e6 e7 e8 e9 e10 e11
  subst e0 e1 e2 e3 e4 e5 e6 e7 e8 e9 e10 e11
  exact ⟨⟨x0, x1, x2, x3, x4, x5, x6, x7, x8, x9, x10, x11⟩, rfl, by
   intro n hn
   simp only [Spc.flds, List.mem_cons, List.not_mem_nil, or_false] at hn
   have v0 := n64_wf w0
   have v1 := n64_wf w1
   have v2 := n64_wf w2
   have v3 := n64_wf w3
   have v4 := n64_wf w4
   have v5 := n64_wf w5
   have v6 := n64_wf w6
   have v7 := n64_wf w7
   have v8 := n64_wf w8
   have v9 := n64_wf w9
   have v10 := n64_wf w10
   have v11 := n64_wf w11
   rcases hn with rfl | rfl | rfl | rfl | rfl | rfl | rfl | rfl | rfl | rfl | rfl | rfl <;> assumption⟩
set_option maxHeartbeats 1600000 in
theorem rec_trod {H : Type} {enc : TypeId × Value → H} {w : World} {held : Bool} (f : Nat) (cs : List Value) (y : DataW H × List MemPlace) (h : DataW.trod enc Tryz.prog w 0 (fun _ => true) held f 53 cs = some y) (hl : cs.length = 18) : ∃ r, ERc w cs r := by
 obtain ⟨xs, n, _, _, _, hxl, hf⟩ := DataW.trod_struct Tryz.underlying53 h
 match cs, hl with
 | [a0, a1, a2, a3, a4, a5, a6, a7, a8, a9, a10, a11, a12, a13, a14, a15, a16, a17], _ =>
  have hxl3 : xs.length = 7 := hxl
  have k1 : Tryz.prog.cellsOf 3 = 1 := by kernel_rfl
  have k2 : Tryz.prog.cellsOf 9 = 1 := by kernel_rfl
  have k3 : Tryz.prog.cellsOf 35 = 12 := by kernel_rfl
  have h0 : DataW.trod enc Tryz.prog w 0 (fun _ => true) held n 3 (([a0, a1, a2, a3, a4, a5, a6, a7, a8, a9, a10, a11, a12, a13, a14, a15, a16, a17].drop 0).take (Tryz.prog.cellsOf 3)) = xs[0]? := hf 0 _ rfl
  have h1 : DataW.trod enc Tryz.prog w 0 (fun _ => true) held n 3 (([a0, a1, a2, a3, a4, a5, a6, a7, a8, a9, a10, a11, a12, a13, a14, a15, a16, a17].drop 1).take (Tryz.prog.cellsOf 3)) = xs[1]? := hf 1 _ rfl
  have h2 : DataW.trod enc Tryz.prog w 0 (fun _ => true) held n 3 (([a0, a1, a2, a3, a4, a5, a6, a7, a8, a9, a10, a11, a12, a13, a14, a15, a16, a17].drop 2).take (Tryz.prog.cellsOf 3)) = xs[2]? := hf 2 _ rfl
  have h3 : DataW.trod enc Tryz.prog w 0 (fun _ => true) held n 3 (([a0, a1, a2, a3, a4, a5, a6, a7, a8, a9, a10, a11, a12, a13, a14, a15, a16, a17].drop 3).take (Tryz.prog.cellsOf 3)) = xs[3]? := hf 3 _ rfl
  have h4 : DataW.trod enc Tryz.prog w 0 (fun _ => true) held n 3 (([a0, a1, a2, a3, a4, a5, a6, a7, a8, a9, a10, a11, a12, a13, a14, a15, a16, a17].drop 4).take (Tryz.prog.cellsOf 3)) = xs[4]? := hf 4 _ rfl
  have h5 : DataW.trod enc Tryz.prog w 0 (fun _ => true) held n 9 (([a0, a1, a2, a3, a4, a5, a6, a7, a8, a9, a10, a11, a12, a13, a14, a15, a16, a17].drop 5).take (Tryz.prog.cellsOf 9)) = xs[5]? := hf 5 _ rfl
  have h6 : DataW.trod enc Tryz.prog w 0 (fun _ => true) held n 35 (([a0, a1, a2, a3, a4, a5, a6, a7, a8, a9, a10, a11, a12, a13, a14, a15, a16, a17].drop 6).take (Tryz.prog.cellsOf 35)) = xs[6]? := hf 6 _ rfl
  rw [k1] at h0 h1 h2 h3 h4
  rw [k2] at h5
  rw [k3] at h6
  rw [List.getElem?_eq_getElem (by omega)] at h0 h1 h2 h3 h4 h5 h6
  obtain ⟨x0, e0, _, w0⟩ := DataW.trod_int (cs := [a0]) Tryz.underlying3 h0
  obtain ⟨x1, e1, _, w1⟩ := DataW.trod_int (cs := [a1]) Tryz.underlying3 h1
  obtain ⟨x2, e2, _, w2⟩ := DataW.trod_int (cs := [a2]) Tryz.underlying3 h2
  obtain ⟨x3, e3, _, w3⟩ := DataW.trod_int (cs := [a3]) Tryz.underlying3 h3
  obtain ⟨x4, e4, _, w4⟩ := DataW.trod_int (cs := [a4]) Tryz.underlying3 h4
  obtain ⟨x5, e5, _, w5⟩ := DataW.trod_string (cs := [a5]) Tryz.underlying9 h5
  obtain ⟨sp, e6, w6⟩ := spec_trod _ [a6, a7, a8, a9, a10, a11, a12, a13, a14, a15, a16, a17] _ h6 rfl
  simp at e0 e1 e2 e3 e4 e5
  subst e0 e1 e2 e3 e4 e5
  have hc : [.int .i64 x0, .int .i64 x1, .int .i64 x2, .int .i64 x3, .int .i64 x4, .string x5] ++ [a6, a7, a8, a9, a10, a11, a12, a13, a14, a15, a16, a17] = Bk.rcC ⟨x0, x1, x2, x3, x4, x5, sp⟩ := by
   rw [e6]
   rfl
  refine ⟨⟨x0, x1, x2, x3, x4, x5, sp⟩, hc, ?_, w5, w6⟩
  intro x hx
  simp only [Rc.nums, List.mem_cons, List.not_mem_nil, or_false] at hx
  have v0 := n64_wf w0
  have v1 := n64_wf w1
  have v2 := n64_wf w2
  have v3 := n64_wf w3
  have v4 := n64_wf w4
  rcases hx with rfl | rfl | rfl | rfl | rfl <;> assumption
theorem rec_cells : Tryz.prog.cellsOf 53 = 18 := by kernel_rfl
theorem rec_list {w : World} {A : Option Addr} {n c : Nat} {ts : List Rc.R} (h : SlR 18 ERc w A n c ts) : SlF Bk.rcC w A n c ts ∧ ∀ r ∈ ts, Rc.In r := by
 refine ⟨sle_of Bk.rcC_len h (fun _ _ e => e.1), fun r hr => ?_⟩
 obtain ⟨j, hj, e⟩ := List.mem_iff_getElem.1 hr
 obtain ⟨b, o, cs, h1, h2, h3, h4, h5⟩ := h.rd j r (e ▸ List.getElem?_eq_getElem hj)
 exact h5.2
theorem recs_of {H : Type} {enc : TypeId × Value → H} {w : World} {held : Bool} {A : Option Addr} {n c : Nat} {f : Nat} {y : DataW H × List MemPlace} (h : DataW.trod enc Tryz.prog w 0 (fun _ => true) held f 22 [.slice A n c] = some y) : ∃ ts, SlF Bk.rcC w A n c ts ∧ ∀ r ∈ ts, Rc.In r := by
 obtain ⟨ts, h1⟩ := slr_of Tryz.underlying22 rec_cells (by omega) rec_trod h
 exact ⟨ts, rec_list h1⟩
end Go.Proofs.YtnacjhnfkkddcaaGreatDoor
namespace Go.Proofs.YtnacjhnfkkddcaaGreatDoor
open Go
variable {H : Type} {enc : TypeId × Value → H}
theorem returns_laid_shaped {a : Assume} {C : Checked} {os : Os} {f : FuncId} {fn : Func} {s : ChangeSpec} {conds : List PathCond} {apart fresh handsOn again : Bool} {X : World → Array Value → Prop}
  (hX : ∀ (w w' : World) (args : Array Value), w.heap = w'.heap → X w args → X w' args)
  (own : ownKnob C.prog.godebug = none) (started : os.Started) (noInit : C.prog.inits.idxOf? f = none) (hfn : C.prog.funcs[f]? = some fn)
  (witness : ∃ (w : World) (tape : Tape) (i : Input), w.os = os ∧ (w.forCall tape i).Shaped C.prog ∧ i.vars = [] ∧ Input.okWide C.prog (w.forCall tape i) .any w.heap.size f i ∧
   ((s.pre enc C.prog fn conds apart (w.forCall tape i).memory i.args ∧ X (w.forCall tape i).memory i.args) ∧ sizedMet enc C.prog fn (OpenSpec.ofChange s) apart (w.forCall tape i).memory i.args) ∧ a.holds C.prog (lone (Frame.enter C.prog f i.args .normal) [] (w.forCall tape i)))
  (contract : ∀ (W : World) (base : Nat) (args : Array Value) (ds gs : List (DataW H)) (before : List MemPlace),
   (∀ (j : Nat) t v, fn.params[j]? = some t → args[j]? = some v → Value.okWide C.prog W .any base t v) →
   DataW.Whole enc C.prog fn.params.toList s.vars apart W args.toList ds gs before →
   X W args → W.ShapedOpen C.prog →
   Calls C.prog f args W fun e W' => ∃ v, e = .returned v ∧ s.post enc C.prog fn apart fresh handsOn again W args v W') :
  ReturnsInHanded a C os f .any (fun w args => (s.pre enc C.prog fn conds apart w args ∧ X w args) ∧ sizedMet enc C.prog fn (OpenSpec.ofChange s) apart w args) (s.post enc C.prog fn apart fresh handsOn again) := by
 refine returnsInHanded_of_calls own started noInit witness ?_
 intro w tape i _ hsh _ hok hpre _
 obtain ⟨_, _, _, fn', hfn', _, _, _, _, hval⟩ := hok
 have e : fn' = fn := Option.some.inj (hfn'.symm.trans hfn)
 subst e
 obtain ⟨⟨⟨ds, gs, before, hw, _⟩, hx⟩, _⟩ := hpre
 have hw' := DataW.Whole.of_heap (w' := w.forCall tape i) (by rfl) hw
 refine (contract (w.forCall tape i) w.heap.size i.args ds gs before hval hw' (hX _ _ _ (by rfl) hx) hsh).mono fun e W' ⟨v, he, hp⟩ => ?_
 subst he
 exact ChangeSpec.post_blind hp
end Go.Proofs.YtnacjhnfkkddcaaGreatDoor
namespace Go.Proofs.YtnacjhnfkkddcaaGreatDoor
open Go Go.RowKit
theorem leads_data : leaf3 (Rows.laid_pacesetter_phase_leads : DataW Unit) = leadsT := by kernel_rfl
theorem words_data : leaf2 (Rows.laid_pacesetter_phase_words : DataW Unit) = wordsT := by kernel_rfl
theorem pow_data : Rows.laid_internal_strconv_uint64pow10 = (Lib.tabData .u64 Lib.pow10Tab : DataW Unit) := by kernel_rfl
theorem tb_of {W : World} (hL : laidMetH Tryz.prog Rows.bookEpochsRow.laid W) (_ : W.ShapedOpen Tryz.prog) : BT W := by
 rw [MakeChecks.laidMetH_plain _ _ _ (by kernel_rfl)] at hL
 refine ⟨⟨?_⟩, ?_, ?_⟩
 ·have h3 := hL.tail.tail
  exact Lib.tabIs_of_head (n := 20) (t := 245) (e := 178) g_pow (by kernel_rfl) (by kernel_rfl) Tryz.underlying178 (by kernel_rfl) (by kernel_rfl) (pow_data ▸ h3)
 ·have := varIs_of (name := "pacesetter/phase.leads") (d := Rows.laid_pacesetter_phase_leads) (L := leaf3) (t := 196) hL (by simp [Rows.bookEpochsRow]) g_leads (by kernel_rfl)
   (fun _ _ _ _ => tells_arr (fun _ => rfl) (tells_arr (n := 9) (e := 3) (L := leaf1) (fun _ => rfl) (tells_int Tryz.underlying3) Tryz.underlying195 (by kernel_rfl)) Tryz.underlying196 (by kernel_rfl))
  rw [leads_data] at this
  exact this
 ·have := varIs_of (name := "pacesetter/phase.words") (d := Rows.laid_pacesetter_phase_words) (L := leaf2) (t := 194) hL (by simp [Rows.bookEpochsRow]) g_words (by kernel_rfl)
   (fun _ _ _ _ => tells_arr (fun _ => rfl) (tells_str Tryz.underlying9) Tryz.underlying194 (by kernel_rfl))
  rw [words_data] at this
  exact this
end Go.Proofs.YtnacjhnfkkddcaaGreatDoor
namespace Go.Proofs.YtnacjhnfkkddcaaGreatDoor
open Go.RowKit Go.Deep Go.Maps
set_option maxRecDepth 100000
set_option linter.unusedSimpArgs false
set_option linter.unusedVariables false
def Bd.ru0 : Nat → Bk.Un := fun _ => ⟨0, 0, false⟩
theorem new_bd (w : World) (m : Int) (q : Nat) (hat : BdAt w q (Bk.new m) Bd.ru0 0 (.map none) (.map none) (.slice none 0 0)) : BdIs w q (Bk.new m) Bd.ru0 0 none none (.slice none 0 0) Kv.St.none where
 at_ := hat
 ls := ⟨fun _ => rfl, rfl⟩
 kv := rfl
 kg := Kv.Good.none_
 kr := rfl
 kb := Int.le_refl _
 dg := Bd.none_digs
 raw := Bd.new_raw
 h := OwF.none_ _ _ _
 lk := fun m e => by cases e
 lok := ⟨Bk.new_ok m, fun h => absurd rfl h⟩
theorem bnew_any (m : Int) (w : World) : Calls Tryz.prog 20 #[.int .i64 m] w (fun e w' => ∃ q, e = .returned (.pointer (some ⟨q, 0, none⟩)) ∧ BdIs w' q (Bk.new m) Bd.ru0 0 none none (.slice none 0 0) Kv.St.none ∧ w.heap.size ≤ q ∧ Below w.heap.size w w') := by
 have C := Lib.hid (lsnew_any w m)
 generalize hmm : (Ls.new m).margin = mm at *
 have HM := Lib.hid hmm
 clear hmm
 go_enter Tryz.func20, Tryz.ntmps20
 go_wp2_with (go_at_call 37; (with_reducible refine C.out.mono ?_); rintro e w1 ⟨rfl, hi, hb⟩; have B1 := Lib.hid hb; obtain ⟨c0, c1, f1, hq⟩ := hi.cells; rw [HM.out] at c0; clear hi hb)
 go_ret
 refine ⟨w1.heap.size, rfl, new_bd _ m _ ⟨?_⟩, B1.out.size, B1.out.trans (((Below.refl w1.heap.size w1).alloc (Nat.le_refl _) _).mono B1.out.size)⟩
 have e : (Bk.new m).m = mm := HM.out
 unfold Bd.cells
 rw [e]
 exact heap_alloc_new w1 _
theorem own_none {T : Type} {enc : T → List Value} {k : Nat} {e : TypeId} (w : World) : OwF enc k e (w.alloc (.cells #[] e)) w.heap.size (.slice (some ⟨w.heap.size, 0, none⟩) 0 0) [] := ⟨by simp, .inr ⟨w.heap.size, 0, #[], rfl, Nat.le_refl _, heap_alloc_new w _, Nat.le_refl _, Nat.zero_le _, by simp, by simp⟩⟩
theorem slnil {T : Type} {enc : T → List Value} {w : World} {n c : Nat} {l : List T} (h : SlF enc w none n c l) : l = [] ∧ n = 0 ∧ c = 0 := by
 have h0 := h.nil rfl
 have h1 := h.cap
 have h2 := h.len
 exact ⟨List.eq_nil_of_length_eq_zero (by omega), by omega, h0⟩
theorem unC_len (u : Bk.Un) : (Bk.unC u).length = 3 := rfl
theorem unC_one (u : Bk.Un) : ∀ x ∈ Bk.unC u, x.oneCell' = true := by intro x hx; simp [Bk.unC] at hx; rcases hx with rfl | rfl | rfl <;> rfl
theorem bclone_rec (w : World) (A : Option Addr) (n c : Nat) (l : List Rc.R) (hs : SlF Bk.rcC w A n c l) (hn : n ≤ 1000) : Calls Tryz.prog 47 #[.slice A n c] w (BList Bk.rcC l w) := by
 have hl := hs.len
 have hcap := hs.cap
 have hmax := hs.max
 have hc63 : (c : Int) ≤ 9223372036854775807 := by unfold maxLen at hmax; omega
 have hnil := fun W a n c => Lib.run_eql_slice_nil (P := Tryz.prog) W 22 53 a n c 0 0 Tryz.underlying22
 cases A with
 | none =>
  obtain ⟨rfl, rfl, rfl⟩ := slnil hs
  clear hl hcap hmax hc63 hs hn
  go_enter Tryz.func47, Tryz.ntmps47
  go_wp2_with fail
  go_ret
  exact ⟨none, 0, rfl, SlF.none_ w, Below.refl _ _, fun b o e => by cases e⟩
 | some ad =>
  have O0 := Lib.hid (own_none (enc := Bk.rcC) (k := 18) (e := 53) w)
  have hb1 : Below w.heap.size w (w.alloc (.cells #[] 53)) := (Below.refl _ _).alloc (Nat.le_refl _) _
  have S1 := Lib.hid (hs.on hb1)
  have B1 := Lib.hid hb1
  have HN := Lib.hid hn
  have HL := Lib.hid hl
  clear hs hn hl hb1 hmax
  go_enter Tryz.func47, Tryz.ntmps47
  go_upto_region 3 with fail
  go_wp2_with (at_builtin; refine wpList_append_all Bk.rcC_len Bk.rcC_one Tryz.underlying22 rc_info rfl (by omega) rfl (.tmp 5) (.tmp 6) rfl w.heap.size _ [] l rfl O0.out rfl S1.out (by have := HN.out; have := HL.out; simp; unfold maxLen; omega) (by have := HN.out; have := HL.out; simp; omega) (by have := B1.out.size; omega) ?_; intro v1 w1 ho1 hb1 _ _; have O1 := Lib.hid ho1; have B2 := Lib.hid hb1; clear ho1 hb1)
  go_ret
  obtain ⟨A9, c9, hf⟩ := O1.out.form
  have ho := O1.out
  rw [hf] at ho ⊢
  rw [List.nil_append] at ho
  refine ⟨A9, c9, rfl, ho.sl, B1.out.trans B2.out, fun b o e => ?_⟩
  subst e
  exact (ho.lt b rfl).1
theorem bview_any (q : Nat) (s : Bk.St) (ru : Nat → Bk.Un) (rv : Int) (lo ko : Option Nat) (H : Value) (K : Kv.St) (w : World) (h : BdIs w q s ru rv lo ko H K) : Calls Tryz.prog 21 #[.pointer (some ⟨q, 0, none⟩)] w (BRet (.agg (Bk.viewC s)) w) := by
 have A0 := Lib.hid h.at_
 clear h
 go_enter Tryz.func21, Tryz.ntmps21
 have lq := A0.out.lt
 have hb1 : Below w.heap.size w (w.alloc (.cells #[.int .i64 0, .int .i64 0, .int .i64 0, .int .i64 0, .int .i64 0, .int .i64 0, .int .i64 0, .int .i64 0, .int .i64 0, .int .i64 0, .int .i64 0, .int .i64 0, .int .i64 0, .int .i64 0, .int .i64 0, .int .i64 0, .int .i64 0, .int .i64 0, .int .i64 0, .int .i64 0, .int .i64 0, .int .i64 0] 48)) := (Below.refl _ _).alloc (Nat.le_refl _) _
 have A1 := Lib.hid (A0.out.on hb1)
 have R1 := heap_alloc_new w (.cells #[.int .i64 0, .int .i64 0, .int .i64 0, .int .i64 0, .int .i64 0, .int .i64 0, .int .i64 0, .int .i64 0, .int .i64 0, .int .i64 0, .int .i64 0, .int .i64 0, .int .i64 0, .int .i64 0, .int .i64 0, .int .i64 0, .int .i64 0, .int .i64 0, .int .i64 0, .int .i64 0, .int .i64 0, .int .i64 0] 48)
 go_upto_region 3 with fail
 have B1 := Lib.hid hb1
 obtain ⟨g, hg⟩ : ∃ g, g = w.heap.size := ⟨_, rfl⟩
 rw [← hg] at R1 ⊢
 clear hb1 lq
 have GE : Hid (w.heap.size ≤ g) := Nat.le_of_eq hg.symm
 clear hg
 have lq := A1.out.lt
 generalize w.alloc (.cells #[.int .i64 0, .int .i64 0, .int .i64 0, .int .i64 0, .int .i64 0, .int .i64 0, .int .i64 0, .int .i64 0, .int .i64 0, .int .i64 0, .int .i64 0, .int .i64 0, .int .i64 0, .int .i64 0, .int .i64 0, .int .i64 0, .int .i64 0, .int .i64 0, .int .i64 0, .int .i64 0, .int .i64 0, .int .i64 0] 48) = W1 at *
 go_wp2_with (first
  | ((with_reducible show wpList _ _ _ ({ dst := some 9, op := .load _ _, type := _, pos := _, after := _, guard := _ } :: _) _ _); refine wpList_load_mid rfl 48 (.tmp 8) rfl q 4 rfl (Bk.viewC s).toList _ (view_range A1.out) view_fields rfl (view_size s) ?_)
  | ((with_reducible show wpList _ _ _ ({ dst := none, op := .store _ _ _, type := _, pos := _, after := _, guard := _ } :: _) _ _); refine wpList_store_view (s := s) rfl (.tmp 2) (.tmp 9) rfl rfl rfl R1 rfl ?_))
 exact bodyPost_ret (v := .agg (Bk.viewC s)) (results_cell_row (P := Tryz.prog) Tryz.results21 _ _ g 48 (Bk.viewC s) (0, 0) _ rfl (setRow_heap W1 g _ _ _ _ R1) view_fields rfl (view_size2 s)) rfl ⟨rfl, below_setRow B1.out GE.out _⟩
theorem bhist_any (q : Nat) (s : Bk.St) (ru : Nat → Bk.Un) (rv : Int) (lo ko : Option Nat) (H : Value) (K : Kv.St) (w : World) (h : BdIs w q s ru rv lo ko H K) : Calls Tryz.prog 26 #[.pointer (some ⟨q, 0, none⟩)] w (BList Bk.rcC s.h w) := by
 have A0 := Lib.hid h.at_
 have H0 := Lib.hid h
 obtain ⟨A, c, hH⟩ := h.form
 have b74 := A0.out.cs.c74
 rw [hH] at b74
 have lq := A0.out.lt
 have hs := h.h
 rw [hH] at hs
 have CC := Lib.hid (bclone_rec w A s.h.length c s.h hs.sl (by have := h.lok.ok.hl; omega))
 clear h hH hs
 generalize s.h.length = n at b74 CC
 go_enter Tryz.func26, Tryz.ntmps26
 go_wp2_with (go_at_call 47; (with_reducible refine CC.out.mono ?_); rintro e w1 hp; obtain ⟨A9, c9, rfl, p1, p2, p3⟩ := hp; have P1 := Lib.hid p1; have P2 := Lib.hid p2; have P3 := Lib.hid p3; clear p1 p2 p3)
 go_ret
 exact ⟨A9, c9, rfl, P1.out, P2.out, P3.out⟩
end Go.Proofs.YtnacjhnfkkddcaaGreatDoor
namespace Go.Proofs.YtnacjhnfkkddcaaGreatDoor
open Go.RowKit Go.Deep Go.Maps
set_option maxRecDepth 100000
set_option linter.unusedSimpArgs false
set_option linter.unusedVariables false
theorem bdp_keep {w w' : World} {X : Nat → Prop} {q : Nat} {s : Bk.St} (h : BdP w X q s) (hz : w.heap.size ≤ w'.heap.size) (hk : ∀ i, X i → w'.heap[i]? = w.heap[i]?) : BdP w' X q s := by
 obtain ⟨ru, rv, lo, ko, H, K, h1, h2, h3⟩ := h
 exact ⟨ru, rv, lo, ko, H, K, h1.keep (hk _ (h2 _ (.inl rfl))) (fun m e => hk _ (h2 _ (.inr (.inl e)))) (fun m e => hk _ (h2 _ (.inr (.inr (.inl e))))) (fun m e => hk _ (h2 _ (.inr (.inr (.inr e))))), h2, fun i hi => Nat.lt_of_lt_of_le (h3 i hi) hz⟩
theorem bdp_lt {w : World} {X : Nat → Prop} {q : Nat} {s : Bk.St} (h : BdP w X q s) : ∀ i, X i → i < w.heap.size := by
 obtain ⟨ru, rv, lo, ko, H, K, h1, h2, h3⟩ := h
 exact h3
theorem bdp_ok {w : World} {X : Nat → Prop} {q : Nat} {s : Bk.St} (h : BdP w X q s) : Bk.Ok s := by
 obtain ⟨ru, rv, lo, ko, H, K, h1, h2, h3⟩ := h
 exact h1.lok.ok
theorem bdp_below {w w' : World} {X : Nat → Prop} {q : Nat} {s : Bk.St} (h : BdP w X q s) (hb : Below w.heap.size w w') : BdP w' X q s := bdp_keep h hb.size fun i hi => hb.block i (bdp_lt h i hi)
theorem bdp_apply {W : World} {X : Nat → Prop} {q : Nat} {s : Bk.St} (h : BdP W X q s) (ht : BT W) (r : Rc.R) (hr : Rc.In r) : Calls Tryz.prog 22 #[.pointer (some ⟨q, 0, none⟩), .agg (Rc.cells r)] W (BTurn BdP X q (Bk.app s r) (.int .i64 (Bk.chk s r)) W) := by
 obtain ⟨ru, rv, lo, ko, H, K, h1, h2, h3⟩ := h
 exact (bapply_any q s ru rv lo ko H K W h1 ht r hr).mono fun e w' hp => hp.turn h2 h3
structure DA (w0 : World) (q : Nat) (s : Bk.St) (W : World) : Prop where
 bd : ∃ X, BdP W X q s ∧ ∀ i, X i → w0.heap.size ≤ i
 below : Below w0.heap.size w0 W
theorem DA.on {w0 W W' : World} {q : Nat} {s : Bk.St} (h : DA w0 q s W) (hb : Below W.heap.size W W') : DA w0 q s W' := by
 obtain ⟨X, h1, h2⟩ := h.bd
 exact ⟨⟨X, bdp_below h1 hb, h2⟩, h.below.trans (hb.mono h.below.size)⟩
theorem DA.app {w0 W : World} {q : Nat} {s : Bk.St} (h : DA w0 q s W) (ht : BT W) (r : Rc.R) (hr : Rc.In r) : Calls Tryz.prog 22 #[.pointer (some ⟨q, 0, none⟩), .agg (Rc.cells r)] W (fun e w' => e = .returned (.int .i64 (Bk.chk s r)) ∧ DA w0 q (Bk.app s r) w') := by
 obtain ⟨X, h1, h2⟩ := h.bd
 refine (bdp_apply h1 ht r hr).mono fun e w' hp => ?_
 obtain ⟨X', e1, e2, e3, e4⟩ := hp
 refine ⟨e1, ⟨X', e2, fun i hi => ?_⟩, h.below.trans (e4.below h.below.size h2)⟩
 rcases e3 i hi with h5 | h5
 ·exact h2 i h5
 ·exact Nat.le_trans h.below.size h5
theorem DA.new (w : World) (m : Int) : Calls Tryz.prog 20 #[.int .i64 m] w (fun e w' => ∃ q, e = .returned (.pointer (some ⟨q, 0, none⟩)) ∧ DA w q (Bk.new m) w') := by
 refine (bnew_any m w).mono fun e w' hp => ?_
 obtain ⟨q, rfl, h1, h2, h3⟩ := hp
 refine ⟨q, rfl, ⟨BdF q none none (.slice none 0 0), ⟨_, _, _, _, _, _, h1, fun i hi => hi, h1.ltF⟩, fun i hi => ?_⟩, h3⟩
 rcases hi with rfl | e | e | e
 ·exact h2
 ·cases e
 ·cases e
 ·cases e
set_option maxHeartbeats 3200000 in
theorem ball_any (m : Int) (A : Option Addr) (k c : Nat) (l : List Rc.R) (hin : ∀ r ∈ l, Rc.In r) (w : World) (hs : SlF Bk.rcC w A k c l) (hk : k ≤ 100000) (ht : BT w) : Calls Tryz.prog 14 #[.int .i64 m, .slice A k c] w (BMade BdP (Bk.all m l) (fun p => .tuple #[p, .int .i64 (Bk.allN m l : Nat)]) w) := by
 have CN := Lib.hid (DA.new w m)
 have S0 := Lib.hid hs
 have HI := Lib.hid hin
 have HL := Lib.hid hs.len
 have T0 := Lib.hid ht
 have hcap := hs.cap
 clear hs hin ht
 go_enter Tryz.func14, Tryz.ntmps14
 go_upto_region 2 with (go_at_call 20; (with_reducible refine CN.out.mono ?_); rintro e w1 ⟨q, rfl, hd⟩; have D1 := Lib.hid hd; clear hd)
 go_wp2_with fail
 go_loopw [7, 14] (fun v i wr => ∃ j : Nat, j ≤ k ∧ i = .int .i64 j ∧ v = .int .i64 (Bk.cnt (Bk.new m) (l.take j) : Nat) ∧ DA w q (Bk.run (Bk.new m) (l.take j)) wr) (fun _ i _ => k - (intOf i).toNat)
 case atStart => exact ⟨0, Nat.zero_le _, rfl, rfl, D1.out⟩
 case round =>
  obtain ⟨j, hj, rfl, rfl, hd⟩ := hrel
  have D := Lib.hid hd
  clear hd
  have i1 : (0 : Int) ≤ (j : Int) := by omega
  by_cases hlt : j < k
  ·have hx : l[j]? = some (l[j]'(by have := HL.out; omega)) := List.getElem?_eq_getElem _
   have HT := Lib.hid (Bk.take_run (Bk.new m) l (k := j) (by have := HL.out; omega))
   generalize l[j]'(by have := HL.out; omega) = r at hx HT
   have HR : Hid (Rc.In r) := HI.out r (List.mem_of_getElem? hx)
   have cl : (Bk.cnt (Bk.new m) (l.take j) : Int) ≤ 100000 := by
    have := Bk.cnt_le (Bk.new m) (l.take j)
    rw [List.length_take] at this
    omega
   have cl0 : (0 : Int) ≤ (Bk.cnt (Bk.new m) (l.take j) : Int) := by omega
   have S1 := Lib.hid (S0.out.on D.out.below)
   have q1 : ((j : Nat) : Int) < (k : Nat) := by omega
   have q2 : ((k : Nat) : Int) ≤ 100000 := by omega
   have HLT := Lib.hid hlt
   obtain ⟨b, o, rfl, hbl, hrg⟩ := rc_range S1.out hx
   have RG := Lib.hid hrg
   clear hx hrg hlt
   generalize Bk.run (Bk.new m) (l.take j) = s at *
   generalize Bk.cnt (Bk.new m) (l.take j) = cn at *
   go_upto_region 5 with (first
    | ((with_reducible show wpList _ _ _ ({ dst := some 17, op := .load _ _, type := _, pos := _, after := _, guard := _ } :: _) _ _); refine wpList_load_rcm rfl (.tmp 16) rfl b (o + j * 18) (by simp [Act.eval, go_sem]) r RG.out ?_)
    | ((with_reducible show wpList _ _ _ ({ dst := none, op := .store _ _ _, type := _, pos := _, after := _, guard := _ } :: _) _ _); refine wpList_store_rec rfl (.tmp 9) (.tmp 17) rfl wr.heap.size r Rc.none_ rfl rfl ⟨heap_alloc_new wr _⟩ ?_))
   rw [World.setRow_alloc_new]
   have RA := Lib.hid (RcAt.new wr r)
   have hb : Below wr.heap.size wr (wr.alloc (.cells (Rc.cells r) 53)) := (Below.refl _ _).alloc (Nat.le_refl _) _
   have D2 := Lib.hid (D.out.on hb)
   clear RG S1
   obtain ⟨g, hg⟩ : ∃ g, g = wr.heap.size := ⟨_, rfl⟩
   rw [← hg] at RA ⊢
   clear hg hb
   generalize wr.alloc (.cells (Rc.cells r) 53) = w2 at *
   have CP := Lib.hid (D2.out.app (T0.out.on D2.out.below) r HR.out)
   have CK : Hid (Bk.chk s r = 0 ∨ Bk.chk s r ≠ 0) := Decidable.em _
   have HC : Hid (∃ z, z = Bk.chk s r) := ⟨_, rfl⟩
   obtain ⟨z, hz⟩ := HC.out
   rw [← hz] at CP HT CK
   have HZ := Lib.hid hz
   clear hz HC
   rcases CK.out with h0 | h0
   ·have q3 : (z == 0) = true := by simpa using h0
    have E1 := Lib.hid (HT.out.2.trans (by rw [if_pos h0]))
    clear h0
    go_wp2_with (first
     | ((with_reducible show wpList _ _ _ ({ dst := some 19, op := .load _ _, type := _, pos := _, after := _, guard := _ } :: _) _ _); refine wpList_load_row rfl 53 (.tmp 9) rfl g rfl 53 _ (0, 0) _ RA.out.row rec_fields rfl (rec_size r) ?_)
     | (go_at_call 22; (with_reducible refine CP.out.mono ?_); rintro e w3 ⟨rfl, hd⟩; have D3 := Lib.hid hd; clear hd))
    exact ⟨⟨j + 1, by have := HLT.out; omega, by go_num, by rw [E1.out]; go_num, by rw [HT.out.1]; exact D3.out⟩, by simp [intOf]; have := HLT.out; omega⟩
   ·have q3 : (z == 0) = false := by simpa using h0
    have E1 := Lib.hid (HT.out.2.trans (by rw [if_neg h0]))
    clear h0
    go_wp2_with (first
     | ((with_reducible show wpList _ _ _ ({ dst := some 19, op := .load _ _, type := _, pos := _, after := _, guard := _ } :: _) _ _); refine wpList_load_row rfl 53 (.tmp 9) rfl g rfl 53 _ (0, 0) _ RA.out.row rec_fields rfl (rec_size r) ?_)
     | (go_at_call 22; (with_reducible refine CP.out.mono ?_); rintro e w3 ⟨rfl, hd⟩; have D3 := Lib.hid hd; clear hd))
    exact ⟨⟨j + 1, by have := HLT.out; omega, by go_num, by rw [E1.out]; go_num, by rw [HT.out.1]; exact D3.out⟩, by simp [intOf]; have := HLT.out; omega⟩
  ·have q1 : ((k : Nat) : Int) ≤ (j : Nat) := by omega
   have e : l.take j = l := List.take_of_length_le (by have := HL.out; omega)
   rw [e] at D ⊢
   go_wp2_with fail
   go_ret2
   obtain ⟨⟨X, h1, h2⟩, h3⟩ := D.out
   exact ⟨q, X, rfl, h1, h2, h3⟩
end Go.Proofs.YtnacjhnfkkddcaaGreatDoor
namespace Go.Proofs.YtnacjhnfkkddcaaGreatDoor
open Go.RowKit
set_option linter.unusedSimpArgs false
namespace Bk
end Bk
theorem un_info : (Tryz.prog.info? 37).map (fun i => (i.zero, i.size, i.bytes)) = some (some (.agg #[.int .i64 0, .int .i64 0, .bool false]), 3, 24) := by kernel_rfl
end Go.Proofs.YtnacjhnfkkddcaaGreatDoor
namespace Go.Proofs.YtnacjhnfkkddcaaGreatDoor
open Go.RowKit Go.Deep Go.Maps
set_option maxRecDepth 100000
set_option linter.unusedSimpArgs false
set_option linter.unusedVariables false
def Bd.mix (ru : Nat → Bk.Un) (j : Nat) : List Bk.Un := (List.range 16).map fun i => if i < j then Bd.told (ru i) else ru i
theorem mix_units {ru : Nat → Bk.Un} {s : Bk.St} (h : Bd.Raw ru s.us) : Bd.mix ru 16 = Bk.units s := by
 unfold Bd.mix Bk.units
 refine List.map_congr_left fun i hi => ?_
 rw [if_pos (List.mem_range.1 hi), (h i (List.mem_range.1 hi)).1]
theorem mix_set (ru : Nat → Bk.Un) {j : Nat} (hj : j < 16) : ((Bd.mix ru j).flatMap Bk.unC).set (j * 3 + 2) (.bool ((ru j).d || decide ((ru j).q = 0))) = (Bd.mix ru (j + 1)).flatMap Bk.unC := by
 rcases j with _ | _ | _ | _ | _ | _ | _ | _ | _ | _ | _ | _ | _ | _ | _ | _ | j
 all_goals first | rfl | omega
theorem mix_get (ru : Nat → Bk.Un) {j : Nat} (hj : j < 16) : ((Bd.mix ru j).flatMap Bk.unC)[j * 3]? = some (.int .i64 (ru j).v) ∧ ((Bd.mix ru j).flatMap Bk.unC)[j * 3 + 1]? = some (.int .i64 (ru j).q) ∧ ((Bd.mix ru j).flatMap Bk.unC)[j * 3 + 2]? = some (.bool (ru j).d) := by
 rcases j with _ | _ | _ | _ | _ | _ | _ | _ | _ | _ | _ | _ | _ | _ | _ | _ | j
 all_goals first | exact ⟨rfl, rfl, rfl⟩ | omega
theorem mix_cells {w : World} {q : Nat} {s : Bk.St} {ru : Nat → Bk.Un} {rv : Int} {lm km H : Value} (h : BdAt w q s ru rv lm km H) : SlF Bk.unC w (some ⟨q, 26, none⟩) 16 16 (Bd.mix ru 0) := by
 refine ⟨fun _ => ⟨q, 26, rfl, h.lt, fun j u hj => ?_⟩, rfl, Nat.le_refl _, by unfold maxLen; omega, fun e => by cases e⟩
 have hl : j < 48 := (List.getElem?_eq_some_iff.1 hj).1
 rw [cell_of_row w q _ _ _ _ h.row]
 rcases j with _ | _ | _ | _ | _ | _ | _ | _ | _ | _ | _ | _ | _ | _ | _ | _ | _ | _ | _ | _ | _ | _ | _ | _ | _ | _ | _ | _ | _ | _ | _ | _ | _ | _ | _ | _ | _ | _ | _ | _ | _ | _ | _ | _ | _ | _ | _ | _ | j
 all_goals first | exact hj | omega
theorem bclone_un2 (w : World) (q o : Nat) (l : List Bk.Un) (hs : SlF Bk.unC w (some ⟨q, o, none⟩) 16 16 l) : Calls Tryz.prog 49 #[.slice (some ⟨q, o, none⟩) 16 16] w (fun e w' => ∃ g c, e = .returned (.slice (some ⟨g, 0, none⟩) 16 c) ∧ w'.ownsRow w.heap.size 37 3 (.slice (some ⟨g, 0, none⟩) 16 c) 16 (l.flatMap Bk.unC) ∧ Below w.heap.size w w') := by
 have hl := hs.len
 have hnil := fun W a n c => Lib.run_eql_slice_nil (P := Tryz.prog) W 62 37 a n c 0 0 Tryz.underlying62
 have O0 := Lib.hid (own_none (enc := Bk.unC) (k := 3) (e := 37) w)
 have hb1 : Below w.heap.size w (w.alloc (.cells #[] 37)) := (Below.refl _ _).alloc (Nat.le_refl _) _
 have S1 := Lib.hid (hs.on hb1)
 have B1 := Lib.hid hb1
 have HL := Lib.hid hl
 clear hs hl hb1
 go_enter Tryz.func49, Tryz.ntmps49
 go_upto_region 3 with fail
 go_wp2_with (at_builtin; refine wpList_append_all unC_len unC_one Tryz.underlying62 un_info rfl (by omega) rfl (.tmp 5) (.tmp 6) rfl w.heap.size _ [] l rfl O0.out rfl S1.out (by have := HL.out; simp; unfold maxLen; omega) (by have := HL.out; simp; omega) (by have := B1.out.size; omega) ?_; intro v1 w1 ho1 hb1 _ _; have O1 := Lib.hid ho1; have B2 := Lib.hid hb1; clear ho1 hb1)
 go_ret
 have ho := O1.out
 rw [List.nil_append] at ho
 have h16 := ho
 unfold OwF at h16
 rw [← HL.out] at h16
 obtain ⟨g, c, rfl⟩ := Joins.ownsRow_form h16 (by omega)
 exact ⟨g, c, rfl, h16, B1.out.trans B2.out⟩
set_option maxHeartbeats 3200000 in
theorem bunits_any (q : Nat) (s : Bk.St) (ru : Nat → Bk.Un) (rv : Int) (lo ko : Option Nat) (H : Value) (K : Kv.St) (w : World) (h : BdIs w q s ru rv lo ko H K) : Calls Tryz.prog 28 #[.pointer (some ⟨q, 0, none⟩)] w (BList Bk.unC (Bk.units s) w) := by
 have A0 := Lib.hid h.at_
 have HR := Lib.hid (mix_units h.raw)
 have CC := Lib.hid (bclone_un2 w q 26 _ (mix_cells h.at_))
 have lq := h.lt.1
 clear h
 go_enter Tryz.func28, Tryz.ntmps28
 go_upto_region 3 with fail
 go_wp2_with (go_at_call 49; (with_reducible refine CC.out.mono ?_); rintro e w1 hp; obtain ⟨g, c9, rfl, ho, hb⟩ := hp; have O1 := Lib.hid ho; have B1 := Lib.hid hb; clear ho hb)
 go_loopw [15] (fun i wr => ∃ j : Nat, j ≤ 16 ∧ i = .int .i64 j ∧ wr.ownsRow w.heap.size 37 3 (.slice (some ⟨g, 0, none⟩) 16 c9) 16 ((Bd.mix ru j).flatMap Bk.unC) ∧ Below w.heap.size w wr) (fun i wr => 16 - (intOf i).toNat)
 case atStart => exact ⟨0, Nat.zero_le _, rfl, O1.out, B1.out⟩
 case round =>
  obtain ⟨j, hj, rfl, ho, hbr⟩ := hrel
  have O := Lib.hid ho
  have B := Lib.hid hbr
  clear ho hbr
  have i1 : (0 : Int) ≤ (j : Int) := by omega
  by_cases hlt : j < 16
  ·have q1 : ((j : Nat) : Int) < 16 := by omega
   have lg := (O.out.lt g rfl).2
   have lb := (O.out.lt g rfl).1
   have hm := mix_get ru hlt
   have u0 := (O.out.cellAt (j * 3) (by omega)).trans hm.1
   have u1 := (O.out.cellAt (j * 3 + 1) (by omega)).trans hm.2.1
   have u2 := (O.out.cellAt (j * 3 + 2) (by omega)).trans hm.2.2
   have MS := Lib.hid (mix_set ru hlt)
   clear hm
   generalize (ru j).v = uv at *
   generalize (ru j).q = uq at *
   generalize (ru j).d = ud at *
   go_upto_region 7 with fail
   have hb2 : Below wr.heap.size wr (wr.alloc (.cells #[.int .i64 uv, .int .i64 uq, .bool ud] 37)) := (Below.refl _ _).alloc (Nat.le_refl _) _
   have hn : (wr.alloc (.cells #[.int .i64 uv, .int .i64 uq, .bool ud] 37)).heap[wr.heap.size]? = some (.cells #[.int .i64 uv, .int .i64 uq, .bool ud] 37 (0, 0)) := heap_alloc_new wr _
   have B2 := Lib.hid (B.out.trans (hb2.mono B.out.size))
   have O2 := Lib.hid (World.ownsRow.alloc O.out (.cells #[.int .i64 uv, .int .i64 uq, .bool ud] 37))
   have e1 : (wr.alloc (.cells #[.int .i64 uv, .int .i64 uq, .bool ud] 37)).cell? ⟨wr.heap.size, 1, none⟩ = some (.int .i64 uq) := by rw [cell_of_row _ wr.heap.size 1 _ _ _ hn]; rfl
   have e2 : (wr.alloc (.cells #[.int .i64 uv, .int .i64 uq, .bool ud] 37)).cell? ⟨wr.heap.size, 2, none⟩ = some (.bool ud) := by rw [cell_of_row _ wr.heap.size 2 _ _ _ hn]; rfl
   have ec := (World.ownsRow.alloc O.out (.cells #[.int .i64 uv, .int .i64 uq, .bool ud] 37)).cellAt (j * 3 + 2) (by omega)
   have fc := (World.ownsRow.alloc O.out (.cells #[.int .i64 uv, .int .i64 uq, .bool ud] 37)).frozenAt (j * 3 + 2)
   have ec2 := ec.trans ((O.out.cellAt (j * 3 + 2) (by omega)).symm.trans u2)
   clear hb2 hn u0 u1 u2 ec
   generalize wr.alloc (.cells #[.int .i64 uv, .int .i64 uq, .bool ud] 37) = W2 at *
   obtain ⟨g2, hg2⟩ : ∃ g2, g2 = wr.heap.size := ⟨_, rfl⟩
   rw [← hg2] at e1 e2 ⊢
   clear hg2
   have FIN : Hid (∀ b, b = (ud || decide (uq = 0)) → (W2.setCell ⟨g, j * 3 + 2, none⟩ (.bool b)).ownsRow w.heap.size 37 3 (.slice (some ⟨g, 0, none⟩) 16 c9) 16 ((Bd.mix ru (j + 1)).flatMap Bk.unC) ∧ Below w.heap.size w (W2.setCell ⟨g, j * 3 + 2, none⟩ (.bool b))) := by
    intro b hb
    have h1 := (O2.out.stored (j * 3 + 2) (.bool b)).1
    rw [hb, MS.out] at h1
    exact ⟨hb ▸ h1, B2.out.setCell (p := ⟨g, j * 3 + 2, none⟩) lb _⟩
   clear MS
   cases ud with
   | true =>
    go_wp2_with fail
    refine ⟨⟨j + 1, by omega, by go_num, (FIN.out true (by simp)).1, (FIN.out true (by simp)).2⟩, by simp [intOf]; omega⟩
   | false =>
    by_cases h0 : uq = 0
    ·have q2 : (uq == 0) = true := by simpa using h0
     go_wp2_with fail
     refine ⟨⟨j + 1, by omega, by go_num, (FIN.out true (by simp [h0])).1, (FIN.out true (by simp [h0])).2⟩, by simp [intOf]; omega⟩
    ·have q2 : (uq == 0) = false := by simpa using h0
     go_wp2_with fail
     refine ⟨⟨j + 1, by omega, by go_num, (FIN.out false (by simp [h0])).1, (FIN.out false (by simp [h0])).2⟩, by simp [intOf]; omega⟩
  ·have q1 : (16 : Int) ≤ (j : Nat) := by omega
   obtain rfl : j = 16 := by omega
   have O2 := O.out
   rw [HR.out] at O2
   have O3 : OwF Bk.unC 3 37 wr w.heap.size (.slice (some ⟨g, 0, none⟩) 16 c9) (Bk.units s) := O2
   have O4 := Lib.hid O3
   clear O2 O3 
   go_wp2_with fail
   go_ret
   refine ⟨_, c9, rfl, O4.out.sl, B.out, fun b o e => ?_⟩
   injection e with e
   injection e with e
   subst e
   exact (O4.out.lt g rfl).1
end Go.Proofs.YtnacjhnfkkddcaaGreatDoor
namespace Go.Proofs.YtnacjhnfkkddcaaGreatDoor
open Go.RowKit Go.Deep Go.Maps
set_option maxRecDepth 100000
set_option linter.unusedSimpArgs false
set_option linter.unusedVariables false
abbrev BP (w0 : World) (F : Nat → Prop) (q : Nat) (s : Bk.St) (W : World) : Prop := BAt BdP w0 F q s W
section
variable {w0 W W' : World} {F G : Nat → Prop} {q : Nat} {s : Bk.St}
theorem bp_on (h : BP w0 F q s W) (hb : Below W.heap.size W W') : BP w0 F q s W' := by
 obtain ⟨X, h1, h2, h3, h4⟩ := h
 exact ⟨X, bdp_below h1 hb, h2, fun b hb2 => ⟨(h3 b hb2).1, Nat.lt_of_lt_of_le (h3 b hb2).2 hb.size⟩, h4.trans (hb.mono h4.size)⟩
theorem bp_ok (h : BP w0 F q s W) : Bk.Ok s := by
 obtain ⟨X, h1, h2, h3, h4⟩ := h
 exact bdp_ok h1
theorem bp_below (h : BP w0 F q s W) : Below w0.heap.size w0 W := by
 obtain ⟨X, h1, h2, h3, h4⟩ := h
 exact h4
theorem bp_less (h : BP w0 F q s W) (hG : ∀ b, G b → F b) : BP w0 G q s W := by
 obtain ⟨X, h1, h2, h3, h4⟩ := h
 exact ⟨X, h1, h2, fun b hb => h3 b (hG b hb), h4⟩
theorem bp_more (h : BP w0 F q s W) (hb : Below W.heap.size W W') : BP w0 (fun b => F b ∨ (W.heap.size ≤ b ∧ b < W'.heap.size)) q s W' := by
 obtain ⟨X, h1, h2, h3, h4⟩ := h
 refine ⟨X, bdp_below h1 hb, h2, fun b hb2 => ?_, h4.trans (hb.mono h4.size)⟩
 rcases hb2 with hf | ⟨hge, hlt⟩
 ·exact ⟨(h3 b hf).1, Nat.lt_of_lt_of_le (h3 b hf).2 hb.size⟩
 ·exact ⟨fun hx => by have := bdp_lt h1 b hx; omega, hlt⟩
theorem bp_apply (h : BP w0 F q s W) (ht : BT W) {r : Rc.R} (hr : Rc.In r) : Calls Tryz.prog 22 #[.pointer (some ⟨q, 0, none⟩), .agg (Rc.cells r)] W (BRes BdP w0 F q (Bk.app s r) (.int .i64 (Bk.chk s r)) W) := by
 obtain ⟨X, h1, h2, h3, h4⟩ := h
 refine (bdp_apply h1 ht r hr).mono fun _ w' hp => ?_
 obtain ⟨X', e1, e2, e3, e4⟩ := hp
 refine ⟨e1, ⟨X', e2, fun i hi => ?_, fun b hb => ⟨fun hx => ?_, Nat.lt_of_lt_of_le (h3 b hb).2 e4.size⟩, h4.trans (e4.below h4.size h2)⟩, fun b hb => e4.block b (h3 b hb).2 (h3 b hb).1⟩
 ·rcases e3 i hi with h | h
  ·exact h2 i h
  ·exact Nat.le_trans h4.size h
 ·rcases e3 b hx with h | h
  ·exact (h3 b hb).1 h
  ·have := (h3 b hb).2; omega
theorem bp_new (w : World) (m : Int) : Calls Tryz.prog 20 #[.int .i64 m] w (fun e w' => ∃ q, e = .returned (.pointer (some ⟨q, 0, none⟩)) ∧ BP w (fun _ => False) q (Bk.new m) w') := by
 refine (DA.new w m).mono fun e w' hp => ?_
 obtain ⟨q, rfl, ⟨X, h1, h2⟩, h3⟩ := hp
 exact ⟨q, rfl, X, h1, h2, fun b hb => hb.elim, h3⟩
theorem bp_view (h : BP w0 F q s W) : Calls Tryz.prog 21 #[.pointer (some ⟨q, 0, none⟩)] W (BRet (.agg (Bk.viewC s)) W) := by
 obtain ⟨X, ⟨ru, rv, lo, ko, H, K, h1, _⟩, _⟩ := h
 exact bview_any q s ru rv lo ko H K W h1
theorem bp_units (h : BP w0 F q s W) : Calls Tryz.prog 28 #[.pointer (some ⟨q, 0, none⟩)] W (BList Bk.unC (Bk.units s) W) := by
 obtain ⟨X, ⟨ru, rv, lo, ko, H, K, h1, _⟩, _⟩ := h
 exact bunits_any q s ru rv lo ko H K W h1
theorem bp_hist (h : BP w0 F q s W) : Calls Tryz.prog 26 #[.pointer (some ⟨q, 0, none⟩)] W (BList Bk.rcC s.h W) := by
 obtain ⟨X, ⟨ru, rv, lo, ko, H, K, h1, _⟩, _⟩ := h
 exact bhist_any q s ru rv lo ko H K W h1
theorem bp_made {m : Int} {l : List Rc.R} {f : Value → Value} {w w' : World} {e : Ending} (h : BMade BdP (Bk.all m l) f w e w') : ∃ q, e = .returned (f (.pointer (some ⟨q, 0, none⟩))) ∧ BP w (fun _ => False) q (Bk.all m l) w' := by
 obtain ⟨q, X, rfl, h1, h2, h3⟩ := h
 exact ⟨q, rfl, X, h1, h2, fun b hb => hb.elim, h3⟩
end
theorem wpList_built {P : Program} {ops : Array Oper} {rest : List Oper} {o : Oper} {a : Act} {w : World} {Q : Exit → Act → World → Prop} (hg : o.guard = none) (t : TypeId) (parts : Array (Nat × Operand)) (ho : o.op = .build t parts) (cells : Array Value)
  (hf : P.built t (parts.map fun (i, x) => (i, a.eval x)).toList = some cells) (h : wpList P ops Q rest (a.put o.dst (.agg cells)) w) : wpList P ops Q (o :: rest) a w :=
 wpList_plain hg fun _ hK => by
  unfold Oper.wp execOp
  simp only [ho, Sem.run_bind, run_build w t _ cells hf, Result.andThen_ok]
  exact hK _ _ h
theorem vf3 (s : Bk.St) (w : World) : (Instr.field 48 (.agg (Bk.viewC s)) 3).run Tryz.prog w = .ok (.int .i64 s.stable) w := by
 simp [Instr.field, run_underlying Tryz.underlying48, asAgg, part, isAgg, run_underlying Tryz.underlying3, go_sem, Bk.viewC]
theorem vf5 (s : Bk.St) (w : World) : (Instr.field 48 (.agg (Bk.viewC s)) 5).run Tryz.prog w = .ok (.int .i64 s.ph) w := by
 simp [Instr.field, run_underlying Tryz.underlying48, asAgg, part, isAgg, run_underlying Tryz.underlying3, go_sem, Bk.viewC]
theorem vf9 (s : Bk.St) (w : World) : (Instr.field 48 (.agg (Bk.viewC s)) 9).run Tryz.prog w = .ok (.int .i64 s.seq) w := by
 simp [Instr.field, run_underlying Tryz.underlying48, asAgg, part, isAgg, run_underlying Tryz.underlying3, go_sem, Bk.viewC]
end Go.Proofs.YtnacjhnfkkddcaaGreatDoor
namespace Go.Proofs.YtnacjhnfkkddcaaGreatDoor
open Go.RowKit Go.Deep Go.Maps
set_option maxRecDepth 100000
set_option linter.unusedSimpArgs false
set_option linter.unusedVariables false
def lvr1 : Rc.R := ⟨1, 1, 0, 0, 9, ⟨#[]⟩, ⟨0, 0, 0, 0, 0, 0, 0, 0, 0, 0, 0, 0⟩⟩
def lvr2 : Rc.R := ⟨2, 1, 0, 1, 0, ⟨#[120]⟩, ⟨0, 0, 0, 0, 0, 0, 0, 0, 0, 0, 0, 0⟩⟩
def lvsp : Spc.Sp := ⟨1, 1, 1, 0, 1, 0, 0, 0, 0, 1, 0, 9⟩
def lvr3 : Rc.R := ⟨3, 1, 0, 0, 0, ⟨#[]⟩, lvsp⟩
def lvr4 : Rc.R := ⟨4, 1, 0, 3, 0, ⟨#[100, 111, 110, 101]⟩, ⟨0, 0, 0, 0, 0, 0, 0, 0, 0, 0, 0, 0⟩⟩
def lvrs : List Rc.R := [lvr1, lvr2, lvr3, lvr4]
theorem lvrs_n : Bk.allN 2 lvrs = 4 := by kernel_rfl
theorem lvrs_stable : (Bk.all 2 lvrs).stable = 1 := by kernel_rfl
theorem lvrs_ph : (Bk.all 2 lvrs).ph = 3 := by kernel_rfl
theorem lvrs_h : (Bk.all 2 lvrs).h.length = 2 := by kernel_rfl
theorem lvrs_in : ∀ r ∈ lvrs, Rc.In r := by
 intro r hr
 simp only [lvrs, List.mem_cons, List.not_mem_nil, or_false] at hr
 rcases hr with rfl | rfl | rfl | rfl
 all_goals refine ⟨by intro x hx; simp [Rc.nums, lvr1, lvr2, lvr3, lvr4] at hx; unfold Spc.i64; omega, by decide, by intro x hx; simp [Spc.flds, lvr1, lvr2, lvr3, lvr4, lvsp] at hx; unfold Spc.i64; omega⟩
theorem lvrs_row (w : World) : SlF Bk.rcC (w.alloc (.cells (lvrs.flatMap Bk.rcC).toArray 53)) (some ⟨w.heap.size, 0, none⟩) 4 4 lvrs := by
 refine ⟨fun _ => ⟨w.heap.size, 0, rfl, by simp, fun j u hj => ?_⟩, rfl, Nat.le_refl _, by unfold maxLen; omega, fun e => by cases e⟩
 rw [cell_of_row _ w.heap.size _ _ _ _ (heap_alloc_new w _), Nat.zero_add, List.getElem?_toArray]
 exact hj
theorem units_len (s : Bk.St) : (Bk.units s).length = 16 := rfl
end Go.Proofs.YtnacjhnfkkddcaaGreatDoor
namespace Go.Proofs.YtnacjhnfkkddcaaGreatDoor
open Go.RowKit Go.Deep Go.Maps
set_option maxRecDepth 100000
set_option linter.unusedSimpArgs false
set_option linter.unusedVariables false
def lvspC (n : Int) : Array Value := #[.int .i64 n, .int .i64 1, .int .i64 1, .int .i64 0, .int .i64 1, .int .i64 0, .int .i64 0, .int .i64 0, .int .i64 0, .int .i64 1, .int .i64 0, .int .i64 9]
theorem lvspC_size (n : Int) : (Tryz.prog.info? 35).map (·.size) = some (lvspC n).size := by kernel_rfl
theorem lvspC_one (n : Int) : (lvspC n).all (·.oneCell') = true := by
 simp [lvspC]
 simp [Value.oneCell']
theorem wpList_store_lvsp {w : World} {ops : Array Oper} {rest : List Oper} {op : Oper} {a : Act} {Q : Exit → Act → World → Prop} {g : Nat} {n : Int} {cs : Array Value} (hgd : op.guard = none) (x y : Operand) (ho : op.op = .store 35 x y) (hx : a.eval x = .pointer (some ⟨g, 0, none⟩)) (hy : a.eval y = .agg (lvspC n)) (hg : w.heap[g]? = some (.cells cs 35 (0, 0))) (hc : cs.size = (lvspC n).size)
  (h : wpList Tryz.prog ops Q rest (a.put op.dst undef) (w.setRow g (lvspC n))) : wpList Tryz.prog ops Q (op :: rest) a w :=
 wpList_store_row hgd 35 x y ho g (lvspC n) hx hy 35 _ hg (lvspC_size n) hc (lvspC_one n) h
theorem some_any (n : Int) (w : World) : Calls Tryz.prog 30 #[.int .i64 n] w (BRet (.agg (lvspC n)) w) := by
 have hzs : ∀ W : World, (zeroValue 35).run Tryz.prog W = .ok (.agg #[.int .i64 0, .int .i64 0, .int .i64 0, .int .i64 0, .int .i64 0, .int .i64 0, .int .i64 0, .int .i64 0, .int .i64 0, .int .i64 0, .int .i64 0, .int .i64 0]) W := (zero_of_info (n := 12) (by kernel_rfl)).1
 have R0 := heap_alloc_new w (.cells #[.int .i64 0, .int .i64 0, .int .i64 0, .int .i64 0, .int .i64 0, .int .i64 0, .int .i64 0, .int .i64 0, .int .i64 0, .int .i64 0, .int .i64 0, .int .i64 0] 35)
 have B0 := Lib.hid ((Below.refl w.heap.size w).alloc (Nat.le_refl _) (.cells #[.int .i64 0, .int .i64 0, .int .i64 0, .int .i64 0, .int .i64 0, .int .i64 0, .int .i64 0, .int .i64 0, .int .i64 0, .int .i64 0, .int .i64 0, .int .i64 0] 35))
 go_enter Tryz.func30, Tryz.ntmps30
 go_upto_region 1 with fail
 obtain ⟨g, hg⟩ : ∃ g, g = w.heap.size := ⟨_, rfl⟩
 rw [← hg] at R0 ⊢
 have GE : Hid (w.heap.size ≤ g) := Nat.le_of_eq hg.symm
 clear hg
 generalize w.alloc (.cells #[.int .i64 0, .int .i64 0, .int .i64 0, .int .i64 0, .int .i64 0, .int .i64 0, .int .i64 0, .int .i64 0, .int .i64 0, .int .i64 0, .int .i64 0, .int .i64 0] 35) = W1 at *
 go_wp2_with (first
  | ((with_reducible show wpList _ _ _ ({ dst := some 4, op := .build _ _, type := _, pos := _, after := _, guard := _ } :: _) _ _); refine wpList_built rfl 35 _ rfl (lvspC n) (by kernel_rfl) ?_)
  | ((with_reducible show wpList _ _ _ ({ dst := none, op := .store _ _ _, type := _, pos := _, after := _, guard := _ } :: _) _ _); refine wpList_store_lvsp (n := n) rfl (.tmp 2) (.tmp 4) rfl rfl rfl R0 rfl ?_))
 try simp only [Exit.inBlock, Exit.then]
 exact bodyPost_ret (v := .agg (lvspC n)) (results_cell_row (P := Tryz.prog) Tryz.results30 _ _ g 35 (lvspC n) (0, 0) _ rfl (setRow_heap W1 g _ _ _ _ R0) spec_fields rfl (lvspC_size n)) rfl ⟨rfl, below_setRow B0.out GE.out _⟩
set_option maxHeartbeats 3200000 in
theorem lives_any (W : World) (ht : BT W) : Calls Tryz.prog 11 #[] W (BRet (.bool true) W) := by
 have CSM := Lib.hid (fun w => some_any 1 w)
 have CA := Lib.hid (fun (w : World) (h2 : BT w) => ball_any 2 _ 4 4 lvrs lvrs_in (w.alloc (.cells (lvrs.flatMap Bk.rcC).toArray 53)) (lvrs_row w) (by omega) (h2.on ((Below.refl _ _).alloc (Nat.le_refl _) _)))
 have T0 := Lib.hid ht
 have E1 := Lib.hid lvrs_n
 have E2 := Lib.hid lvrs_stable
 have E3 := Lib.hid lvrs_ph
 have E4 := Lib.hid lvrs_h
 have AB : Hid (∀ (w w' : World) e, BMade BdP (Bk.all 2 lvrs) (fun p => .tuple #[p, .int .i64 (Bk.allN 2 lvrs : Nat)]) w e w' → ∃ q, e = .returned (.tuple #[.pointer (some ⟨q, 0, none⟩), .int .i64 4]) ∧ BP w (fun _ => False) q (Bk.all 2 lvrs) w') := fun w w' e h => by
  obtain ⟨q, rfl, h2⟩ := bp_made h
  exact ⟨q, by show _ = _; rw [E1.out]; rfl, h2⟩
 clear E1 ht
 have hv3 : ∀ w, (Instr.field 48 (.agg (Bk.viewC (Bk.all 2 lvrs))) 3).run Tryz.prog w = .ok (.int .i64 1) w := fun w => by rw [vf3, E2.out]
 have hv5 : ∀ w, (Instr.field 48 (.agg (Bk.viewC (Bk.all 2 lvrs))) 5).run Tryz.prog w = .ok (.int .i64 3) w := fun w => by rw [vf5, E3.out]
 clear E2 E3
 generalize Bk.all 2 lvrs = s at *
 go_enter Tryz.func11, Tryz.ntmps11
 go_upto_region 2 with (first
  | ((with_reducible show wpList _ _ _ ({ dst := some 4, op := .build _ _, type := _, pos := _, after := _, guard := _ } :: _) _ _); refine wpList_built rfl 53 _ rfl (Rc.cells lvr1) (by kernel_rfl) ?_)
  | ((with_reducible show wpList _ _ _ ({ dst := some 5, op := .build _ _, type := _, pos := _, after := _, guard := _ } :: _) _ _); refine wpList_built rfl 53 _ rfl (Rc.cells lvr2) (by kernel_rfl) ?_)
  | ((with_reducible show wpList _ _ _ ({ dst := some 7, op := .build _ _, type := _, pos := _, after := _, guard := _ } :: _) _ _); refine wpList_built rfl 53 _ rfl (Rc.cells lvr3) (by kernel_rfl) ?_)
  | ((with_reducible show wpList _ _ _ ({ dst := some 8, op := .build _ _, type := _, pos := _, after := _, guard := _ } :: _) _ _); refine wpList_built rfl 53 _ rfl (Rc.cells lvr4) (by kernel_rfl) ?_)
  | ((with_reducible show wpList _ _ _ ({ dst := some 9, op := .buildSlice _ _ _, type := _, pos := _, after := _, guard := _ } :: _) _ _); obtain ⟨i0, hi, hz0, hz1, hz2⟩ := info_parts rc_info; refine wpList_buildSlice rfl 22 53 4 _ rfl (lvrs.flatMap Bk.rcC).toArray i0 _ Tryz.underlying22 hi hz0 (by rw [hz1]; omega) (by rw [hz1]; omega) (by rw [hz1]; kernel_rfl) ?_; clear hi hz0 hz1 hz2 i0)
  | (go_at_call 30; (with_reducible refine (CSM.out _).mono ?_); rintro e w1 ⟨rfl, hb⟩; have B1 := Lib.hid hb; clear hb)
  | (go_at_call 14; (with_reducible refine (CA.out _ (T0.out.on B1.out)).mono ?_); rintro e w2 hp; have B2 := Lib.hid (B1.out.trans (((Below.refl w1.heap.size w1).alloc (Nat.le_refl _) (.cells (lvrs.flatMap Bk.rcC).toArray 53)).mono B1.out.size)); obtain ⟨q, rfl, hbp⟩ := AB.out _ _ _ hp; have D := Lib.hid hbp; clear hp hbp))
 have B3 := Lib.hid (B2.out.trans ((bp_below D.out).mono B2.out.size))
 clear B2 B1 CA CSM AB
 have hl2 : s.h.length = 2 := E4.out
 go_wp2_with (first
  | (go_at_call 21; (with_reducible refine (bp_view D.out).mono ?_); rintro e w4 ⟨rfl, hb⟩; have D := Lib.hid (bp_on D.out hb); have B3 := Lib.hid (B3.out.trans (hb.mono B3.out.size)); clear hb)
  | (go_at_call 26; (with_reducible refine (bp_hist D.out).mono ?_); rintro e w4 hp; obtain ⟨A8, c8, rfl, p1, hb, p3⟩ := hp; have D := Lib.hid (bp_on D.out hb); have B3 := Lib.hid (B3.out.trans (hb.mono B3.out.size)); clear hb p1 p3)
  | (go_at_call 28; (with_reducible refine (bp_units D.out).mono ?_); rintro e w4 hp; obtain ⟨A7, c7, rfl, p1, hb, p3⟩ := hp; have B9 := Lib.hid (B3.out.trans (hb.mono B3.out.size)); clear hb p1 p3))
 go_ret
 exact ⟨rfl, B9.out⟩
end Go.Proofs.YtnacjhnfkkddcaaGreatDoor
