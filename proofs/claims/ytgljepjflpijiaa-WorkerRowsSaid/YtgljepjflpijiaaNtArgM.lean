/-
  Arguments: a message by value, rows of messages, opened (parted out of XNtArg in round 16). No condition.
-/
import Derived.Test.YtgljepjflpijiaaNtMem
import Derived.Test.YtgljepjflpijiaaAggOpen
namespace Go.Proofs.Ytgljepjflpijiaa
open Go Go.RowKit Go.Deep
set_option linter.unusedVariables false
set_option maxRecDepth 100000

theorem msg_types : Try.prog.cellTypes Try.prog.depth 38 = some [3, 3, 3, 3, 3, 3] := by kernel_rfl
theorem msg_count : Try.prog.cellsOf 38 = 6 := by kernel_rfl
theorem open_msg {W : World} {r : Reach} {b0 : Nat} {v : Value} (hv : Value.okWide Try.prog W r b0 38 v) : ∃ x : Nt.M, v = Nt.val x ∧ Nt.In x := by
  obtain ⟨cs, rfl, hl, key⟩ := agg_open (ts := [3, 3, 3, 3, 3, 3]) msg_fields msg_count msg_types hv
  clear hv
  have ki : ∀ j : Nat, ([3, 3, 3, 3, 3, 3] : List TypeId)[j]? = some 3 → ∃ n, cs[j]? = some (.int .i64 n) ∧ Nt.i64 n := fun j hj => by
    obtain ⟨c, e, k⟩ := key j _ hj
    obtain ⟨n, rfl, i⟩ := cell_int Try.underlying3 k
    exact ⟨n, e, i⟩
  obtain ⟨n0, e0, i0⟩ := ki 0 rfl
  obtain ⟨n1, e1, i1⟩ := ki 1 rfl
  obtain ⟨n2, e2, i2⟩ := ki 2 rfl
  obtain ⟨n3, e3, i3⟩ := ki 3 rfl
  obtain ⟨n4, e4, i4⟩ := ki 4 rfl
  obtain ⟨n5, e5, i5⟩ := ki 5 rfl
  clear key ki
  match cs, hl with
  | [a0, a1, a2, a3, a4, a5], _ =>
    simp at e0 e1 e2 e3 e4 e5
    subst e0 e1 e2 e3 e4 e5
    exact ⟨⟨n0, n1, n2, n3, n4, n5⟩, rfl, i0, i1, i2, i3, i4, i5⟩
theorem n64_wf {n : Int} (h : (Lit.int .i64 n).wf = true) : Nt.i64 n := by
  simp [Lit.wf, IntKind.min, IntKind.max, IntKind.signed, IntKind.bits] at h
  exact h
def EMs (_ : World) (cs : List Value) (m : Nt.M) : Prop := cs = Nt.mC m ∧ Nt.In m
theorem msg_trod {H : Type} {enc : TypeId × Value → H} {w : World} {held : Bool} (f : Nat) (cs : List Value) (y : DataW H × List MemPlace) (h : DataW.trod enc Try.prog w 0 (fun _ => true) held f 38 cs = some y) (hl : cs.length = 6) : ∃ m, EMs w cs m := by
  obtain ⟨xs, n, _, _, _, hxl, hf⟩ := DataW.trod_struct Try.underlying38 h
  match cs, hl with
  | [a0, a1, a2, a3, a4, a5], _ =>
    have hxl3 : xs.length = 6 := hxl
    have k1 : Try.prog.cellsOf 3 = 1 := by kernel_rfl
    have h0 : DataW.trod enc Try.prog w 0 (fun _ => true) held n 3 (([a0, a1, a2, a3, a4, a5].drop 0).take (Try.prog.cellsOf 3)) = xs[0]? := hf 0 _ rfl
    have h1 : DataW.trod enc Try.prog w 0 (fun _ => true) held n 3 (([a0, a1, a2, a3, a4, a5].drop 1).take (Try.prog.cellsOf 3)) = xs[1]? := hf 1 _ rfl
    have h2 : DataW.trod enc Try.prog w 0 (fun _ => true) held n 3 (([a0, a1, a2, a3, a4, a5].drop 2).take (Try.prog.cellsOf 3)) = xs[2]? := hf 2 _ rfl
    have h3 : DataW.trod enc Try.prog w 0 (fun _ => true) held n 3 (([a0, a1, a2, a3, a4, a5].drop 3).take (Try.prog.cellsOf 3)) = xs[3]? := hf 3 _ rfl
    have h4 : DataW.trod enc Try.prog w 0 (fun _ => true) held n 3 (([a0, a1, a2, a3, a4, a5].drop 4).take (Try.prog.cellsOf 3)) = xs[4]? := hf 4 _ rfl
    have h5 : DataW.trod enc Try.prog w 0 (fun _ => true) held n 3 (([a0, a1, a2, a3, a4, a5].drop 5).take (Try.prog.cellsOf 3)) = xs[5]? := hf 5 _ rfl
    rw [k1] at h0 h1 h2 h3 h4 h5
    rw [List.getElem?_eq_getElem (by omega)] at h0 h1 h2 h3 h4 h5
    obtain ⟨x0, e0, _, w0⟩ := DataW.trod_int (cs := [a0]) Try.underlying3 h0
    obtain ⟨x1, e1, _, w1⟩ := DataW.trod_int (cs := [a1]) Try.underlying3 h1
    obtain ⟨x2, e2, _, w2⟩ := DataW.trod_int (cs := [a2]) Try.underlying3 h2
    obtain ⟨x3, e3, _, w3⟩ := DataW.trod_int (cs := [a3]) Try.underlying3 h3
    obtain ⟨x4, e4, _, w4⟩ := DataW.trod_int (cs := [a4]) Try.underlying3 h4
    obtain ⟨x5, e5, _, w5⟩ := DataW.trod_int (cs := [a5]) Try.underlying3 h5
    simp at e0 e1 e2 e3 e4 e5
    subst e0 e1 e2 e3 e4 e5
    exact ⟨⟨x0, x1, x2, x3, x4, x5⟩, rfl, n64_wf w0, n64_wf w1, n64_wf w2, n64_wf w3, n64_wf w4, n64_wf w5⟩
/-- A row of messages that is read. -/
def SlM (w : World) (A : Option Addr) (n c : Nat) (ts : List Nt.M) : Prop := SlF Nt.mC w A n c ts ∧ ∀ m ∈ ts, Nt.In m
theorem msgs_of {H : Type} {enc : TypeId × Value → H} {w : World} {held : Bool} {A : Option Addr} {n c : Nat} {f : Nat} {y : DataW H × List MemPlace} (h : DataW.trod enc Try.prog w 0 (fun _ => true) held f 43 [.slice A n c] = some y) : ∃ ts, SlM w A n c ts := by
  obtain ⟨ts, h1⟩ := slr_of Try.underlying43 msg_count (by omega) msg_trod h
  refine ⟨ts, sle_of Nt.mC_len h1 (fun _ _ e => e.1), fun r hr => ?_⟩
  obtain ⟨j, hj, e⟩ := List.mem_iff_getElem.1 hr
  obtain ⟨b, o, cs, _, _, _, _, h5⟩ := h1.rd j r (e ▸ List.getElem?_eq_getElem hj)
  exact h5.2
end Go.Proofs.Ytgljepjflpijiaa
