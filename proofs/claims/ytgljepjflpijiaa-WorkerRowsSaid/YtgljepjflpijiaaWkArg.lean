/-
  Arguments of layer 16: rows of steps, opened. No condition.
-/
import Derived.Test.YtgljepjflpijiaaNtArgM
import Derived.Test.YtgljepjflpijiaaWkStep
namespace Go.Proofs.Ytgljepjflpijiaa
open Go Go.RowKit Go.Deep
set_option linter.unusedVariables false
set_option maxRecDepth 100000

/-- A step's cells. -/
def wstC (p : WStep) : List Value := [.int .i64 p.k, .int .i64 p.u] ++ Nt.mC p.m
theorem wstC_len (p : WStep) : (wstC p).length = 8 := rfl
def EWst (_ : World) (cs : List Value) (p : WStep) : Prop := cs = wstC p ∧ p.In
theorem wst_trod {H : Type} {enc : TypeId × Value → H} {w : World} {held : Bool} (f : Nat) (cs : List Value) (y : DataW H × List MemPlace) (h : DataW.trod enc Try.prog w 0 (fun _ => true) held f 40 cs = some y) (hl : cs.length = 8) : ∃ p, EWst w cs p := by
  obtain ⟨xs, n, _, _, _, hxl, hf⟩ := DataW.trod_struct Try.underlying40 h
  match cs, hl with
  | [a0, a1, a2, a3, a4, a5, a6, a7], _ =>
    have hxl3 : xs.length = 3 := hxl
    have k1 : Try.prog.cellsOf 3 = 1 := by kernel_rfl
    have h0 : DataW.trod enc Try.prog w 0 (fun _ => true) held n 3 (([a0, a1, a2, a3, a4, a5, a6, a7].drop 0).take (Try.prog.cellsOf 3)) = xs[0]? := hf 0 _ rfl
    have h1 : DataW.trod enc Try.prog w 0 (fun _ => true) held n 3 (([a0, a1, a2, a3, a4, a5, a6, a7].drop 1).take (Try.prog.cellsOf 3)) = xs[1]? := hf 1 _ rfl
    have h2 : DataW.trod enc Try.prog w 0 (fun _ => true) held n 38 (([a0, a1, a2, a3, a4, a5, a6, a7].drop 2).take (Try.prog.cellsOf 38)) = xs[2]? := hf 2 _ rfl
    rw [k1] at h0 h1
    rw [msg_count] at h2
    rw [List.getElem?_eq_getElem (by omega)] at h0 h1 h2
    obtain ⟨x0, e0, _, w0⟩ := DataW.trod_int (cs := [a0]) Try.underlying3 h0
    obtain ⟨x1, e1, _, w1⟩ := DataW.trod_int (cs := [a1]) Try.underlying3 h1
    obtain ⟨m, e2, w2⟩ := msg_trod _ [a2, a3, a4, a5, a6, a7] _ h2 rfl
    simp at e0 e1
    subst e0 e1
    have hc : [.int .i64 x0, .int .i64 x1] ++ [a2, a3, a4, a5, a6, a7] = wstC ⟨x0, x1, m⟩ := by rw [e2]; rfl
    exact ⟨⟨x0, x1, m⟩, hc, n64_wf w0, n64_wf w1, w2⟩
theorem wst_count : Try.prog.cellsOf 40 = 8 := by kernel_rfl
/-- A row of steps that is read. -/
def SlW (w : World) (A : Option Addr) (n c : Nat) (ts : List WStep) : Prop := SlF wstC w A n c ts ∧ ∀ p ∈ ts, p.In
theorem wsts_of {H : Type} {enc : TypeId × Value → H} {w : World} {held : Bool} {A : Option Addr} {n c : Nat} {f : Nat} {y : DataW H × List MemPlace} (h : DataW.trod enc Try.prog w 0 (fun _ => true) held f 22 [.slice A n c] = some y) : ∃ ts, SlW w A n c ts := by
  obtain ⟨ts, h1⟩ := slr_of Try.underlying22 wst_count (by omega) wst_trod h
  refine ⟨ts, sle_of wstC_len h1 (fun _ _ e => e.1), fun r hr => ?_⟩
  obtain ⟨j, hj, e⟩ := List.mem_iff_getElem.1 hr
  obtain ⟨b, o, cs, _, _, _, _, h5⟩ := h1.rd j r (e ▸ List.getElem?_eq_getElem hj)
  exact h5.2
end Go.Proofs.Ytgljepjflpijiaa
