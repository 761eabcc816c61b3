/-
  Arguments of layer 15's laws: a slot by value, rows of two numbers, opened. No condition.
-/
import Derived.Test.YtlkfbnafookjdaaSlotWalksWalk
import Derived.OpenShut
import Derived.Deep.Slices
import Derived.Laws.IdiomArrays
namespace Go.Proofs.Ytlkfbnafookjdaa
open Go Go.RowKit Go.Deep

theorem su_types : Try.prog.cellTypes Try.prog.depth 23 = some [3, 3, 3, 3] := by kernel_rfl
theorem su_count : Try.prog.cellsOf 23 = 4 := by kernel_rfl
theorem open_su {W : World} {r : Reach} {b0 : Nat} {v : Value} (hv : Value.okWide Try.prog W r b0 23 v) : ∃ s : Su.S, v = suV s ∧ True := by
  obtain ⟨cs, rfl, hl, key⟩ := agg_open (ts := [3, 3, 3, 3]) Try.underlying23 su_count su_types hv
  clear hv
  obtain ⟨c0, e0, k0⟩ := key 0 _ rfl
  obtain ⟨c1, e1, k1⟩ := key 1 _ rfl
  obtain ⟨c2, e2, k2⟩ := key 2 _ rfl
  obtain ⟨c3, e3, k3⟩ := key 3 _ rfl
  clear key
  obtain ⟨n0, rfl, i0⟩ := cell_int Try.underlying3 k0
  obtain ⟨n1, rfl, i1⟩ := cell_int Try.underlying3 k1
  obtain ⟨n2, rfl, i2⟩ := cell_int Try.underlying3 k2
  obtain ⟨n3, rfl, i3⟩ := cell_int Try.underlying3 k3
  clear k0 k1 k2 k3
  obtain ⟨a0, a1, a2, a3, rfl⟩ : ∃ a0 a1 a2 a3, cs = [a0, a1, a2, a3] := by
    match cs, hl with
    | [a0, a1, a2, a3], _ => exact ⟨_, _, _, _, rfl⟩
  simp at e0 e1 e2 e3
  subst e0 e1 e2 e3
  exact ⟨⟨n0, n1, n2, n3⟩, rfl, trivial⟩
theorem arr2 : Try.prog.underlying 29 = some (.array 2 3) := by kernel_rfl
theorem arr2Cells : Try.prog.cellsOf 29 = 2 := by kernel_rfl
theorem int1Cells : Try.prog.cellsOf 3 = 1 := by kernel_rfl
theorem ea2_of {H : Type} {enc : TypeId × Value → H} {w : World} {held : Bool} (f : Nat) (cs : List Value) (y : DataW H × List MemPlace) (h : DataW.trod enc Try.prog w 0 (fun _ => true) held f 29 cs = some y) (hl : cs.length = 2) : ∃ t, EA2 w cs t := by
  obtain ⟨xs, m, _, _, _, hxl, hxs⟩ := DataW.trod_array arr2 h
  match cs, hl with
  | [a, b], _ =>
    have h0 := hxs 0 (by omega)
    have h1 := hxs 1 (by omega)
    rw [int1Cells, List.getElem?_eq_getElem (by omega)] at h0 h1
    obtain ⟨x0, e0, _, _⟩ := DataW.trod_int (cs := [a]) Try.underlying3 h0
    obtain ⟨x1, e1, _, _⟩ := DataW.trod_int (cs := [b]) Try.underlying3 h1
    simp at e0 e1
    subst e0 e1
    exact ⟨(x0, x1), rfl⟩
theorem twos_of {H : Type} {enc : TypeId × Value → H} {w : World} {held : Bool} {A : Option Addr} {n c : Nat} {f : Nat} {y : DataW H × List MemPlace} (h : DataW.trod enc Try.prog w 0 (fun _ => true) held f 25 [.slice A n c] = some y) : ∃ ts, SlA w A n c ts :=
  slr_of Try.underlying25 arr2Cells (by omega) ea2_of h
end Go.Proofs.Ytlkfbnafookjdaa
