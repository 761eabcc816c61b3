/-
  An argument that is a step by value, opened. No condition.
-/
import Derived.Test.YtemnioijgkahcaaAggOpen
import Derived.Test.YtemnioijgkahcaaLsRows
namespace Go.Proofs.Ytemnioijgkahcaa
open Go Go.RowKit

theorem lp_types : Try.prog.cellTypes Try.prog.depth 28 = some [3, 3, 3, 3, 3, 9] := by kernel_rfl
theorem open_lp {W : World} {r : Reach} {b0 : Nat} {v : Value} (hv : Value.okWide Try.prog W r b0 28 v) : ∃ p : Lp, v = .agg #[.int .i64 p.kind, .int .i64 p.who, .int .i64 p.ep, .int .i64 p.now, .int .i64 p.ttl, .string p.name] ∧ LpOk p := by
  obtain ⟨cs, rfl, hl, key⟩ := agg_open (ts := [3, 3, 3, 3, 3, 9]) Try.underlying28 lpCells lp_types hv
  clear hv
  obtain ⟨c0, e0, k0⟩ := key 0 _ rfl
  obtain ⟨c1, e1, k1⟩ := key 1 _ rfl
  obtain ⟨c2, e2, k2⟩ := key 2 _ rfl
  obtain ⟨c3, e3, k3⟩ := key 3 _ rfl
  obtain ⟨c4, e4, k4⟩ := key 4 _ rfl
  obtain ⟨c5, e5, k5⟩ := key 5 _ rfl
  clear key
  obtain ⟨n0, rfl, i0⟩ := cell_int Try.underlying3 k0
  obtain ⟨n1, rfl, i1⟩ := cell_int Try.underlying3 k1
  obtain ⟨n2, rfl, i2⟩ := cell_int Try.underlying3 k2
  obtain ⟨n3, rfl, i3⟩ := cell_int Try.underlying3 k3
  obtain ⟨n4, rfl, i4⟩ := cell_int Try.underlying3 k4
  obtain ⟨s5, rfl, i5⟩ := cell_str Try.underlying9 k5
  clear k0 k1 k2 k3 k4 k5
  obtain ⟨a0, a1, a2, a3, a4, a5, rfl⟩ : ∃ a0 a1 a2 a3 a4 a5, cs = [a0, a1, a2, a3, a4, a5] := by
    match cs, hl with
    | [a0, a1, a2, a3, a4, a5], _ => exact ⟨_, _, _, _, _, _, rfl⟩
  simp at e0 e1 e2 e3 e4 e5
  subst e0 e1 e2 e3 e4 e5
  exact ⟨⟨n0, n1, n2, n3, n4, s5⟩, rfl, i0, i1, i2, i3, i4, i5⟩
end Go.Proofs.Ytemnioijgkahcaa
