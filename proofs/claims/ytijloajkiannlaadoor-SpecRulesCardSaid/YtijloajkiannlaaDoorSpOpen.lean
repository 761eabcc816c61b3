/-
  An argument that is a spec by value, opened.
-/
import Derived.Test.YtijloajkiannlaaDoorSpEq
namespace Go.Proofs.YtijloajkiannlaaDoor
open Go Go.RowKit

theorem spec_types : Tryd.prog.cellTypes Tryd.prog.depth 25 = some [3, 3, 3, 3, 3, 3, 3, 3, 3, 3, 3, 3] := by kernel_rfl
theorem spec_count : Tryd.prog.cellsOf 25 = 12 := by kernel_rfl
theorem int_cell {P : Program} {t : TypeId} (hu : P.underlying t = some (.int .i64)) {W : World} {r : Reach} {b0 : Nat} {v : Value} (h : Cell.okWide P W r b0 t v) : ∃ n, v = .int .i64 n ∧ Spc.i64 n := by
  unfold Cell.okWide at h
  rw [hu] at h
  cases v <;> simp [Cell.ok, hu] at h
  case int k n =>
    obtain ⟨rfl, h1⟩ := h
    refine ⟨n, rfl, ?_⟩
    unfold Spc.i64
    simp [IntKind.has, IntKind.min, IntKind.max, IntKind.signed, IntKind.bits] at h1
    omega
theorem agg_cells {P : Program} {t e : TypeId} {fs : Array Field} (hu : P.underlying t = some (.struct fs)) (he : P.underlying e = some (.int .i64)) (hc : P.cellsOf t = 12) (ht : P.cellTypes P.depth t = some [e, e, e, e, e, e, e, e, e, e, e, e]) {W : World} {r : Reach} {b0 : Nat} {v : Value} (h : Value.okWide P W r b0 t v) :
    ∃ cs : Array Value, v = .agg cs ∧ cs.size = 12 ∧ ∀ j, j < 12 → ∃ n, cs[j]? = some (.int .i64 n) ∧ Spc.i64 n := by
  unfold Value.okWide at h
  rw [hu] at h
  obtain ⟨cs, rfl, hsz, ts, hts, _, hall⟩ := h
  rw [ht] at hts
  obtain rfl := Option.some.inj hts
  rw [hc] at hsz
  refine ⟨cs, rfl, hsz, fun j hj => ?_⟩
  obtain ⟨u, hu', hcell⟩ := hall j cs[j] (by simp [hsz, hj])
  have : u = e := by
    rcases j with _ | _ | _ | _ | _ | _ | _ | _ | _ | _ | _ | _ | j
    all_goals first | (simpa using hu'.symm) | omega
  subst this
  obtain ⟨n, e', h⟩ := int_cell he hcell
  exact ⟨n, by rw [← e']; simp [hsz, hj], h⟩
set_option maxRecDepth 100000 in
theorem open_spec {W : World} {r : Reach} {b0 : Nat} {v : Value} (hv : Value.okWide Tryd.prog W r b0 25 v) : ∃ s : Spc.Sp, v = Spc.val s ∧ Spc.In s := by
  have h := agg_cells spec_fields Tryd.underlying3 spec_count spec_types hv
  clear hv
  obtain ⟨cs, hv, hsz, key⟩ := h
  subst hv
  obtain ⟨n0, e0, i0⟩ := key 0 (by omega)
  obtain ⟨n1, e1, i1⟩ := key 1 (by omega)
  obtain ⟨n2, e2, i2⟩ := key 2 (by omega)
  obtain ⟨n3, e3, i3⟩ := key 3 (by omega)
  obtain ⟨n4, e4, i4⟩ := key 4 (by omega)
  obtain ⟨n5, e5, i5⟩ := key 5 (by omega)
  obtain ⟨n6, e6, i6⟩ := key 6 (by omega)
  obtain ⟨n7, e7, i7⟩ := key 7 (by omega)
  obtain ⟨n8, e8, i8⟩ := key 8 (by omega)
  obtain ⟨n9, e9, i9⟩ := key 9 (by omega)
  obtain ⟨n10, e10, i10⟩ := key 10 (by omega)
  obtain ⟨n11, e11, i11⟩ := key 11 (by omega)
  refine ⟨⟨n0, n1, n2, n3, n4, n5, n6, n7, n8, n9, n10, n11⟩, ?_, ?_⟩
  · obtain ⟨l⟩ := cs
    match l, hsz with
    | [c0, c1, c2, c3, c4, c5, c6, c7, c8, c9, c10, c11], _ =>
      simp at e0 e1 e2 e3 e4 e5 e6 e7 e8 e9 e10 e11
      subst e0 e1 e2 e3 e4 e5 e6 e7 e8 e9 e10 e11
      rfl
  · intro n hn
    simp only [Spc.flds, List.mem_cons, List.not_mem_nil, or_false] at hn
    rcases hn with rfl | rfl | rfl | rfl | rfl | rfl | rfl | rfl | rfl | rfl | rfl | rfl <;> assumption
end Go.Proofs.YtijloajkiannlaaDoor
