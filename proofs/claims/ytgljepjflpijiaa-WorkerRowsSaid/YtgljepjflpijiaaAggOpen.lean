/-
  A struct by value as an argument, opened cell by cell. No program is named. No condition.
-/
import Derived.Test.YtgljepjflpijiaaBase
import Derived.OpenShut
namespace Go.Proofs.Ytgljepjflpijiaa
open Go Go.RowKit
theorem agg_open {P : Program} {t : TypeId} {fs : Array Field} (hu : P.underlying t = some (.struct fs)) {ts : List TypeId} (hc : P.cellsOf t = ts.length) (ht : P.cellTypes P.depth t = some ts) {W : World} {r : Reach} {b0 : Nat} {v : Value} (h : Value.okWide P W r b0 t v) :
    ∃ cs : List Value, v = .agg cs.toArray ∧ cs.length = ts.length ∧ ∀ (j : Nat) (u : TypeId), ts[j]? = some u → ∃ c, cs[j]? = some c ∧ Cell.okWide P W r b0 u c := by
  unfold Value.okWide at h
  rw [hu] at h
  obtain ⟨cs, rfl, hsz, ts', hts, _, hall⟩ := h
  rw [ht] at hts
  obtain rfl := Option.some.inj hts
  rw [hc] at hsz
  refine ⟨cs.toList, by simp, by simpa using hsz, fun j u hj => ?_⟩
  have hjl : j < ts.length := (List.getElem?_eq_some_iff.1 hj).1
  obtain ⟨u', hu', hcell⟩ := hall j (cs[j]'(by omega)) (by simp [hsz, hjl])
  rw [Nat.mod_eq_of_lt hjl, hj] at hu'
  obtain rfl := Option.some.inj hu'
  exact ⟨_, by simp [hsz, hjl], hcell⟩
theorem cell_int {P : Program} {t : TypeId} (hu : P.underlying t = some (.int .i64)) {W : World} {r : Reach} {b0 : Nat} {v : Value} (h : Cell.okWide P W r b0 t v) : ∃ n, v = .int .i64 n ∧ -9223372036854775808 ≤ n ∧ n ≤ 9223372036854775807 := by
  unfold Cell.okWide at h
  rw [hu] at h
  cases v <;> simp [Cell.ok, hu] at h
  case int k n =>
    obtain ⟨rfl, h1⟩ := h
    refine ⟨n, rfl, ?_⟩
    simp [IntKind.has, IntKind.min, IntKind.max, IntKind.signed, IntKind.bits] at h1
    omega
theorem cell_str {P : Program} {t : TypeId} (hu : P.underlying t = some .string) {W : World} {r : Reach} {b0 : Nat} {v : Value} (h : Cell.okWide P W r b0 t v) : ∃ s, v = .string s ∧ s.size ≤ maxLen := by
  unfold Cell.okWide at h
  rw [hu] at h
  cases v <;> simp [Cell.ok, hu] at h
  case string s => exact ⟨s, rfl, by unfold maxLen; omega⟩
end Go.Proofs.Ytgljepjflpijiaa
