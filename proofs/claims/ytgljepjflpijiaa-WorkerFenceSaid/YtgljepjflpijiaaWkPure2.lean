/-
  Layer 16's laws, purely: a command told twice. No program is named. No condition.
-/
import Derived.Test.YtgljepjflpijiaaWkPure
namespace Go.Proofs.Ytgljepjflpijiaa
namespace Wk
/-- What a command does to one worker of all units, told twice. -/
structure Fence (x : W) (m : Nt.M) (u : Nat) : Prop where
  e : applyE x m = 8 ∧ m.e < x.seen ∨ applyE x m = 0 ∧ x.seen ≤ m.e ∨ applyE x m = 7 ∧ x.seen ≤ m.e
  same : applyE x m ≠ 0 → (applyS x m).l u = x.l u
  seen : (applyS x m).seen = max x.seen m.e
  done : applyE x m = 0 → ((applyS x m).l u).sq = m.s ∧ ((applyS x m).l u).wa = m.v
  again : applyE (applyS x m) m = 8 ∨ applyE (applyS x m) m = 7
  seen2 : (applyS (applyS x m) m).seen = max x.seen m.e
theorem fence {x : W} {m : Nt.M} {u : Nat} (h1 : x.n = 0) (h2 : x.many = 1) (hr : Nt.right m = true) (hk : m.k = 1) (hu : m.u = (u : Nat)) (hu2 : u < 16) : Fence x m u := by
  have ho : own x m.u := own_all h1 h2 (by omega) (by omega)
  have hc : Nt.right m = true ∧ m.k = 1 := ⟨hr, hk⟩
  have htn : m.u.toNat = u := by omega
  by_cases he : m.e < x.seen
  · have e1 : applyE x m = 8 := by unfold applyE; rw [if_neg (fun h => h hc), if_neg (fun h => h ho), if_pos he]
    have e2 : applyS x m = x := by unfold applyS; rw [if_pos (.inr (.inr he))]
    refine ⟨.inl ⟨e1, he⟩, fun _ => by rw [e2], by rw [e2]; omega, fun h => by rw [e1] at h; omega, by rw [e2]; exact .inl e1, by rw [e2, e2]; omega⟩
  · have e2 : applyS x m = ⟨x.n, x.many, m.e, setL x.l u (Su.want (x.l u) m.v m.s)⟩ := by unfold applyS; rw [if_neg (by rintro (h | h | h); exact h hc; exact h ho; exact he h), htn]
    have e1 : applyE x m = if Su.takes (x.l u) m.v m.s then 0 else 7 := by unfold applyE; rw [if_neg (fun h => h hc), if_neg (fun h => h ho), if_neg he, htn]
    have ho2 : own (applyS x m) m.u := by rw [e2]; exact ho
    have hl : (applyS x m).l u = Su.want (x.l u) m.v m.s := by rw [e2]; exact setL_at _ _ _
    have hs : (applyS x m).seen = m.e := by rw [e2]
    have he2 : ¬ m.e < (applyS x m).seen := by rw [hs]; omega
    have e3 : applyE (applyS x m) m = if Su.takes ((applyS x m).l u) m.v m.s then 0 else 7 := by
      unfold applyE; rw [if_neg (fun h => h hc), if_neg (fun h => h ho2), if_neg he2, htn]
    have nt : ¬ Su.takes ((applyS x m).l u) m.v m.s := by
      rw [hl]
      by_cases ht : Su.takes (x.l u) m.v m.s
      · rw [Su.want_yes ht]
        intro h
        have := h.2.2
        simp only at this
        omega
      · rw [Su.want_no ht]; exact ht
    have hs2 : (applyS (applyS x m) m).seen = m.e := by
      generalize applyS x m = y at *
      unfold applyS
      rw [if_neg (by rintro (h | h | h); exact h hc; exact h ho2; exact he2 h)]
    rw [if_neg nt] at e3
    refine ⟨?_, fun h => ?_, by rw [hs]; omega, fun h => ?_, .inr e3, by rw [hs2]; omega⟩
    · rw [e1]
      by_cases ht : Su.takes (x.l u) m.v m.s
      · rw [if_pos ht]; exact .inr (.inl ⟨rfl, by omega⟩)
      · rw [if_neg ht]; exact .inr (.inr ⟨rfl, by omega⟩)
    · rw [hl]
      refine Su.want_no fun ht => h ?_
      rw [e1, if_pos ht]
    · have ht : Su.takes (x.l u) m.v m.s := Classical.byContradiction fun hn => by rw [e1, if_neg hn] at h; omega
      rw [hl, Su.want_yes ht]
      exact ⟨rfl, rfl⟩
end Wk
end Go.Proofs.Ytgljepjflpijiaa
