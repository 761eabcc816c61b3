/-
  Layer 16's laws, purely: one worker of all units. No program is named. No condition.
-/
import Derived.Test.YtgljepjflpijiaaWpMath
namespace Go.Proofs.Ytgljepjflpijiaa
namespace Wk
theorem own_all {r : W} (h1 : r.n = 0) (h2 : r.many = 1) {u : Int} (h0 : 0 ≤ u) (h3 : u ≤ 15) : own r u := ⟨h0, h3, by rw [h1, h2]; omega⟩
theorem applyS_nm (r : W) (m : Nt.M) : (applyS r m).n = r.n ∧ (applyS r m).many = r.many := by unfold applyS; split <;> exact ⟨rfl, rfl⟩
theorem turnS_nm (r : W) (u k : Int) : (turnS r u k).n = r.n ∧ (turnS r u k).many = r.many := by unfold turnS; split <;> exact ⟨rfl, rfl⟩
theorem count_fall {r : W} (hr : Ok r) (h1 : r.n = 0) (h2 : r.many = 1) : ∀ j, j ≤ 16 → count r 0 j + fallN r.l j = j
  | 0, _ => rfl
  | j + 1, hj => by
    have ih := count_fall hr h1 h2 j (by omega)
    have ho : own r (j : Nat) := own_all h1 h2 (by omega) (by omega)
    have hR := hr.right j (by omega)
    unfold count fallN
    by_cases h0 : (r.l j).st = 0
    · rw [if_pos ⟨ho, h0⟩, if_neg (fun h => h.2 h0)]; omega
    · rw [if_neg (fun h => h0 h.2), if_pos ⟨hR, h0⟩]; omega
theorem count_fell {r : W} (hr : Ok r) (h1 : r.n = 0) (h2 : r.many = 1) : ∀ j, j ≤ 16 → count (fallS r) 0 j = j
  | 0, _ => rfl
  | j + 1, hj => by
    have ih := count_fell hr h1 h2 j (by omega)
    have ho : own (fallS r) (j : Nat) := own_all (r := fallS r) h1 h2 (by omega) (by omega)
    have hR := hr.right j (by omega)
    unfold count
    rw [ih, if_pos ⟨ho, fell_st hR (by omega)⟩]
where
  fell_st {r : W} {j : Nat} (hR : Su.Right (r.l j)) (hj : j < 16) : ((fallS r).l j).st = 0 := by
    show (fallL r.l 16 j).st = 0
    unfold fallL
    rw [if_pos hj]
    unfold Su.fall
    split
    · rfl
    · rename_i h
      exact Classical.byContradiction fun h0 => h ⟨hR, h0⟩
theorem fell_zero {r : W} (hr : Ok r) {j : Nat} (hj : j < 16) : ((fallS r).l j).st = 0 := by
  have hR := hr.right j hj
  show (fallL r.l 16 j).st = 0
  unfold fallL
  rw [if_pos hj]
  unfold Su.fall
  split
  · rfl
  · rename_i h
    exact Classical.byContradiction fun h0 => h ⟨hR, h0⟩
theorem go_two {a : Su.S} (hR : Su.Right a) (h0 : a.st = 0) : a.wa = 0 ∧ Su.go (Su.go a) = a ∨ 0 < a.wa ∧ Su.go (Su.go a) = ⟨2, a.wa, a.wa, a.sq⟩ := by
  by_cases hw : a.wa = 0
  · have e : Su.go a = a := if_neg (fun h => by have := h.2; omega)
    exact .inl ⟨hw, by rw [e, e]⟩
  · have hw0 : 0 < a.wa := by have := hR.2.2.2.1; omega
    have e : Su.go a = ⟨1, a.wa, a.wa, a.sq⟩ := by unfold Su.go; rw [if_pos ⟨hR, .inl ⟨h0, hw⟩⟩, if_pos h0]
    refine .inr ⟨hw0, ?_⟩
    have hR2 := Su.go_right hR
    rw [e] at hR2 ⊢
    unfold Su.go
    rw [if_pos ⟨hR2, .inr (.inl rfl)⟩, if_neg (by simp), if_pos rfl]
theorem turnS_own {r : W} {j : Nat} (h : own r (j : Nat)) (k : Int) : turnS r (j : Nat) k = ⟨r.n, r.many, r.seen, setL r.l j (turnF k (r.l j))⟩ := if_pos h
/-- How many units the first i workers have; how many of them own u. -/
def sumU (m : Nat) : Nat → Nat
  | 0 => 0
  | i + 1 => sumU m i + (units (new (i : Nat) (m : Nat)) 16).length
def didU (m : Nat) (u : Int) : Nat → Nat
  | 0 => 0
  | i + 1 => didU m u i + if own (new (i : Nat) (m : Nat)) u then 1 else 0
theorem sumU_le (m : Nat) : ∀ i, sumU m i ≤ 16 * i
  | 0 => Nat.le_refl _
  | i + 1 => by have := sumU_le m i; have := units_le (new (i : Nat) (m : Nat)) 16; unfold sumU; omega
theorem didU_le (m : Nat) (u : Int) : ∀ i, didU m u i ≤ i
  | 0 => Nat.le_refl _
  | i + 1 => by have := didU_le m u i; unfold didU; split <;> omega
theorem sumU_fin : ∀ m : Fin 17, 1 ≤ m.val → sumU m.val m.val = 16 := by decide +kernel
theorem sumU_all {m : Nat} (h1 : 1 ≤ m) (h2 : m ≤ 16) : sumU m m = 16 := sumU_fin ⟨m, by omega⟩ h1
theorem didU_fin : ∀ m : Fin 17, ∀ u : Fin 8, 1 ≤ m.val → didU m.val (u.val : Int) m.val = 1 := by decide +kernel
theorem didU_all {m : Nat} {u : Int} (h1 : 1 ≤ m) (h2 : m ≤ 16) (h3 : 0 ≤ u) (h4 : u < 8) : didU m u m = 1 := by
  have := didU_fin ⟨m, by omega⟩ ⟨u.toNat, by omega⟩ h1
  simp only at this
  rw [show ((u.toNat : Nat) : Int) = u by omega] at this
  exact this
/-- What a first command does. -/
theorem first_apply {n many : Int} {x : Nt.M} (hr : Nt.right x = true) (hk : x.k = 1) (hs : 0 < x.s) (hv : 0 ≤ x.v) (he : 0 ≤ x.e) : applyE (new n many) x = if own (new n many) x.u then 0 else 5 := by
  unfold applyE
  rw [if_neg (fun h => h ⟨hr, hk⟩)]
  by_cases ho : own (new n many) x.u
  · rw [if_neg (fun h => h ho), if_pos ho, if_neg (show ¬ x.e < (new n many).seen from by show ¬ x.e < 0; omega), if_pos]
    exact ⟨by show Su.Right z4; decide, hv, hs⟩
  · rw [if_pos ho, if_neg ho]
end Wk
end Go.Proofs.Ytgljepjflpijiaa
