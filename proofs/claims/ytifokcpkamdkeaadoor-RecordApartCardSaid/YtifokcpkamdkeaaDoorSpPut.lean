/-
  A spec's twelve cells stored one behind the other. No condition.
-/
import Derived.Test.YtifokcpkamdkeaaDoorSpRef3
import Derived.Test.YtifokcpkamdkeaaDoorRegion
namespace Go.Proofs.YtifokcpkamdkeaaDoor
open Go.RowKit

theorem twelve {l : List Int} (h : l.length = 12) : ∃ l0 l1 l2 l3 l4 l5 l6 l7 l8 l9 l10 l11, l = [l0, l1, l2, l3, l4, l5, l6, l7, l8, l9, l10, l11] := by
  match l, h with
  | [l0, l1, l2, l3, l4, l5, l6, l7, l8, l9, l10, l11], _ => exact ⟨l0, l1, l2, l3, l4, l5, l6, l7, l8, l9, l10, l11, rfl⟩
/-- A block of twelve numbers, whole: what a store into it asks. -/
structure SpFz (w : World) (g : Nat) : Prop where
  z0 : w.frozen? ⟨g, 0, none⟩ = false
  z1 : w.frozen? ⟨g, 1, none⟩ = false
  z2 : w.frozen? ⟨g, 2, none⟩ = false
  z3 : w.frozen? ⟨g, 3, none⟩ = false
  z4 : w.frozen? ⟨g, 4, none⟩ = false
  z5 : w.frozen? ⟨g, 5, none⟩ = false
  z6 : w.frozen? ⟨g, 6, none⟩ = false
  z7 : w.frozen? ⟨g, 7, none⟩ = false
  z8 : w.frozen? ⟨g, 8, none⟩ = false
  z9 : w.frozen? ⟨g, 9, none⟩ = false
  z10 : w.frozen? ⟨g, 10, none⟩ = false
  z11 : w.frozen? ⟨g, 11, none⟩ = false
theorem spFz_of {w : World} {g : Nat} {cs : Array Value} {t : TypeId} (h : w.heap[g]? = some (.cells cs t (0, 0))) : SpFz w g := by
  constructor <;> exact frozen_of_row w g _ _ _ h
/-- Stores one behind the other. -/
def puts (w : World) (g : Nat) : Nat → List Value → World
  | _, [] => w
  | k, v :: vs => puts (w.setCell ⟨g, k, none⟩ v) g (k + 1) vs
theorem puts_grown (g : Nat) (vs : List Value) (k : Nat) (w : World) : w.grownBy (puts w g k vs) (some g) := by
  induction vs generalizing k w with
  | nil => exact World.grownBy.refl _ _
  | cons v vs ih => exact grown_trans (grown_set _ _ _ _) (ih (k + 1) _)
theorem puts_heap (g : Nat) (vs : List Value) (pre post : List Value) (old : List Value) (w : World) (t : TypeId) (hl : old.length = vs.length) (h : w.heap[g]? = some (.cells (pre ++ old ++ post).toArray t (0, 0))) :
    (puts w g pre.length vs).heap[g]? = some (.cells (pre ++ vs ++ post).toArray t (0, 0)) := by
  induction vs generalizing pre old w with
  | nil =>
    have : old = [] := List.eq_nil_of_length_eq_zero (by simpa using hl)
    subst this
    exact h
  | cons v vs ih =>
    rcases old with _ | ⟨x, old⟩
    · simp at hl
    · have h1 := heap_setCell_same w g pre.length _ _ v h
      have e : (pre ++ x :: old ++ post).toArray.setIfInBounds pre.length v = ((pre ++ [v]) ++ old ++ post).toArray := by
        simp
      rw [e] at h1
      have := ih (pre ++ [v]) old _ (by simpa using hl) h1
      rw [List.length_append, List.length_singleton] at this
      rw [show pre ++ v :: vs ++ post = pre ++ [v] ++ vs ++ post by simp]
      exact this
theorem puts_sp {w : World} {g : Nat} {r s : Spc.Sp} {t : TypeId} (h : w.heap[g]? = some (.cells (Spc.cells r) t (0, 0))) : (puts w g 0 (Spc.cells s).toList).heap[g]? = some (.cells (Spc.cells s) t (0, 0)) := by
  have := puts_heap g (Spc.cells s).toList [] [] (Spc.cells r).toList w t rfl (by simpa using h)
  simpa using this
end Go.Proofs.YtifokcpkamdkeaaDoor
