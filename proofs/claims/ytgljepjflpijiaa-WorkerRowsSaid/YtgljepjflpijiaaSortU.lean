/-
  slices.Sort of a row of ints of the call's own. No condition.
-/
import Derived.Test.YtgljepjflpijiaaInts
import Derived.Test.YtgljepjflpijiaaShelf
import Derived.Sort.OwnSortedInts
namespace Go.Proofs.Ytgljepjflpijiaa
open Go.RowKit Go.Deep Go.Maps
set_option linter.unusedVariables false

def sortI (l : List Int) : List Int := l.mergeSort fun x y => decide (x ≤ y)
theorem sortI_length (l : List Int) : (sortI l).length = l.length := List.length_mergeSort l
theorem sortI_rise {l L : List Int} (h : l.Perm L) (hr : L.Pairwise fun a b => a < b) : sortI l = L := by
  unfold sortI
  refine List.Perm.eq_of_pairwise (le := fun a b => decide (a ≤ b) = true) (fun a b _ _ h1 h2 => ?_) (List.pairwise_mergeSort (fun a b c h1 h2 => ?_) (fun a b => ?_) _) (hr.imp fun {a b} h => ?_) ((List.mergeSort_perm l _).trans h)
  · rw [decide_eq_true_eq] at h1 h2; omega
  · rw [decide_eq_true_eq] at *; omega
  · rw [Bool.or_eq_true, decide_eq_true_eq, decide_eq_true_eq]; omega
  · rw [decide_eq_true_eq]; omega
theorem sortu_own {w : World} {B : Nat} {v : Value} {ns : List Int} (h : OwnI w B v ns) (hz : ns.length ≤ 1000000) :
    Calls Try.prog 39 #[v] w fun en w' => en = .returned (.tuple #[]) ∧ OwnI w' B v (sortI ns) ∧ w.grownBy w' v.ownBlock := by
  unfold OwnI vali World.ownsRow at h
  rcases h.2 with ⟨rfl, h0⟩ | ⟨g, cap, cur, rfl, hbase, hb, c1, c2, c3, c4⟩
  · obtain rfl : ns = [] := List.eq_nil_of_length_eq_zero h0
    refine (Try.slices_Sort_int_none none 0 w).mono fun en w' ⟨he, hw⟩ => ⟨he, ?_, ?_⟩
    · rw [show sortI [] = [] from List.eq_nil_of_length_eq_zero (sortI_length [])]
      exact World.ownsRow_nil _ _ _ _
    · subst hw
      exact ⟨rfl, rfl, rfl, Nat.le_refl _, fun i hi _ => rfl⟩
  · rw [Nat.mul_one] at c4
    refine (Try.slices_Sort_int g 0 cap ns w (holds_of_blockI hb c4) (Array.getElem?_eq_some_iff.1 hb).1 (by omega)).mono fun en w' ⟨he, n, os, hw⟩ => ⟨he, ?_, ?_⟩
    · subst hw
      have h6 := ownsRow_sortedI (base := B) (g := g) (cap := cap) (n := n) (os := os) (ss := ns) (ts := sortI ns) (sortI_length ns) hbase hb c1 c2 c3
      unfold OwnI vali
      rw [sortI_length]
      exact h6
    · subst hw
      exact grownBy_sortedI _
end Go.Proofs.Ytgljepjflpijiaa
