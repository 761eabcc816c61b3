/-
  What is asked of the document's Good of specs; a block that holds a spec.
-/
import Derived.Test.YtifokcpkamdkeaaDoorSpPut
import Derived.Test.YtifokcpkamdkeaaDoorSpEq
namespace Go.Proofs.YtifokcpkamdkeaaDoor
open Go.RowKit

/-- What is asked of the document's Good. -/
def GoodC : Prop := ∀ s W, Spc.In s → Calls Tryd.prog 36 #[Spc.val s] W (APos W (Spc.val (Spc.good s)))
theorem may_in {s : Spc.Sp} (h : Spc.May s) : Spc.In s := fun n hn => by have := h.small n hn; unfold Spc.i64; omega
/-- A block that holds a spec. -/
structure Bx (w : World) (g : Nat) (s : Spc.Sp) : Prop where
  at_ : SpAt w g s
  lt : g < w.heap.size
theorem Bx.on {w w' : World} {g : Nat} {s : Spc.Sp} (h : Bx w g s) (hb : Below w.heap.size w w') : Bx w' g s := ⟨h.at_.below h.lt hb, Nat.lt_of_lt_of_le h.lt hb.size⟩
theorem Bx.new (w : World) (s : Spc.Sp) : Bx (w.alloc (.cells (Spc.cells s) 24)) w.heap.size s := ⟨spAt_of (heap_alloc_new w _), by simp⟩
end Go.Proofs.YtifokcpkamdkeaaDoor
