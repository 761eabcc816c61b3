/-
  The developers' package spec keeps the list of contracts.
-/
import Derived.Test.YtijloajkiannlaaDoorSpSC
import Derived.Test.YtijloajkiannlaaDoorSpN2
import Derived.Test.YtijloajkiannlaaDoorSpN4
import Derived.Test.YtijloajkiannlaaDoorSpN6
import Derived.Test.YtijloajkiannlaaDoorSpN9
import Derived.Test.YtijloajkiannlaaDoorSpN10
namespace Go.Proofs.YtijloajkiannlaaDoor
open Go.RowKit

theorem row_of {l : List Int} {n : Nat} (_ : n = l.length) {w w' : World} {e : Ending} (h : ∃ A c, e = .returned (.slice A n c) ∧ OwnI w' w.heap.size (.slice A n c) l ∧ Below w.heap.size w w') : RowI l w e w' := by
  obtain ⟨A, c, rfl, ho, hb⟩ := h
  obtain ⟨A', c', ev, hs⟩ := ho.sl
  exact ⟨A', c', by rw [ev], hs, hb⟩
theorem sc_any : SC :=
  ⟨fun t W h hb hl => read_any t hb hl W h, fun s W h hin => text_any s hin W h, fun l A n c W h _ hn => make_any l A n c W h hn,
    fun s W _ => (fields_any s W).mono fun _ _ h => row_of rfl h, fun s W hin => check_any s hin W, fun s W _ => (steps_any s W).mono fun _ _ h => row_of rfl h, fun s W _ => budget_any s W⟩
end Go.Proofs.YtijloajkiannlaaDoor
