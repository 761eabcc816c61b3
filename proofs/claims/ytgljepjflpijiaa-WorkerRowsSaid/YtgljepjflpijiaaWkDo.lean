/-
  Layer 16's laws: the blocks of a step of both. No condition.
-/
import Derived.Test.YtgljepjflpijiaaWkC
import Derived.Test.YtgljepjflpijiaaWkRef5
namespace Go.Proofs.Ytgljepjflpijiaa
open Go.RowKit Go.Deep
set_option linter.unusedSimpArgs false
set_option linter.unusedVariables false
/-- The blocks of a step of both: the document's worker, the step, the answer. -/
structure WkD (L : WkP) (w0 : World) (F : Nat → Prop) (q : Nat) (W w : World) (g : Nat) (x : Wk.W) (r : Wk.W) (s : WStep) (z : Wk.W) : Prop where
  a : WkAt w g r
  s : w.heap[g + 1]? = some (.cells (wsC s) 40 (0, 0))
  z : WkAt w (g + 2) z
  f : ∀ b, F b → w.heap[b]? = W.heap[b]?
  i : WIn L w0 (fun b => F b ∨ (g ≤ b ∧ b < g + 3)) q x w
  hi : W.heap.size ≤ g
  lo : w0.heap.size ≤ g
theorem WkD.new {L : WkP} (hC : WC L) {w0 W : World} {F : Nat → Prop} {q : Nat} {r : Wk.W} (h : WIn L w0 F q r W) (s : WStep) :
    WkD L w0 F q W (((W.alloc (.cells (Wk.cells r) 32)).alloc (.cells (wsC s) 40)).alloc (.cells Wk.zeros 32)) W.heap.size r r s Wk.zero := by
  have b1 := (Below.refl W.heap.size W).alloc (Nat.le_refl _) (.cells (Wk.cells r) 32)
  have a1 := WkAt.new W r
  have z1 : (W.alloc (.cells (Wk.cells r) 32)).heap.size = W.heap.size + 1 := by simp
  generalize W.alloc (.cells (Wk.cells r) 32) = W1 at *
  have b2 := (Below.refl W1.heap.size W1).alloc (Nat.le_refl _) (.cells (wsC s) 40)
  have a2 := heap_alloc_new W1 (.cells (wsC s) 40)
  have z2 : (W1.alloc (.cells (wsC s) 40)).heap.size = W1.heap.size + 1 := by simp
  generalize W1.alloc (.cells (wsC s) 40) = W2 at *
  have b3 := (Below.refl W2.heap.size W2).alloc (Nat.le_refl _) (.cells Wk.zeros 32)
  have a3 := WkAt.zero W2
  have z3 : (W2.alloc (.cells Wk.zeros 32)).heap.size = W2.heap.size + 1 := by simp
  generalize W2.alloc (.cells Wk.zeros 32) = W3 at *
  have B := (b1.trans (b2.mono b1.size)).trans (b3.mono (b1.trans (b2.mono b1.size)).size)
  obtain ⟨X, h1, h2, h3, h4⟩ := h
  refine ⟨(a1.on b2).on b3, ?_, ?_, fun b hb => B.block b (h3 b hb).2, ?_, Nat.le_refl _, h4.size⟩
  · rw [← z1]; exact blk_on a2 b3
  · rw [show W.heap.size + 2 = W2.heap.size by omega]; exact a3
  · refine WIn.less (WIn.more hC ⟨X, h1, h2, h3, h4⟩ B) fun b hb => ?_
    rcases hb with hb | hb
    · exact .inl hb
    · exact .inr ⟨hb.1, by omega⟩
theorem wk_next (w : World) (s : Wk.W) : WkAt ((w.alloc (.cells Wk.zeros 32)).setRow w.heap.size (Wk.cells s)) w.heap.size s ∧ Below w.heap.size w ((w.alloc (.cells Wk.zeros 32)).setRow w.heap.size (Wk.cells s)) :=
  ⟨(WkAt.zero w).setRow s, below_row ((Below.refl w.heap.size w).alloc (Nat.le_refl _) _) (grown_row _ w.heap.size _) (Nat.le_refl _)⟩
section
variable {L : WkP} {w0 W w w' : World} {F : Nat → Prop} {q g : Nat} {x r z : Wk.W} {s : WStep}
theorem WkD.on (hC : WC L) (h : WkD L w0 F q W w g x r s z) (hb : Below w.heap.size w w') (hw : ∀ b, F b → b < W.heap.size) : WkD L w0 F q W w' g x r s z :=
  ⟨h.a.on hb, blk_on h.s hb, h.z.on hb, fun b hF => (hb.block b (by have := h.a.cs.2.2.2; have := h.hi; have := hw b hF; omega)).trans (h.f b hF), h.i.on hC hb, h.hi, h.lo⟩
theorem WkD.turn {x' : Wk.W} {v : Value} {e : Ending} (h : WkD L w0 F q W w g x r s z) (hp : WRes L w0 (fun b => F b ∨ (g ≤ b ∧ b < g + 3)) q x' v w e w') : e = .returned v ∧ WkD L w0 F q W w' g x' r s z := by
  obtain ⟨e1, e2, e3⟩ := hp
  exact ⟨e1, h.a.keep (e3 _ (.inr ⟨by omega, by omega⟩)), (e3 _ (.inr ⟨by omega, by omega⟩)).trans h.s, h.z.keep (e3 _ (.inr ⟨by omega, by omega⟩)), fun b hb => (e3 _ (.inl hb)).trans (h.f b hb), e2, h.hi, h.lo⟩
theorem WkD.cs (h : WkD L w0 F q W w g x r s z) : w.cell? ⟨g + 1, 0, none⟩ = some (.int .i64 s.k) ∧ w.cell? ⟨g + 1, 1, none⟩ = some (.int .i64 s.u) ∧ w.cell? ⟨g + 1, 2, none⟩ = some (.int .i64 s.m.k) ∧ w.cell? ⟨g + 1, 3, none⟩ = some (.int .i64 s.m.e) ∧ w.cell? ⟨g + 1, 4, none⟩ = some (.int .i64 s.m.s) ∧ w.cell? ⟨g + 1, 5, none⟩ = some (.int .i64 s.m.u) ∧ w.cell? ⟨g + 1, 6, none⟩ = some (.int .i64 s.m.v) ∧ w.cell? ⟨g + 1, 7, none⟩ = some (.int .i64 s.m.t) := by
  refine ⟨?_, ?_, ?_, ?_, ?_, ?_, ?_, ?_⟩ <;> rw [cell_of_row _ _ _ _ _ _ h.s] <;> rfl
/-- What a step of both leaves. -/
def WkDPost (L : WkP) (w0 : World) (F : Nat → Prop) (q : Nat) (x : Wk.W) (W : World) (e : Ending) (w' : World) : Prop :=
  e = .returned (.tuple #[.agg (Wk.cells x), .bool true]) ∧ WIn L w0 F q x w' ∧ ∀ b, F b → w'.heap[b]? = W.heap[b]?
theorem WkD.put (hC : WC L) (h : WkD L w0 F q W w g x r s z) (hF : ∀ b, F b → b < W.heap.size) (y : Wk.W) : WkD L w0 F q W (w.setRow (g + 2) (Wk.cells y)) g x r s y := by
  have hh : ∀ b, b ≠ g + 2 → (w.setRow (g + 2) (Wk.cells y)).heap[b]? = w.heap[b]? := fun b hb => by
    simp only [World.setRow]
    rw [Array.getElem?_modify]
    split
    · omega
    · rfl
  have hsz : (w.setRow (g + 2) (Wk.cells y)).heap.size = w.heap.size := by simp [World.setRow]
  obtain ⟨X, h1, h2, h3, h4⟩ := h.i
  have hg := h.hi
  have hX : ∀ i, X i → i ≠ g + 2 := fun i hi he => (h3 (g + 2) (.inr ⟨by omega, by omega⟩)).1 (he ▸ hi)
  refine ⟨h.a.keep (hh _ (by omega)), (hh _ (by omega)).trans h.s, h.z.setRow y, fun b hb => (hh b (by have := hF b hb; omega)).trans (h.f b hb), ⟨X, hC.keep _ _ _ _ _ h1 (by omega) fun i hi => hh i (hX i hi), h2, fun b hb => ⟨(h3 b hb).1, by rw [hsz]; exact (h3 b hb).2⟩, ?_⟩, hg, h.lo⟩
  exact below_row h4 (grown_row w (g + 2) _) (by have := h.hi; have := h.lo; omega)
theorem wkd_ret {fn : Func} {p u : Tmp} (hf : fn.results = #[.cell p 32, .tmp u]) (h : WkD L w0 F q W w g x r s x) {a : Act} (hp : a.tmps.getD p undef = .pointer (some ⟨g + 1 + 1, 0, none⟩)) (hb : a.tmps.getD u undef = .bool true) (hdf : a.defers = []) : bodyPost Try.prog fn (WkDPost L w0 F q x W) .ret a w := by
  refine bodyPost_ret (v := .tuple #[.agg (Wk.cells x), .bool true]) ?_ hdf ⟨rfl, h.i.less fun b hb => .inl hb, h.f⟩
  rw [wk_results2 hf a.tmps hp h.z, hb]
end
end Go.Proofs.Ytgljepjflpijiaa
