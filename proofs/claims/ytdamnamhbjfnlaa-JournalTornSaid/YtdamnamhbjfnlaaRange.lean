/-
  A range over a function whose iterator hands each round bytes that are new: what the two sides owe each other, told by worlds. No function of a program is named.
-/
import Derived.RangeFuncNested
import Derived.RangeFuncCalls
import Derived.RangeFuncLeaves
import Derived.WalkKit
import Derived.OwnWalkIn
import Derived.TacticsInMore
import Derived.LoopNIn
import Derived.LoopIn
import Derived.Maps.OwnIn
import Derived.Test.YtdamnamhbjfnlaaDskMem
import Derived.Test.YtdamnamhbjfnlaaRows2
namespace Go.Proofs.Ytdamnamhbjfnlaa
open Go.RowKit

theorem Kept.putObj (W : World) (r : Nat) (o : Obj) : Kept (fun i => i = r) W (W.putObj r o) :=
  ⟨rfl, rfl, rfl, by rw [World.putObj_size]; exact Nat.le_refl _, fun _ _ hi => World.putObj_heap_other hi⟩
theorem OwnB.kept {F : Nat → Prop} {w w' : World} {B : Nat} {v : Value} {l : List Nat} (h : OwnB w B v l) (hk : Kept F w w') (hF : ∀ i, B ≤ i → i < w.heap.size → ¬ F i) : OwnB w' B v l := by
  refine ⟨⟨h.1.1, ?_⟩, h.2⟩
  rcases h.1.2 with h2 | ⟨g, cap, cur, hv, hg, hh, r⟩
  · exact .inl h2
  · have hlt := (Array.getElem?_eq_some_iff.1 hh).1
    exact .inr ⟨g, cap, cur, hv, hg, (hk.block g hlt (hF g hg hlt)).trans hh, r⟩
theorem OwnS.kept {F : Nat → Prop} {w w' : World} {B : Nat} {v : Value} {ls : List (List Nat)} (h : OwnS w B v ls) (hk : Kept F w w') (hF : ∀ i, i < w.heap.size → (∃ t cs fr, w.heap[i]? = some (.cells cs t fr)) → ¬ F i) : OwnS w' B v ls := by
  obtain ⟨xs, ho, hf⟩ := h
  have cell : ∀ (p : Addr) (x : Value), w.cell? p = some x → w'.cell? p = some x := by
    intro p x hx
    have hlt := block_lt_of_cell hx
    have : w'.heap[p.block]? = w.heap[p.block]? := hk.block _ hlt (hF _ hlt (by
      unfold World.cell? at hx
      rcases ho : w.heap[p.block]? with _ | o
      · rw [ho] at hx; simp at hx
      · rw [ho] at hx
        cases o <;> first | exact ⟨_, _, _, rfl⟩ | (simp at hx)))
    unfold World.cell? at *
    rw [this]; exact hx
  refine ⟨xs, ⟨ho.1, ?_⟩, fun j hj => ?_⟩
  · rcases ho.2 with h2 | ⟨g, cap, cur, hv, hg, hh, r⟩
    · exact .inl h2
    · have hlt := (Array.getElem?_eq_some_iff.1 hh).1
      exact .inr ⟨g, cap, cur, hv, hg, (hk.block g hlt (hF g hlt ⟨_, _, _, hh⟩)).trans hh, r⟩
  · obtain ⟨x, hx, A, n, c, e, hs, hfar⟩ := hf j hj
    refine ⟨x, hx, A, n, c, e, ⟨⟨hs.rd.1, fun hl => ?_⟩, hs.len, hs.cap, hs.max, hs.nil⟩, hfar⟩
    obtain ⟨b, o, e2, hb, hc⟩ := hs.rd.2 hl
    exact ⟨b, o, e2, Nat.lt_of_lt_of_le hb hk.size, fun i hi => cell _ _ (hc i hi)⟩

/-- An iterator that hands its rounds the rows ps, one by one, each in bytes that are new; Kp: what a round must keep. -/
def SeqRows (P : Program) (g : Nat) (lb : Array Value) (Kp : World → World → Prop) (ps : List (List Nat)) (w : World) : Prop :=
  ∀ (l : Nat) (J : Nat → World → Prop) (W : World), Below w.heap.size w W → (∀ k A B, J k A → Below A.heap.size A B → J k B) →
    (∀ k A c p W0 W1, ps[k]? = some p → J k W0 → Below W0.heap.size W0 W1 → OwnB W1 W0.heap.size (.slice A p.length c) p →
      YieldAt Fence.wide 1 P l #[.slice A p.length c] W1 fun e W' => e = .returned (.bool true) ∧ J (k + 1) W' ∧ Kp W1 W') →
    J 0 W →
    CallsIn Fence.wide 2 P g (#[.func (.yield l) #[] #[]] ++ lb) W fun e W' => (∃ v, e = .returned v) ∧ J ps.length W'

/-- The statement, by such an iterator: its body never leaves. The two blocks that the loop itself lays are w.heap.size and the next one. -/
theorem wpIn_range_rows {P : Program} {g : Operand} {ps : Array Tmp} {assign body : Code} {Q : Exit → Act → World → Prop} {a : Act} {w : World}
    {gf : Nat} {lb : Array Value} (hg : a.eval g = .func (.func gf) #[] lb) (eg : ∀ args w, (callFunc gf args).run P w = .ok (.enter gf args) w)
    {Y : Nat → Prop} {rows : List (List Nat)} (hseq : SeqRows P gf lb (Kept (fun i => Y i ∨ i = w.heap.size + 1)) rows w) (hps : ps.size = 1)
    (hY0 : ¬ Y w.heap.size) (hY1 : ¬ Y (w.heap.size + 1))
    (I : Nat → World → Prop) (hI : ∀ k A B, I k A → w.heap.size + 2 ≤ A.heap.size → Kept (fun i => i = w.heap.size ∨ i = w.heap.size + 1) A B → I k B)
    (h0 : ∀ W1, Below w.heap.size w W1 → W1.heap.size = w.heap.size + 2 → I 0 W1) (a₁ : Value → Act)
    (hassign : ∀ (l : Nat) (x : Value) (W : World) (K : Act → World → Prop), K (a₁ x) W →
      assign.wpIn (Fence.wide.inRound l) 1 P (Exit.then K (fun _ _ _ => False)) { tmps := (ps.zip #[x]).foldl (fun t (p, v) => t.setIfInBounds p v) a.tmps, defers := [] } W)
    (hbody : ∀ (l k : Nat) (A : Option Addr) (c : Nat) (p : List Nat) (W0 W : World), rows[k]? = some p → I k W0 → w.heap.size + 2 ≤ W0.heap.size → Kept (fun i => i = w.heap.size + 1) W0 W → OwnB W W0.heap.size (.slice A p.length c) p →
      body.wpIn (Fence.wide.inRound l) 1 P (fun e _ W' => e = .normal ∧ Kept Y W W' ∧ I (k + 1) W') (a₁ (.slice A p.length c)) W)
    (hdone : ∀ W, I rows.length W → w.heap.size + 2 ≤ W.heap.size → W.heap[w.heap.size]? = some (.deferred (some [])) → Q .normal { a with defers := { target := .collected w.heap.size, args := #[] } :: a.defers } W) :
    (Code.rangeFunc g ps assign body).wpIn Fence.wide 3 P Q a w := by
  refine wpIn_rangeFunc ?_
  intro fn hfn
  rw [show Fence.wide.round = none from rfl]
  obtain ⟨rec, hrec⟩ : ∃ rec : LoopState → Option Code → Loop, rec = fun st pe => { state := st, pending := pe, fn, tmps := a.tmps, params := ps, assign, body, defers := w.heap.size } := ⟨_, rfl⟩
  obtain ⟨W1, hW1⟩ : ∃ W1, (w.alloc (.deferred (some []))).alloc (.loop (rec .ready none)) = W1 := ⟨_, rfl⟩
  have hs1 : W1.heap.size = w.heap.size + 2 := by rw [← hW1]; simp
  have hb1 : Below w.heap.size w W1 := by rw [← hW1]; exact ((Below.refl _ w).alloc (Nat.le_refl _) _).alloc (by simp) _
  have hL1 : W1.heap[w.heap.size + 1]? = some (.loop (rec .ready none)) := by
    rw [← hW1]; have := World.alloc_heap_new (w.alloc (.deferred (some []))) (.loop (rec .ready none)); rwa [World.size_alloc] at this
  have hK1 : W1.heap[w.heap.size]? = some (.deferred (some [])) := by
    rw [← hW1]; exact (Below.heap_alloc _ _ _ (by simp)).trans (World.alloc_heap_new w _)
  refine ⟨w.heap.size + 1, [{ target := .collected w.heap.size, args := #[] }], W1, { target := .fn (.func gf) lb, args := #[.func (.yield (w.heap.size + 1)) #[] #[]] }, W1, gf,
    #[.func (.yield (w.heap.size + 1)) #[] #[]] ++ lb, W1, ?_, ?_, fun _ _ => trivial, ?_, fun _ => by omega, ?_⟩
  · rw [← hW1, hrec]; exact run_enterLoop_outer _ _ _ _ _
  · simp only [resolve, hg]
    simp [go_sem]
  · simp [invoke, go_sem, eg]
  · refine (hseq (w.heap.size + 1)
      (fun k W => I k W ∧ w.heap.size + 2 ≤ W.heap.size ∧ W.heap[w.heap.size + 1]? = some (.loop (rec .ready none)) ∧ W.heap[w.heap.size]? = some (.deferred (some [])))
      W1 hb1
      (fun k A B hs hb => ⟨hI k A B hs.1 hs.2.1 (Kept.of_below hb), Nat.le_trans hs.2.1 hb.size, (hb.block _ (by have := hs.2.1; omega)).trans hs.2.2.1, (hb.block _ (by have := hs.2.1; omega)).trans hs.2.2.2⟩)
      ?_ ⟨h0 W1 hb1 hs1, by omega, hL1, hK1⟩).mono ?_
    · rintro k A c p W0 W hp ⟨hi0, hsz, hl0, hk0⟩ hb ho
      have hszW := hb.size
      have hl : W.heap[w.heap.size + 1]? = some (.loop (rec .ready none)) := (hb.block _ (by omega)).trans hl0
      have hk : W.heap[w.heap.size]? = some (.deferred (some [])) := (hb.block _ (by omega)).trans hk0
      have hy := run_yield (P := P) (args := #[.slice A p.length c]) hl (by rw [hrec]; exact hps.symm)
      rw [hrec] at hy
      obtain ⟨Wb, hWb⟩ : ∃ Wb, W.putObj (w.heap.size + 1) (.loop { rec .ready none with state := .busy }) = Wb := ⟨_, rfl⟩
      have kb : Kept (fun i => i = w.heap.size + 1) W Wb := by rw [← hWb]; exact Kept.putObj _ _ _
      have hszb := kb.size
      refine ⟨fn, _, assign, body, hy, roundIn_of_wpIn hfn (hassign _ _ W _ ⟨Wb, by rw [← hWb]; exact run_beginRound hl (by rw [hrec]), ?_⟩)⟩
      have hl2 : Wb.heap[w.heap.size + 1]? = some (.loop { rec .ready none with state := .busy }) := by rw [← hWb]; exact World.putObj_heap_same (by omega)
      have hk2 : Wb.heap[w.heap.size]? = some (.deferred (some [])) := (kb.block _ (by omega) (by omega)).trans hk
      have k0b : Kept (fun i => i = w.heap.size + 1) W0 Wb := (Kept.of_below (F := fun i => i = w.heap.size + 1) hb).trans kb fun _ _ h => h
      refine wpIn_mono (hbody _ k A c p W0 Wb hp hi0 hsz k0b (ho.kept kb fun i h1 _ h2 => by omega)) ?_
      rintro e a3 W3 ⟨rfl, k3, hi3⟩
      have hsz3 := k3.size
      have hl3 := (k3.block _ (by omega) hY1).trans hl2
      have hk3 := (k3.block _ (by omega) hY0).trans hk2
      have hr : (Instr.endRound (w.heap.size + 1) none).run P W3 = .ok (.bool true) (W3.putObj (w.heap.size + 1) (.loop (rec .ready none))) := by
        have := run_endRound (P := P) none hl3
        rw [hrec] at this ⊢
        exact this
      have k4 := Kept.putObj W3 (w.heap.size + 1) (.loop (rec .ready none))
      refine ⟨_, _, hr, ?_⟩
      refine ⟨rfl, ⟨hI _ _ _ hi3 (by omega) (k4.more fun _ _ h => .inr h), by rw [World.putObj_size]; omega, World.putObj_heap_same (by omega), (World.putObj_heap_other (by omega)).trans hk3⟩, ?_⟩
      exact (((kb.more fun _ _ h => .inr h).trans k3 fun _ _ h => .inl h).trans k4 fun _ _ h => .inr h)
    · rintro e W2 ⟨⟨v, rfl⟩, hi, hsz, hl, hk⟩
      refine ⟨none, _, by have := run_endLoop (P := P) hl (by rw [hrec]; simp); rw [hrec] at this; exact this, ?_⟩
      have k4 := Kept.putObj W2 (w.heap.size + 1) (.loop { rec .ready none with state := .exhausted })
      rw [hrec] at k4
      exact hdone _ (hI _ _ _ hi hsz (k4.more fun _ _ h => .inr h)) (by rw [World.putObj_size]; exact hsz) ((World.putObj_heap_other (by omega)).trans hk)
end Go.Proofs.Ytdamnamhbjfnlaa
