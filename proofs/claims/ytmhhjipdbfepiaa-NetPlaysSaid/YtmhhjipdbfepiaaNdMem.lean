/-
  The developers' net in memory: a struct, a channel of tokens, a row of messages. No condition.
-/
import Derived.Test.YtmhhjipdbfepiaaNtMem
import Derived.Test.YtmhhjipdbfepiaaCom
namespace Go.Proofs.Ytmhhjipdbfepiaa
open Go.RowKit Go.Conc
set_option linter.unusedSimpArgs false
set_option linter.unusedVariables false

abbrev tok : Value := .agg #[]
abbrev toks (k : Nat) : Array Value := Array.replicate k tok
theorem toks_push (k : Nat) : (toks k).push tok = toks (k + 1) := by
  unfold toks
  rw [← Array.replicate_succ]
theorem toks_cut (k : Nat) : (toks (k + 1)).extract 1 (toks (k + 1)).size = toks k := by
  apply Array.ext
  · simp [toks]
  · intro i h1 h2
    simp [toks]
theorem toks_head (k : Nat) : (toks (k + 1)).getD 0 undef = tok := by
  simp [toks, Array.getD]
/-- A net in the midst of a call: its row's slice as it is stored (U) and as it is held (V). -/
structure NtMid (W0 : World) (G : Nat → Prop) (w : World) (r c : Nat) (U V : Value) (room k : Nat) (l : List Nt.M) (se lo : Int) : Prop where
  row : w.heap[r]? = some (.cells #[.chan (some c), U, .int .i64 se, .int .i64 lo] 63 (0, 0))
  ch : ∃ i j, w.heap[c]? = some (.chan room (toks k) false i j false)
  own : OwF Nt.mC 6 32 w 0 V l
  gr : G r ∨ W0.heap.size ≤ r
  gc : G c ∨ W0.heap.size ≤ c
  gv : ∀ b, V.ownBlock = some b → G b ∨ W0.heap.size ≤ b
  kept : Kept G W0 w
structure NtCell (w : World) (r c : Nat) (U : Value) (se lo : Int) : Prop where
  c0 : w.cell? ⟨r, 0, none⟩ = some (.chan (some c))
  c1 : w.cell? ⟨r, 1, none⟩ = some U
  c2 : w.cell? ⟨r, 2, none⟩ = some (.int .i64 se)
  c3 : w.cell? ⟨r, 3, none⟩ = some (.int .i64 lo)
  fz : ∀ i, w.frozen? ⟨r, i, none⟩ = false
  lt : r < w.heap.size
section
variable {W0 w w' : World} {G : Nat → Prop} {r c : Nat} {U V V' : Value} {room k : Nat} {l l' : List Nt.M} {se lo : Int}
theorem NtMid.cells (h : NtMid W0 G w r c U V room k l se lo) : NtCell w r c U se lo :=
  ⟨by rw [cell_of_row w r 0 _ _ _ h.row]; rfl, by rw [cell_of_row w r 1 _ _ _ h.row]; rfl, by rw [cell_of_row w r 2 _ _ _ h.row]; rfl, by rw [cell_of_row w r 3 _ _ _ h.row]; rfl, fun i => frozen_of_row _ _ _ _ _ h.row, (Array.getElem?_eq_some_iff.1 h.row).1⟩
theorem NtMid.clt (h : NtMid W0 G w r c U V room k l se lo) : c < w.heap.size := by
  obtain ⟨i, j, hc⟩ := h.ch
  exact (Array.getElem?_eq_some_iff.1 hc).1
theorem NtMid.ne (h : NtMid W0 G w r c U V room k l se lo) : c ≠ r := fun e => by
  obtain ⟨i, j, hc⟩ := h.ch
  rw [e, h.row] at hc
  cases hc
theorem NtMid.blk (h : NtMid W0 G w r c U V room k l se lo) {b : Nat} (hb : V.ownBlock = some b) : ∃ cur, w.heap[b]? = some (.cells cur 32 (0, 0)) := by
  rcases h.own.2 with ⟨h1, _⟩ | ⟨g, cap, cur, h1, _, hh, _⟩
  · rw [h1] at hb; cases hb
  · rw [h1] at hb
    injection hb with hb
    subst hb
    exact ⟨cur, hh⟩
theorem NtMid.vr (h : NtMid W0 G w r c U V room k l se lo) : V.ownBlock ≠ some r := fun e => by
  obtain ⟨cur, hh⟩ := h.blk e
  rw [h.row] at hh
  injection hh with hh
  injection hh with _ hh _
  exact absurd hh (by decide)
theorem NtMid.vc (h : NtMid W0 G w r c U V room k l se lo) : V.ownBlock ≠ some c := fun e => by
  obtain ⟨cur, hh⟩ := h.blk e
  obtain ⟨i, j, hc⟩ := h.ch
  rw [hc] at hh
  cases hh
theorem NtMid.on (h : NtMid W0 G w r c U V room k l se lo) (hb : Below w.heap.size w w') : NtMid W0 G w' r c U V room k l se lo := by
  obtain ⟨i, j, hc⟩ := h.ch
  exact ⟨(hb.block r h.cells.lt).trans h.row, ⟨i, j, (hb.block c h.clt).trans hc⟩, h.own.below hb, h.gr, h.gc, h.gv, h.kept.trans (G := fun _ => False) (Kept.of_below hb) fun _ _ h => h.elim⟩
/-- The channel turned. -/
theorem NtMid.chan (h : NtMid W0 G w r c U V room k l se lo) (k' i j : Nat) : NtMid W0 G (w.setChan c room (toks k') false i j false) r c U V room k' l se lo := by
  have hg := grown_setChan w c room (toks k') false i j false
  refine ⟨(setChan_off w _ _ _ _ _ _ h.ne).trans h.row, ⟨i, j, heap_setChan w c _ _ _ _ _ _ h.clt⟩, h.own.keep fun b hb => hg.block b (h.own.lt b hb).2 (fun e => h.vc (by rw [hb, ← e])), h.gr, h.gc, h.gv, ?_⟩
  refine h.kept.trans (G := fun i => i = c) (Kept.of_grown hg fun b hb => by injection hb with hb; first | exact hb.symm | exact hb) fun b hb e => ?_
  subst e
  rcases h.gc with h1 | h1
  · exact h1
  · omega
/-- One of the struct's cells stored. -/
theorem NtMid.cell (h : NtMid W0 G w r c U V room k l se lo) (i : Nat) (v : Value) {U2 : Value} {se2 lo2 : Int} (he : (#[.chan (some c), U, .int .i64 se, .int .i64 lo] : Array Value).setIfInBounds i v = #[.chan (some c), U2, .int .i64 se2, .int .i64 lo2]) : NtMid W0 G (w.setCell ⟨r, i, none⟩ v) r c U2 V room k l se2 lo2 := by
  have hg := grown_set w r i v
  obtain ⟨ci, cj, hc⟩ := h.ch
  refine ⟨by rw [← he]; exact heap_setCell_same w r i _ _ _ h.row, ⟨ci, cj, (hg.block c h.clt (fun e => h.ne (Option.some.inj e))).trans hc⟩, h.own.keep fun b hb => hg.block b (h.own.lt b hb).2 (fun e => h.vr (by rw [hb, ← e])), h.gr, h.gc, h.gv, ?_⟩
  refine h.kept.trans (G := fun i => i = r) (Kept.of_grown hg fun b hb => by injection hb with hb; first | exact hb.symm | exact hb) fun b hb e => ?_
  subst e
  rcases h.gr with h1 | h1
  · exact h1
  · omega
theorem NtMid.slot (h : NtMid W0 G w r c U V room k l se lo) (U2 : Value) : NtMid W0 G (w.setCell ⟨r, 1, none⟩ U2) r c U2 V room k l se lo := h.cell 1 U2 rfl
theorem NtMid.sent (h : NtMid W0 G w r c U V room k l se lo) (x : Int) : NtMid W0 G (w.setCell ⟨r, 2, none⟩ (.int .i64 x)) r c U V room k l x lo := h.cell 2 _ rfl
theorem NtMid.lost (h : NtMid W0 G w r c U V room k l se lo) (x : Int) : NtMid W0 G (w.setCell ⟨r, 3, none⟩ (.int .i64 x)) r c U V room k l se x := h.cell 3 _ rfl
/-- The row grown. -/
theorem NtMid.row' (h : NtMid W0 G w r c U V room k l se lo) (ho : OwF Nt.mC 6 32 w' 0 V' l') (hg : w.grownBy w' V.ownBlock) (hv : V'.ownBlock = V.ownBlock ∨ ∃ b, V'.ownBlock = some b ∧ w.heap.size ≤ b) : NtMid W0 G w' r c U V' room k l' se lo := by
  obtain ⟨ci, cj, hc⟩ := h.ch
  refine ⟨(hg.block r h.cells.lt (fun e => h.vr e.symm)).trans h.row, ⟨ci, cj, (hg.block c h.clt (fun e => h.vc e.symm)).trans hc⟩, ho, h.gr, h.gc, fun b hb => ?_, ?_⟩
  · rcases hv with e | ⟨b', e, hle⟩
    · exact h.gv b (by rw [← e]; exact hb)
    · rw [e] at hb
      injection hb with hb
      have := h.kept.size
      exact .inr (by omega)
  · refine h.kept.trans (G := fun i => V.ownBlock = some i) (Kept.of_grown hg fun b hb => hb) fun b hb e => ?_
    rcases h.gv b e with h1 | h1
    · exact h1
    · omega
end
/-- A net in memory: its blocks are among G's. -/
def NP (w : World) (G : Nat → Prop) (r : Nat) (s : Nt.St) : Prop :=
  ∃ c V, NtMid w G w r c V V s.room (s.room - s.l.length) s.l s.sent s.lost ∧ G r ∧ G c ∧ (∀ b, V.ownBlock = some b → G b) ∧ (∀ i, G i → i < w.heap.size) ∧ Nt.Ok s
/-- What a turning call leaves. -/
def NTurn (G : Nat → Prop) (r : Nat) (s' : Nt.St) (v : Value) (w : World) (e : Ending) (w' : World) : Prop :=
  ∃ G', e = .returned v ∧ NP w' G' r s' ∧ (∀ i, G' i → G i ∨ w.heap.size ≤ i) ∧ Kept G w w'
section
variable {W0 w w' : World} {G : Nat → Prop} {r c : Nat} {V : Value} {s : Nt.St}
theorem NtMid.np (h : NtMid W0 G w r c V V s.room (s.room - s.l.length) s.l s.sent s.lost) (ok : Nt.Ok s) (hG : ∀ i, G i → i < W0.heap.size) : NP w (fun i => G i ∨ (W0.heap.size ≤ i ∧ i < w.heap.size)) r s := by
  have hz := h.kept.size
  have k1 : ∀ i, G i ∨ W0.heap.size ≤ i → i < w.heap.size → G i ∨ (W0.heap.size ≤ i ∧ i < w.heap.size) := fun i hi hl => hi.imp id fun h1 => ⟨h1, hl⟩
  have hr := k1 r h.gr h.cells.lt
  have hc := k1 c h.gc h.clt
  have hv : ∀ b, V.ownBlock = some b → G b ∨ (W0.heap.size ≤ b ∧ b < w.heap.size) := fun b hb => k1 b (h.gv b hb) (h.own.lt b hb).2
  refine ⟨c, V, ⟨h.row, h.ch, h.own, .inl hr, .inl hc, fun b hb => .inl (hv b hb), Kept.refl _ _⟩, hr, hc, hv, fun i hi => ?_, ok⟩
  rcases hi with h1 | h1
  · have := hG i h1; omega
  · exact h1.2
theorem NtMid.turn {v : Value} (h : NtMid W0 G w r c V V s.room (s.room - s.l.length) s.l s.sent s.lost) (ok : Nt.Ok s) (hG : ∀ i, G i → i < W0.heap.size) : NTurn G r s v W0 (.returned v) w :=
  ⟨_, rfl, h.np ok hG, fun i hi => hi.imp id fun h1 => h1.1, h.kept⟩
theorem NP.keep (h : NP w G r s) (hs : w.heap.size ≤ w'.heap.size) (hk : ∀ i, G i → w'.heap[i]? = w.heap[i]?) : NP w' G r s := by
  obtain ⟨c, V, h1, h2, h3, h4, h5, h6⟩ := h
  obtain ⟨i, j, hc⟩ := h1.ch
  exact ⟨c, V, ⟨(hk r h2).trans h1.row, ⟨i, j, (hk c h3).trans hc⟩, h1.own.keep fun b hb => hk b (h4 b hb), .inl h2, .inl h3, fun b hb => .inl (h4 b hb), Kept.refl _ _⟩, h2, h3, h4, fun i hi => Nat.lt_of_lt_of_le (h5 i hi) hs, h6⟩
theorem NP.on (h : NP w G r s) (hb : Below w.heap.size w w') : NP w' G r s := h.keep hb.size fun i hi => hb.block i (by obtain ⟨_, _, _, _, _, _, h5, _⟩ := h; exact h5 i hi)
theorem NP.lt (h : NP w G r s) : ∀ i, G i → i < w.heap.size := by obtain ⟨_, _, _, _, _, _, h5, _⟩ := h; exact h5
theorem NP.ok (h : NP w G r s) : Nt.Ok s := by obtain ⟨_, _, _, _, _, _, _, h6⟩ := h; exact h6
end
end Go.Proofs.Ytmhhjipdbfepiaa
