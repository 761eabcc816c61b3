/-
  A net made since a world, and blocks that stay beside it over its calls. No condition.
-/
import Derived.Test.YtmhhjipdbfepiaaNd8
namespace Go.Proofs.Ytmhhjipdbfepiaa
open Go.RowKit Go.Deep
set_option linter.unusedSimpArgs false
set_option linter.unusedVariables false

/-- A net made since w0, among whose blocks none of F's is. -/
def NAt (w0 : World) (F : Nat → Prop) (r : Nat) (s : Nt.St) (W : World) : Prop := ∃ G, NP W G r s ∧ (∀ i, G i → w0.heap.size ≤ i) ∧ (∀ b, F b → ¬ G b ∧ b < W.heap.size) ∧ Below w0.heap.size w0 W
/-- What a turning call leaves. -/
def NRes (w0 : World) (F : Nat → Prop) (r : Nat) (s' : Nt.St) (x : Value) (W : World) (e : Ending) (w' : World) : Prop :=
  e = .returned x ∧ NAt w0 F r s' w' ∧ W.heap.size ≤ w'.heap.size ∧ ∀ b, F b → w'.heap[b]? = W.heap[b]?
section
variable {w0 W W' : World} {F : Nat → Prop} {r : Nat} {s : Nt.St}
theorem NAt.on (h : NAt w0 F r s W) (hb : Below W.heap.size W W') : NAt w0 F r s W' := by
  obtain ⟨G, h1, h2, h3, h4⟩ := h
  exact ⟨G, h1.on hb, h2, fun b hb2 => ⟨(h3 b hb2).1, Nat.lt_of_lt_of_le (h3 b hb2).2 hb.size⟩, h4.trans (hb.mono h4.size)⟩
theorem NAt.below (h : NAt w0 F r s W) : Below w0.heap.size w0 W := by
  obtain ⟨G, h1, h2, h3, h4⟩ := h
  exact h4
theorem NAt.ok (h : NAt w0 F r s W) : Nt.Ok s := by
  obtain ⟨G, h1, h2, h3, h4⟩ := h
  exact h1.ok
theorem NAt.ask (h : NAt w0 F r s W) : NAsk W (some ⟨r, 0, none⟩) s.l s.sent s.lost := by
  obtain ⟨G, h1, h2, h3, h4⟩ := h
  exact h1.ask
theorem NAt.more (h : NAt w0 F r s W) (hb : Below W.heap.size W W') : NAt w0 (fun b => F b ∨ (W.heap.size ≤ b ∧ b < W'.heap.size)) r s W' := by
  obtain ⟨G, h1, h2, h3, h4⟩ := h
  refine ⟨G, h1.on hb, h2, fun b hb2 => ?_, h4.trans (hb.mono h4.size)⟩
  rcases hb2 with hf | ⟨hge, hlt⟩
  · exact ⟨(h3 b hf).1, Nat.lt_of_lt_of_le (h3 b hf).2 hb.size⟩
  · exact ⟨fun hx => by have := h1.lt b hx; omega, hlt⟩
theorem NAt.less {F' : Nat → Prop} (h : NAt w0 F r s W) (hF : ∀ b, F' b → F b) : NAt w0 F' r s W := by
  obtain ⟨G, h1, h2, h3, h4⟩ := h
  exact ⟨G, h1, h2, fun b hb => h3 b (hF b hb), h4⟩
theorem nres_of {G : Nat → Prop} {s' : Nt.St} {x : Value} {e : Ending} {w' : World} (h2 : ∀ i, G i → w0.heap.size ≤ i) (h3 : ∀ b, F b → ¬ G b ∧ b < W.heap.size) (h4 : Below w0.heap.size w0 W) (hp : NTurn G r s' x W e w') : NRes w0 F r s' x W e w' := by
  obtain ⟨G', e1, e2, e3, e4⟩ := hp
  refine ⟨e1, ⟨G', e2, fun i hi => ?_, fun b hb => ⟨fun hx => ?_, Nat.lt_of_lt_of_le (h3 b hb).2 e4.size⟩, h4.trans (e4.below h4.size h2)⟩, e4.size, fun b hb => e4.block b (h3 b hb).2 (h3 b hb).1⟩
  · rcases e3 i hi with h | h
    · exact h2 i h
    · exact Nat.le_trans h4.size h
  · rcases e3 b hx with h | h
    · exact (h3 b hb).1 h
    · have := (h3 b hb).2; omega
theorem nat_send (h : NAt w0 F r s W) (m : Nt.M) (hm : Nt.In m) (hlo : 0 ≤ s.lost ∧ s.lost ≤ 1000000) (hse : 0 ≤ s.sent ∧ s.sent ≤ 1000000) : Calls Try.prog 16 #[.pointer (some ⟨r, 0, none⟩), Nt.val m] W (NRes w0 F r (Nt.sendS s m) (.int .i64 (Nt.sendE s m)) W) := by
  obtain ⟨G, h1, h2, h3, h4⟩ := h
  exact (nsend_any W G r s m h1 hm hlo hse).mono fun _ _ hp => nres_of h2 h3 h4 hp
theorem nat_take (h : NAt w0 F r s W) (at_ : Int) (ha : Nt.i64 at_) : Calls Try.prog 18 #[.pointer (some ⟨r, 0, none⟩), .int .i64 at_] W (NRes w0 F r (Nt.takeS s at_) (.tuple #[Nt.val (Nt.takeM s at_), .bool (Nt.takeB s)]) W) := by
  obtain ⟨G, h1, h2, h3, h4⟩ := h
  exact (ntake_any W G r s at_ h1 ha).mono fun _ _ hp => nres_of h2 h3 h4 hp
theorem nat_drop (h : NAt w0 F r s W) (at_ : Int) (ha : Nt.i64 at_) (hlo : 0 ≤ s.lost ∧ s.lost ≤ 1000000) : Calls Try.prog 20 #[.pointer (some ⟨r, 0, none⟩), .int .i64 at_] W (NRes w0 F r (Nt.dropS s at_) (.bool (Nt.takeB s)) W) := by
  obtain ⟨G, h1, h2, h3, h4⟩ := h
  exact (ndrop_any W G r s at_ h1 ha hlo).mono fun _ _ hp => nres_of h2 h3 h4 hp
theorem nat_twice (h : NAt w0 F r s W) (at_ : Int) (ha : Nt.i64 at_) (hlo : 0 ≤ s.lost ∧ s.lost ≤ 1000000) : Calls Try.prog 22 #[.pointer (some ⟨r, 0, none⟩), .int .i64 at_] W (NRes w0 F r (Nt.twiceS s at_) (.int .i64 (Nt.twiceE s)) W) := by
  obtain ⟨G, h1, h2, h3, h4⟩ := h
  exact (ntwice_any W G r s at_ h1 ha hlo).mono fun _ _ hp => nres_of h2 h3 h4 hp
theorem nat_new (room : Int) (hb : Below w0.heap.size w0 W) (hv : ∀ b, F b → b < W.heap.size) :
    Calls Try.prog 10 #[.int .i64 room] W (fun e w' => ∃ r, e = .returned (.pointer (some ⟨r, 0, none⟩)) ∧ NAt w0 F r (Nt.new room) w' ∧ Below W.heap.size W w') :=
  (nnew_any room W).mono fun _ _ ⟨r, G, h1, h2, h3, h4⟩ => ⟨r, h1, ⟨G, h2, fun i hi => Nat.le_trans hb.size (h3 i hi), fun b hb2 => ⟨fun hx => by have := h3 b hx; have := hv b hb2; omega, Nat.lt_of_lt_of_le (hv b hb2) h4.size⟩, hb.trans (h4.mono hb.size)⟩, h4⟩
end
/-- A net, and blocks that stay beside it. -/
structure NQ (w0 : World) (F : Nat → Prop) (r : Nat) (L : List (Nat × Nt.M)) (s : Nt.St) (W : World) : Prop where
  la : NAt w0 F r s W
  side : ∀ p ∈ L, F p.1 ∧ NtAt W p.1 p.2
section
variable {w0 W W' : World} {F F' : Nat → Prop} {r : Nat} {s s' : Nt.St} {L : List (Nat × Nt.M)}
theorem NQ.on (h : NQ w0 F r L s W) (hb : Below W.heap.size W W') : NQ w0 F r L s W' :=
  ⟨h.la.on hb, fun p hp => ⟨(h.side p hp).1, (h.side p hp).2.on hb⟩⟩
theorem NQ.res (h : NQ w0 F r L s W) {x : Value} {e : Ending} (hr : NRes w0 F r s' x W e W') : e = .returned x ∧ NQ w0 F r L s' W' ∧ W.heap.size ≤ W'.heap.size :=
  ⟨hr.1, ⟨hr.2.1, fun p hp => ⟨(h.side p hp).1, (h.side p hp).2.keep (hr.2.2.2 p.1 (h.side p hp).1)⟩⟩, hr.2.2.1⟩
theorem NQ.push (h : NQ w0 F r L s W) (m : Nt.M) : ∃ F', (∀ b, F b → F' b) ∧ NQ w0 F' r ((W.heap.size, m) :: L) s (W.alloc (.cells (Nt.cs m) 32)) := by
  have hb : Below W.heap.size W (W.alloc (.cells (Nt.cs m) 32)) := (Below.refl _ _).alloc (Nat.le_refl _) _
  have hn := NtAt.new W m
  refine ⟨fun b => F b ∨ (W.heap.size ≤ b ∧ b < (W.alloc (.cells (Nt.cs m) 32)).heap.size), fun b hb => .inl hb, h.la.more hb, fun p hp => ?_⟩
  rcases List.mem_cons.1 hp with rfl | hp
  · exact ⟨.inr ⟨Nat.le_refl _, hn.cs.lt⟩, hn⟩
  · exact ⟨.inl (h.side p hp).1, (h.side p hp).2.on hb⟩
theorem NQ.pop (h : NQ w0 F' r L s W) (hF : ∀ b, F b → F' b) : NQ w0 F r [] s W := ⟨h.la.less hF, fun p hp => by cases hp⟩
theorem NQ.at_ (h : NQ w0 F r L s W) (i : Nat) {p : Nat × Nt.M} (hi : L[i]? = some p) : NtAt W p.1 p.2 := (h.side p (List.mem_of_getElem? hi)).2
end
end Go.Proofs.Ytmhhjipdbfepiaa
