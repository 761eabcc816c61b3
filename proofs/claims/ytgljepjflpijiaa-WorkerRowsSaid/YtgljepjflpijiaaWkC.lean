/-
  The contracts asked of package worker (layer 16), for any way in which a worker may lie in memory. No condition.
-/
import Derived.Test.YtgljepjflpijiaaWkStep
import Derived.Test.YtgljepjflpijiaaWkRef2
import Derived.Test.YtgljepjflpijiaaKept
namespace Go.Proofs.Ytgljepjflpijiaa
open Go.RowKit Go.Deep
set_option linter.unusedVariables false

abbrev WkP := World → (Nat → Prop) → Nat → Wk.W → Prop
abbrev wkp (q : Nat) : Value := .pointer (some ⟨q, 0, none⟩)
def WkTurn (L : WkP) (X : Nat → Prop) (q : Nat) (s' : Wk.W) (v : Value) (w : World) (e : Ending) (w' : World) : Prop := ∃ X', e = .returned v ∧ L w' X' q s' ∧ (∀ i, X' i → X i ∨ w.heap.size ≤ i) ∧ Kept X w w'
/-- What a call that only tells leaves. -/
def WkAns (v : Value) (w : World) (e : Ending) (w' : World) : Prop := e = .returned v ∧ Below w.heap.size w w'
/-- A slot, or the zero one where it isn't its own. -/
def Wk.slotOf (s : Wk.W) (u : Int) : Su.S := if Wk.own s u then s.l u.toNat else Wk.z4
structure WC (L : WkP) : Prop where
  keep : ∀ w w' X q s, L w X q s → w.heap.size ≤ w'.heap.size → (∀ i, X i → w'.heap[i]? = w.heap[i]?) → L w' X q s
  lt : ∀ w X q s, L w X q s → ∀ i, X i → i < w.heap.size
  ok : ∀ w X q s, L w X q s → Wk.Ok s
  make : ∀ W n many, Nt.i64 n → Nt.i64 many → Wk.mayNew n many → Calls Try.prog 10 #[.int .i64 n, .int .i64 many] W (fun e w' => ∃ q X, e = .returned (.tuple #[wkp q, .int .i64 0]) ∧ L w' X q (Wk.new n many) ∧ (∀ i, X i → W.heap.size ≤ i) ∧ Below W.heap.size W w')
  none_ : ∀ W n many, Nt.i64 n → Nt.i64 many → ¬ Wk.mayNew n many → Calls Try.prog 10 #[.int .i64 n, .int .i64 many] W (WkAns (.tuple #[.pointer none, .int .i64 1]) W)
  apply : ∀ W X q s m, L W X q s → Nt.In m → Calls Try.prog 17 #[wkp q, Nt.val m] W (WkTurn L X q (Wk.applyS s m) (.int .i64 (Wk.applyE s m)) W)
  go : ∀ W X q s u, L W X q s → Nt.i64 u → Calls Try.prog 21 #[wkp q, .int .i64 u] W (WkTurn L X q (Wk.turnS s u 1) (.bool (decide (Wk.turnB s u 1))) W)
  hurt : ∀ W X q s u, L W X q s → Nt.i64 u → Calls Try.prog 23 #[wkp q, .int .i64 u] W (WkTurn L X q (Wk.turnS s u 2) (.bool (decide (Wk.turnB s u 2))) W)
  heal : ∀ W X q s u, L W X q s → Nt.i64 u → Calls Try.prog 24 #[wkp q, .int .i64 u] W (WkTurn L X q (Wk.turnS s u 3) (.bool (decide (Wk.turnB s u 3))) W)
  fall : ∀ W X q s, L W X q s → Calls Try.prog 20 #[wkp q] W (WkTurn L X q (Wk.fallS s) (.int .i64 (Wk.fallN s.l 16 : Nat)) W)
  report : ∀ W X q s u, L W X q s → Nt.i64 u → Calls Try.prog 22 #[wkp q, .int .i64 u] W (WkAns (.tuple #[Nt.val (Wk.report s u), .bool (decide (Wk.own s u))]) W)
  slot : ∀ W X q s u, L W X q s → Nt.i64 u → Calls Try.prog 16 #[wkp q, .int .i64 u] W (WkAns (.tuple #[suV (Wk.slotOf s u), .bool (decide (Wk.own s u))]) W)
  units : ∀ W X q s, L W X q s → Calls Try.prog 18 #[wkp q] W (fun e w' => ∃ v, e = .returned v ∧ OwnI w' W.heap.size v (Wk.units s 16) ∧ Below W.heap.size W w')
  seen : ∀ W X q s, L W X q s → Calls Try.prog 15 #[wkp q] W (WkAns (.int .i64 s.seen) W)
  count : ∀ W X q s st, L W X q s → Nt.i64 st → Calls Try.prog 19 #[wkp q, .int .i64 st] W (WkAns (.int .i64 (Wk.count s st 16 : Nat)) W)
theorem WC.below {L : WkP} (h : WC L) {w w' : World} {X : Nat → Prop} {q : Nat} {s : Wk.W} (hk : L w X q s) (hb : Below w.heap.size w w') : L w' X q s :=
  h.keep _ _ _ _ _ hk hb.size fun i hi => hb.block i (h.lt _ _ _ _ hk i hi)
/-- A worker made since w0, among whose blocks none of F's is. -/
def WIn (L : WkP) (w0 : World) (F : Nat → Prop) (q : Nat) (s : Wk.W) (W : World) : Prop := ∃ X, L W X q s ∧ (∀ i, X i → w0.heap.size ≤ i) ∧ (∀ b, F b → ¬ X b ∧ b < W.heap.size) ∧ Below w0.heap.size w0 W
section
variable {L : WkP} {w0 W W' : World} {F : Nat → Prop} {q : Nat} {s : Wk.W}
theorem WIn.on (hC : WC L) (h : WIn L w0 F q s W) (hb : Below W.heap.size W W') : WIn L w0 F q s W' := by
  obtain ⟨X, h1, h2, h3, h4⟩ := h
  exact ⟨X, hC.below h1 hb, h2, fun b hb2 => ⟨(h3 b hb2).1, Nat.lt_of_lt_of_le (h3 b hb2).2 hb.size⟩, h4.trans (hb.mono h4.size)⟩
theorem WIn.below (h : WIn L w0 F q s W) : Below w0.heap.size w0 W := by
  obtain ⟨X, h1, h2, h3, h4⟩ := h
  exact h4
theorem WIn.ok (hC : WC L) (h : WIn L w0 F q s W) : Wk.Ok s := by
  obtain ⟨X, h1, h2, h3, h4⟩ := h
  exact hC.ok _ _ _ _ h1
theorem WIn.more (hC : WC L) (h : WIn L w0 F q s W) (hb : Below W.heap.size W W') : WIn L w0 (fun b => F b ∨ (W.heap.size ≤ b ∧ b < W'.heap.size)) q s W' := by
  obtain ⟨X, h1, h2, h3, h4⟩ := h
  refine ⟨X, hC.below h1 hb, h2, fun b hb2 => ?_, h4.trans (hb.mono h4.size)⟩
  rcases hb2 with hf | ⟨hge, hlt⟩
  · exact ⟨(h3 b hf).1, Nat.lt_of_lt_of_le (h3 b hf).2 hb.size⟩
  · exact ⟨fun hx => by have := hC.lt _ _ _ _ h1 b hx; omega, hlt⟩
theorem WIn.less {G : Nat → Prop} (h : WIn L w0 F q s W) (hG : ∀ b, G b → F b) : WIn L w0 G q s W := by
  obtain ⟨X, h1, h2, h3, h4⟩ := h
  exact ⟨X, h1, h2, fun b hb => h3 b (hG b hb), h4⟩
/-- What a turning call leaves. -/
def WRes (L : WkP) (w0 : World) (F : Nat → Prop) (q : Nat) (s' : Wk.W) (x : Value) (W : World) (e : Ending) (w' : World) : Prop :=
  e = .returned x ∧ WIn L w0 F q s' w' ∧ ∀ b, F b → w'.heap[b]? = W.heap[b]?
theorem wres_of {X : Nat → Prop} {s' : Wk.W} {x : Value} {e : Ending} {w' : World} (h2 : ∀ i, X i → w0.heap.size ≤ i) (h3 : ∀ b, F b → ¬ X b ∧ b < W.heap.size) (h4 : Below w0.heap.size w0 W) (hp : WkTurn L X q s' x W e w') : WRes L w0 F q s' x W e w' := by
  obtain ⟨X', e1, e2, e3, e4⟩ := hp
  refine ⟨e1, ⟨X', e2, fun i hi => ?_, fun b hb => ⟨fun hx => ?_, Nat.lt_of_lt_of_le (h3 b hb).2 e4.size⟩, h4.trans (e4.below h4.size h2)⟩, fun b hb => e4.block b (h3 b hb).2 (h3 b hb).1⟩
  · rcases e3 i hi with h | h
    · exact h2 i h
    · exact Nat.le_trans h4.size h
  · rcases e3 b hx with h | h
    · exact (h3 b hb).1 h
    · have := (h3 b hb).2; omega
theorem win_apply (hC : WC L) (h : WIn L w0 F q s W) {m : Nt.M} (hm : Nt.In m) : Calls Try.prog 17 #[wkp q, Nt.val m] W (WRes L w0 F q (Wk.applyS s m) (.int .i64 (Wk.applyE s m)) W) := by
  obtain ⟨X, h1, h2, h3, h4⟩ := h
  exact (hC.apply W X q s m h1 hm).mono fun _ _ hp => wres_of h2 h3 h4 hp
theorem win_go (hC : WC L) (h : WIn L w0 F q s W) {u : Int} (hu : Nt.i64 u) : Calls Try.prog 21 #[wkp q, .int .i64 u] W (WRes L w0 F q (Wk.turnS s u 1) (.bool (decide (Wk.turnB s u 1))) W) := by
  obtain ⟨X, h1, h2, h3, h4⟩ := h
  exact (hC.go W X q s u h1 hu).mono fun _ _ hp => wres_of h2 h3 h4 hp
theorem win_hurt (hC : WC L) (h : WIn L w0 F q s W) {u : Int} (hu : Nt.i64 u) : Calls Try.prog 23 #[wkp q, .int .i64 u] W (WRes L w0 F q (Wk.turnS s u 2) (.bool (decide (Wk.turnB s u 2))) W) := by
  obtain ⟨X, h1, h2, h3, h4⟩ := h
  exact (hC.hurt W X q s u h1 hu).mono fun _ _ hp => wres_of h2 h3 h4 hp
theorem win_heal (hC : WC L) (h : WIn L w0 F q s W) {u : Int} (hu : Nt.i64 u) : Calls Try.prog 24 #[wkp q, .int .i64 u] W (WRes L w0 F q (Wk.turnS s u 3) (.bool (decide (Wk.turnB s u 3))) W) := by
  obtain ⟨X, h1, h2, h3, h4⟩ := h
  exact (hC.heal W X q s u h1 hu).mono fun _ _ hp => wres_of h2 h3 h4 hp
theorem win_fall (hC : WC L) (h : WIn L w0 F q s W) : Calls Try.prog 20 #[wkp q] W (WRes L w0 F q (Wk.fallS s) (.int .i64 (Wk.fallN s.l 16 : Nat)) W) := by
  obtain ⟨X, h1, h2, h3, h4⟩ := h
  exact (hC.fall W X q s h1).mono fun _ _ hp => wres_of h2 h3 h4 hp
theorem win_report (hC : WC L) (h : WIn L w0 F q s W) {u : Int} (hu : Nt.i64 u) : Calls Try.prog 22 #[wkp q, .int .i64 u] W (WkAns (.tuple #[Nt.val (Wk.report s u), .bool (decide (Wk.own s u))]) W) := by
  obtain ⟨X, h1, h2, h3, h4⟩ := h
  exact hC.report W X q s u h1 hu
theorem win_slot (hC : WC L) (h : WIn L w0 F q s W) {u : Int} (hu : Nt.i64 u) : Calls Try.prog 16 #[wkp q, .int .i64 u] W (WkAns (.tuple #[suV (Wk.slotOf s u), .bool (decide (Wk.own s u))]) W) := by
  obtain ⟨X, h1, h2, h3, h4⟩ := h
  exact hC.slot W X q s u h1 hu
theorem win_units (hC : WC L) (h : WIn L w0 F q s W) : Calls Try.prog 18 #[wkp q] W (fun e w' => ∃ v, e = .returned v ∧ OwnI w' W.heap.size v (Wk.units s 16) ∧ Below W.heap.size W w') := by
  obtain ⟨X, h1, h2, h3, h4⟩ := h
  exact hC.units W X q s h1
theorem win_seen (hC : WC L) (h : WIn L w0 F q s W) : Calls Try.prog 15 #[wkp q] W (WkAns (.int .i64 s.seen) W) := by
  obtain ⟨X, h1, h2, h3, h4⟩ := h
  exact hC.seen W X q s h1
theorem win_count (hC : WC L) (h : WIn L w0 F q s W) {st : Int} (hst : Nt.i64 st) : Calls Try.prog 19 #[wkp q, .int .i64 st] W (WkAns (.int .i64 (Wk.count s st 16 : Nat)) W) := by
  obtain ⟨X, h1, h2, h3, h4⟩ := h
  exact hC.count W X q s st h1 hst
theorem win_make (hC : WC L) {n many : Int} (hn : Nt.i64 n) (hm : Nt.i64 many) (hc : Wk.mayNew n many) (hb : Below w0.heap.size w0 W) (hv : ∀ b, F b → b < W.heap.size) :
    Calls Try.prog 10 #[.int .i64 n, .int .i64 many] W (fun e w' => ∃ q, e = .returned (.tuple #[wkp q, .int .i64 0]) ∧ WIn L w0 F q (Wk.new n many) w' ∧ Below W.heap.size W w') :=
  (hC.make W n many hn hm hc).mono fun _ _ ⟨q, X, h1, h2, h3, h4⟩ => ⟨q, h1, ⟨X, h2, fun i hi => Nat.le_trans hb.size (h3 i hi), fun b hb2 => ⟨fun hx => by have := h3 b hx; have := hv b hb2; omega, Nat.lt_of_lt_of_le (hv b hb2) h4.size⟩, hb.trans (h4.mono hb.size)⟩, h4⟩
end
end Go.Proofs.Ytgljepjflpijiaa
