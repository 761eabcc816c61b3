/-
  NetPlays: a net and the document's beside it: what stays over their calls. No condition.
-/
import Derived.Test.YtmhhjipdbfepiaaNtR4
import Derived.Test.YtmhhjipdbfepiaaNtR5
import Derived.Test.YtmhhjipdbfepiaaNtQ
import Derived.Test.YtmhhjipdbfepiaaNtSt
namespace Go.Proofs.Ytmhhjipdbfepiaa
open Go.RowKit Go.Deep
set_option linter.unusedSimpArgs false
set_option linter.unusedVariables false
set_option maxRecDepth 100000

/-- What the document's call leaves: a row of its own, or the one that was handed in. -/
def RS (A : Option Addr) (s s' : Nt.St) (f : Value → Value) (w : World) (e : Ending) (w' : World) : Prop :=
  ∃ A' c', e = .returned (f (nrV (s'.room : Nat) (.slice A' s'.l.length c') s'.sent s'.lost)) ∧ SlF Nt.mC w' A' s'.l.length c' s'.l ∧ ((A' = A ∧ s'.l.length ≤ s.l.length) ∨ A' = none ∨ NewAt w A') ∧ Below w.heap.size w w'
theorem RPost.rs {A0 A : Option Addr} {rm se lo : Int} {n : Nat} {l : List Nt.M} {f : Value → Value} {w w' : World} {e : Ending} {s s' : Nt.St} (h : RPost A0 rm n l se lo f w e w') (hrm : (s'.room : Int) = rm) (hl : s'.l = l) (hn : s'.l.length = n) (hse : s'.sent = se) (hlo : s'.lost = lo) (hA : A0 = none ∨ (A0 = A ∧ n ≤ s.l.length)) : RS A s s' f w e w' := by
  subst hl hn hse hlo
  rw [← hrm] at h
  obtain ⟨A', c', h1, h2, h3, h4⟩ := h
  refine ⟨A', c', h1, h2, ?_, h4⟩
  rcases h3 with h3 | h3
  · rcases hA with h5 | ⟨h5, h6⟩
    · exact .inr (.inl (h3.trans h5))
    · exact .inl ⟨h3.trans h5, h6⟩
  · exact .inr (.inr h3)
/-- The counts, behind so many steps. -/
structure Bd (s : Nt.St) (j : Nat) : Prop where
  lo : 0 ≤ s.lost ∧ s.lost ≤ j
  se : 0 ≤ s.sent ∧ s.sent ≤ j
  j : j ≤ 100
section
variable {s : Nt.St} {j : Nat}
theorem Bd.lo1 (h : Bd s j) : 0 ≤ s.lost ∧ s.lost ≤ 1000000 := by have := h.lo; have := h.j; omega
theorem Bd.se1 (h : Bd s j) : 0 ≤ s.sent ∧ s.sent ≤ 1000000 := by have := h.se; have := h.j; omega
theorem Bd.send (h : Bd s j) (hj : j < 100) (m : Nt.M) : Bd (Nt.sendS s m) (j + 1) := by
  have h1 := h.lo
  have h2 := h.se
  unfold Nt.sendS
  split
  · split
    · exact ⟨by simp only; omega, by simp only; omega, by omega⟩
    · exact ⟨by simp only; omega, by simp only; omega, by omega⟩
  · exact ⟨by omega, by omega, by omega⟩
theorem Bd.take (h : Bd s j) (hj : j < 100) (a : Int) : Bd (Nt.takeS s a) (j + 1) := by
  have h1 := h.lo
  have h2 := h.se
  unfold Nt.takeS
  split
  · exact ⟨by simp only; omega, by simp only; omega, by omega⟩
  · exact ⟨by omega, by omega, by omega⟩
theorem Bd.drop (h : Bd s j) (hj : j < 100) (a : Int) : Bd (Nt.dropS s a) (j + 1) := by
  have h1 := h.lo
  have h2 := h.se
  unfold Nt.dropS
  split
  · exact ⟨by simp only; omega, by simp only; omega, by omega⟩
  · exact ⟨by omega, by omega, by omega⟩
theorem Bd.twice (h : Bd s j) (hj : j < 100) (a : Int) : Bd (Nt.twiceS s a) (j + 1) := by
  have h1 := h.lo
  have h2 := h.se
  unfold Nt.twiceS Nt.putS
  split
  · split
    · exact ⟨by simp only; omega, by simp only; omega, by omega⟩
    · exact ⟨by simp only; omega, by simp only; omega, by omega⟩
  · exact ⟨by omega, by omega, by omega⟩
end
section
variable {s : Nt.St} {w : World} {A : Option Addr} {c : Nat}
theorem rts_send (hok : Nt.Ok s) (hlo : 0 ≤ s.lost ∧ s.lost ≤ 1000000) (hse : 0 ≤ s.sent ∧ s.sent ≤ 1000000) (m : Nt.M) (hs : SlF Nt.mC w A s.l.length c s.l) :
    Calls Try.prog 14 #[nrV (s.room : Nat) (.slice A s.l.length c) s.sent s.lost, Nt.val m] w (RS A s (Nt.sendS s m) (fun v => .tuple #[v, .int .i64 (Nt.sendE s m)]) w) := by
  have hf := hok.fits
  have hm := hok.most
  by_cases hr : Nt.right m = true
  · by_cases hl : s.l.length < s.room
    · have e1 : Nt.sendE s m = 0 := by unfold Nt.sendE Nt.putE; rw [if_pos hr, if_pos hl]
      have e2 : Nt.sendS s m = ⟨s.room, s.l ++ [m], s.sent + 1, s.lost⟩ := by unfold Nt.sendS; rw [if_pos hr, if_pos hl]
      rw [e1, e2]
      exact (rtsend_ok _ A _ c s.l s.sent s.lost m w hs hr (by omega) hse (by omega)).mono fun _ _ h => h.rs rfl rfl (by simp) rfl rfl (.inl rfl)
    · have e1 : Nt.sendE s m = 4 := by unfold Nt.sendE Nt.putE; rw [if_pos hr, if_neg hl]
      have e2 : Nt.sendS s m = ⟨s.room, s.l, s.sent, s.lost + 1⟩ := by unfold Nt.sendS; rw [if_pos hr, if_neg hl]
      rw [e1, e2]
      exact (rtsend_full _ A _ c s.l s.sent s.lost m w hs hr (by omega) hlo).mono fun _ _ h => h.rs rfl rfl rfl rfl rfl (.inr ⟨rfl, Nat.le_refl _⟩)
  · have e1 : Nt.sendE s m = 1 := by unfold Nt.sendE; rw [if_neg hr]
    have e2 : Nt.sendS s m = s := by unfold Nt.sendS; rw [if_neg hr]
    rw [e1, e2]
    exact (rtsend_arg _ A _ c s.l s.sent s.lost m w hs (by simpa using hr)).mono fun _ _ h => h.rs rfl rfl rfl rfl rfl (.inr ⟨rfl, Nat.le_refl _⟩)
theorem rts_twice (hok : Nt.Ok s) (hlo : 0 ≤ s.lost ∧ s.lost ≤ 1000000) (at_ : Int) (ha : Nt.i64 at_) (hs : SlF Nt.mC w A s.l.length c s.l) :
    Calls Try.prog 21 #[nrV (s.room : Nat) (.slice A s.l.length c) s.sent s.lost, .int .i64 at_] w (RS A s (Nt.twiceS s at_) (fun v => .tuple #[v, .int .i64 (Nt.twiceE s)]) w) := by
  have hf := hok.fits
  have hm := hok.most
  by_cases hr : 0 < s.l.length
  · by_cases hl : s.l.length < s.room
    · have e1 : Nt.twiceE s = 0 := by unfold Nt.twiceE Nt.putE; rw [if_pos hr, if_pos hl]
      have e2 : Nt.twiceS s at_ = ⟨s.room, s.l ++ [Nt.takeM s at_], s.sent, s.lost⟩ := by unfold Nt.twiceS Nt.putS; rw [if_pos hr, if_pos hl]
      rw [e1, e2]
      exact (rttwice_ok _ A _ c s.l s.sent s.lost at_ w hs hr (by omega) ha (Nt.takeM_get hr at_) (by omega)).mono fun _ _ h => h.rs rfl rfl (by simp) rfl rfl (.inl rfl)
    · have e1 : Nt.twiceE s = 4 := by unfold Nt.twiceE Nt.putE; rw [if_pos hr, if_neg hl]
      have e2 : Nt.twiceS s at_ = ⟨s.room, s.l, s.sent, s.lost + 1⟩ := by unfold Nt.twiceS Nt.putS; rw [if_pos hr, if_neg hl]
      rw [e1, e2]
      exact (rttwice_full _ A _ c s.l s.sent s.lost at_ w hs hr (by omega) ha (Nt.takeM_get hr at_) (by omega) hlo).mono fun _ _ h => h.rs rfl rfl rfl rfl rfl (.inr ⟨rfl, Nat.le_refl _⟩)
  · have e1 : Nt.twiceE s = 5 := by unfold Nt.twiceE; rw [if_neg hr]
    have e2 : Nt.twiceS s at_ = s := by unfold Nt.twiceS; rw [if_neg hr]
    rw [e1, e2]
    exact (rttwice_none _ A _ c s.l s.sent s.lost at_ w hs (by omega)).mono fun _ _ h => h.rs rfl rfl rfl rfl rfl (.inr ⟨rfl, Nat.le_refl _⟩)
theorem rts_take (hok : Nt.Ok s) (at_ : Int) (ha : Nt.i64 at_) (hs : SlF Nt.mC w A s.l.length c s.l) :
    Calls Try.prog 17 #[nrV (s.room : Nat) (.slice A s.l.length c) s.sent s.lost, .int .i64 at_] w (RS A s (Nt.takeS s at_) (fun v => .tuple #[v, Nt.val (Nt.takeM s at_), .bool (Nt.takeB s)]) w) := by
  have hf := hok.fits
  have hm := hok.most
  by_cases hr : 0 < s.l.length
  · have e1 : Nt.takeB s = true := decide_eq_true hr
    have e2 : Nt.takeS s at_ = ⟨s.room, Nt.cutL s.l (Nt.pl s.l.length at_), s.sent, s.lost⟩ := by unfold Nt.takeS; rw [if_pos hr]
    have hc := Nt.cutL_len (Nt.pl_lt hr at_)
    rw [e1, e2]
    exact (rttake_yes _ A _ c s.l s.sent s.lost at_ w hs hr (by omega) ha (Nt.takeM_get hr at_)).mono fun _ _ h => h.rs rfl rfl (by show (Nt.cutL s.l (Nt.pl s.l.length at_)).length = _; omega) rfl rfl (.inr ⟨rfl, by omega⟩)
  · have e1 : Nt.takeB s = false := decide_eq_false hr
    have e2 : Nt.takeS s at_ = s := by unfold Nt.takeS; rw [if_neg hr]
    have e3 : Nt.takeM s at_ = Nt.zero := by unfold Nt.takeM; rw [if_neg hr]
    rw [e1, e2, e3]
    exact (rttake_none _ A _ c s.l s.sent s.lost at_ w hs (by omega)).mono fun _ _ h => h.rs rfl rfl rfl rfl rfl (.inr ⟨rfl, Nat.le_refl _⟩)
theorem rts_drop (hok : Nt.Ok s) (hlo : 0 ≤ s.lost ∧ s.lost ≤ 1000000) (at_ : Int) (ha : Nt.i64 at_) (hs : SlF Nt.mC w A s.l.length c s.l) :
    Calls Try.prog 19 #[nrV (s.room : Nat) (.slice A s.l.length c) s.sent s.lost, .int .i64 at_] w (RS A s (Nt.dropS s at_) (fun v => .tuple #[v, .bool (Nt.takeB s)]) w) := by
  have hf := hok.fits
  have hm := hok.most
  by_cases hr : 0 < s.l.length
  · have e1 : Nt.takeB s = true := decide_eq_true hr
    have e2 : Nt.dropS s at_ = ⟨s.room, Nt.cutL s.l (Nt.pl s.l.length at_), s.sent, s.lost + 1⟩ := by unfold Nt.dropS; rw [if_pos hr]
    have hc := Nt.cutL_len (Nt.pl_lt hr at_)
    rw [e1, e2]
    exact (rtdrop_yes _ A _ c s.l s.sent s.lost at_ w hs hr (by omega) ha (Nt.takeM_get hr at_) hlo).mono fun _ _ h => h.rs rfl rfl (by show (Nt.cutL s.l (Nt.pl s.l.length at_)).length = _; omega) rfl rfl (.inr ⟨rfl, by omega⟩)
  · have e1 : Nt.takeB s = false := decide_eq_false hr
    have e2 : Nt.dropS s at_ = s := by unfold Nt.dropS; rw [if_neg hr]
    rw [e1, e2]
    exact (rtdrop_none _ A _ c s.l s.sent s.lost at_ w hs (by omega)).mono fun _ _ h => h.rs rfl rfl rfl rfl rfl (.inr ⟨rfl, Nat.le_refl _⟩)
end
/-- The document's blocks: its net's, its row's. -/
def RF (g : Nat) (A : Option Addr) (n : Nat) (E : Nat → Prop) : Nat → Prop := fun b => b = g ∨ (0 < n ∧ ∃ o, A = some ⟨b, o, none⟩) ∨ E b
/-- A net that reads as s, and beside it the document's block g and a row that reads as s'. -/
structure PM (w0 : World) (r g : Nat) (s : Nt.St) (A : Option Addr) (c : Nat) (s' : Nt.St) (E : Nat → Prop) (W : World) : Prop where
  na : NAt w0 (RF g A s'.l.length E) r s W
  sl : SlF Nt.mC W A s'.l.length c s'.l
  ge : w0.heap.size ≤ g
  ne : ∀ b o, A = some ⟨b, o, none⟩ → 0 < s'.l.length → b ≠ g ∧ ¬ E b
section
variable {w0 W W' : World} {r g : Nat} {s s' : Nt.St} {A : Option Addr} {c : Nat} {E E' : Nat → Prop}
theorem NAt.flt {F : Nat → Prop} (h : NAt w0 F r s W) {b : Nat} (hb : F b) : b < W.heap.size := by
  obtain ⟨G, h1, h2, h3, h4⟩ := h
  exact (h3 b hb).2
theorem PM.lt (h : PM w0 r g s A c s' E W) : g < W.heap.size := h.na.flt (.inl rfl)
theorem PM.on (h : PM w0 r g s A c s' E W) (hb : Below W.heap.size W W') : PM w0 r g s A c s' E W' :=
  ⟨h.na.on hb, h.sl.on hb, h.ge, h.ne⟩
theorem PM.sub (h : PM w0 r g s A c s' E W) (hE : ∀ b, E' b → E b) : PM w0 r g s A c s' E' W :=
  ⟨h.na.less fun b hb => hb.imp id (Or.imp id (hE b)), h.sl, h.ge, fun b o hA hl => ⟨(h.ne b o hA hl).1, fun e => (h.ne b o hA hl).2 (hE b e)⟩⟩
theorem PM.at_ (h : PM w0 r g s A c s' E W) {q : Nat} (hg : W.grownBy W' (some q)) (hq : q = g ∨ E q) (hq0 : w0.heap.size ≤ q) : PM w0 r g s A c s' E W' := by
  obtain ⟨G, h1, h2, h3, h4⟩ := h.na
  have hF : RF g A s'.l.length E q := hq.elim .inl fun h => .inr (.inr h)
  refine ⟨⟨G, h1.keep hg.size fun i hi => hg.block i (h1.lt i hi) (fun e => ?_), h2, fun b hb => ⟨(h3 b hb).1, Nat.lt_of_lt_of_le (h3 b hb).2 hg.size⟩, h4.grown hg h4.size (fun b hb => by injection hb with hb; omega)⟩, h.sl.keep hg.size fun b o hA hl => ?_, h.ge, h.ne⟩
  · injection e with e
    exact (h3 q hF).1 (e ▸ hi)
  · obtain ⟨b', o', e1, e2, _⟩ := h.sl.rd hl
    rw [hA] at e1
    injection e1 with e1
    injection e1 with e1 _
    refine hg.block b (by omega) (fun e => ?_)
    injection e with e
    rcases hq with h5 | h5
    · exact (h.ne b o hA hl).1 (e ▸ h5)
    · exact (h.ne b o hA hl).2 (e ▸ h5)
theorem PM.store (h : PM w0 r g s A c s' E W) (hg : W.grownBy W' (some g)) : PM w0 r g s A c s' E W' := h.at_ hg (.inl rfl) h.ge
theorem PM.ref (h : PM w0 r g s A c s E W) {f : Value → Value} {e : Ending} (hr : RS A s s' f W e W') : ∃ A' c', e = .returned (f (nrV (s'.room : Nat) (.slice A' s'.l.length c') s'.sent s'.lost)) ∧ PM w0 r g s A' c' s' E W' ∧ Below W.heap.size W W' := by
  obtain ⟨A', c', h1, h2, h3, h4⟩ := hr
  refine ⟨A', c', h1, ⟨(h.na.more h4).less fun b hb => ?_, h2, h.ge, fun b o hA hl => ?_⟩, h4⟩
  · rcases hb with rfl | ⟨hl, o, hA⟩ | hb
    · exact .inl (.inl rfl)
    · obtain ⟨b', o', e1, e2, _⟩ := h2.rd hl
      rw [hA] at e1
      injection e1 with e1
      injection e1 with e1 _
      rcases h3 with ⟨h5, h6⟩ | h5 | h5
      · exact .inl (.inr (.inl ⟨Nat.lt_of_lt_of_le hl h6, o, by rw [← h5]; exact hA⟩))
      · rw [h5] at hA; cases hA
      · exact .inr ⟨h5 b o hA, by omega⟩
    · exact .inl (.inr (.inr hb))
  · rcases h3 with ⟨h5, h6⟩ | h5 | h5
    · exact h.ne b o (by rw [← h5]; exact hA) (Nat.lt_of_lt_of_le hl h6)
    · rw [h5] at hA; cases hA
    · have h7 := h5 b o hA
      exact ⟨fun e => by have := h.lt; omega, fun e => by have := h.na.flt (b := b) (.inr (.inr e)); omega⟩
theorem PM.extra (h : PM w0 r g s A c s' (fun _ => False) W) (hb : Below W.heap.size W W') : PM w0 r g s A c s' (fun b => W.heap.size ≤ b ∧ b < W'.heap.size) W' := by
  refine ⟨(h.na.more hb).less fun b hb2 => ?_, h.sl.on hb, h.ge, fun b o hA hl => ⟨(h.ne b o hA hl).1, fun e => ?_⟩⟩
  · rcases hb2 with h1 | h1 | h1
    · exact .inl (.inl h1)
    · exact .inl (.inr (.inl h1))
    · exact .inr h1
  · obtain ⟨b', o', e1, e2, _⟩ := h.sl.rd hl
    rw [hA] at e1
    injection e1 with e1
    injection e1 with e1 _
    omega
theorem PM.res (h : PM w0 r g s A c s' E W) {x : Value} {e : Ending} (hr : NRes w0 (RF g A s'.l.length E) r s' x W e W') : e = .returned x ∧ PM w0 r g s' A c s' (fun _ => False) W' ∧ ∀ b, b = g ∨ E b → W'.heap[b]? = W.heap[b]? := by
  obtain ⟨h1, h2, h3, h4⟩ := hr
  refine ⟨h1, ⟨h2.less fun b hb => ?_, h.sl.keep h3 fun b o hA hl => h4 b (.inr (.inl ⟨hl, o, hA⟩)), h.ge, fun b o hA hl => ⟨(h.ne b o hA hl).1, fun e => e⟩⟩, fun b hb => h4 b (hb.elim .inl fun h => .inr (.inr h))⟩
  rcases hb with h5 | h5 | h5
  · exact .inl h5
  · exact .inr (.inl h5)
  · exact h5.elim
theorem p_len {n : Nat} (h : PM w0 r g s A c s' E W) (hn : s.l.length = n) : Calls Try.prog 25 #[.pointer (some ⟨r, 0, none⟩)] W (fun e w' => e = .returned (.int .i64 (n : Nat)) ∧ w' = W) := by
  subst hn
  exact nlen_any _ _ _ _ _ h.na.ask
theorem p_sent {n : Int} (h : PM w0 r g s A c s' E W) (hn : s.sent = n) : Calls Try.prog 26 #[.pointer (some ⟨r, 0, none⟩)] W (fun e w' => e = .returned (.int .i64 n) ∧ w' = W) := by
  subst hn
  exact nsent_any _ _ _ _ _ h.na.ask
theorem p_lost {n : Int} (h : PM w0 r g s A c s' E W) (hn : s.lost = n) : Calls Try.prog 27 #[.pointer (some ⟨r, 0, none⟩)] W (fun e w' => e = .returned (.int .i64 n) ∧ w' = W) := by
  subst hn
  exact nlost_any _ _ _ _ _ h.na.ask
theorem p_of (u : Int) (h : PM w0 r g s A c s' E W) : Calls Try.prog 28 #[.pointer (some ⟨r, 0, none⟩), .int .i64 u] W (fun e w' => ∃ A c, e = .returned (.slice A (Nt.ofU s.l u).length c) ∧ SlF Nt.mC w' A (Nt.ofU s.l u).length c (Nt.ofU s.l u) ∧ Below W.heap.size W w') :=
  (nof_any _ _ _ _ _ u h.na.ask (by have := h.na.ok.fits; have := h.na.ok.most; omega)).mono fun _ _ ⟨A, c, h1, h2, h3⟩ => ⟨A, c, h1, h2.sl, h3⟩
theorem p_all {m : Nat} (h : PM w0 r g s A c s' E W) (hm : s.l.length = m) : Calls Try.prog 24 #[.pointer (some ⟨r, 0, none⟩)] W (fun e w' => ∃ A c, e = .returned (.slice A m c) ∧ SlF Nt.mC w' A m c s.l ∧ Below W.heap.size W w') := by
  subst hm
  exact (nall_any _ _ _ _ _ h.na.ask (by have := h.na.ok.fits; have := h.na.ok.most; omega)).mono fun _ _ ⟨A, c, h1, h2, h3⟩ => ⟨A, c, h1, h2.sl, h3⟩
/-- Both nets of the same. -/
def PS (w0 : World) (r g : Nat) (s : Nt.St) (W : World) : Prop := ∃ A c, NrAt W g (s.room : Nat) (.slice A s.l.length c) s.sent s.lost ∧ PM w0 r g s A c s (fun _ => False) W
theorem ps_make {room : Int} (h : NAt w0 (fun _ => False) r (Nt.new room) W) : PS w0 r W.heap.size (Nt.new room) (W.alloc (.cells #[.int .i64 ((Nt.new room).room : Nat), .slice none 0 0, .int .i64 0, .int .i64 0] 28)) := by
  have hb : Below W.heap.size W (W.alloc (.cells #[.int .i64 ((Nt.new room).room : Nat), .slice none 0 0, .int .i64 0, .int .i64 0] 28)) := (Below.refl _ _).alloc (Nat.le_refl _) _
  have hn := NrAt.new W ((Nt.new room).room : Nat) (.slice none 0 0) 0 0
  refine ⟨none, 0, hn, ⟨(h.more hb).less fun b hb2 => ?_, SlF.none_ _, h.below.size, fun b o hA => by cases hA⟩⟩
  rcases hb2 with rfl | ⟨_, o, hA⟩ | h1
  · exact .inr ⟨Nat.le_refl _, hn.cs.lt⟩
  · cases hA
  · exact h1.elim
end
end Go.Proofs.Ytmhhjipdbfepiaa
