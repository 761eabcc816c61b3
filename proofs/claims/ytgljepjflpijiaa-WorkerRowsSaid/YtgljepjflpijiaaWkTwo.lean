/-
  Layer 16's laws: two workers side by side; commands of one epoch in whatever row. No condition.
-/
import Derived.Test.YtgljepjflpijiaaWkLaw0
import Derived.Test.YtgljepjflpijiaaWkPure
namespace Go.Proofs.Ytgljepjflpijiaa
open Go.RowKit Go.Deep
set_option linter.unusedSimpArgs false
set_option linter.unusedVariables false

/-- Workers a and b, made since w0; F's blocks are neither's. -/
def WkTwo (L : WkP) (w0 : World) (F : Nat → Prop) (qa qb : Nat) (a b : Wk.W) (w : World) : Prop :=
  ∃ Xa Xb, L w Xa qa a ∧ L w Xb qb b ∧ (∀ i, Xa i → w0.heap.size ≤ i) ∧ (∀ i, Xb i → w0.heap.size ≤ i) ∧ (∀ i, Xa i → ¬ Xb i) ∧ (∀ i, F i → ¬ Xa i ∧ ¬ Xb i ∧ i < w.heap.size) ∧ Below w0.heap.size w0 w
section
variable {L : WkP} {w0 w w' : World} {F : Nat → Prop} {qa qb : Nat} {a b : Wk.W}
theorem WkTwo.below (h : WkTwo L w0 F qa qb a b w) : Below w0.heap.size w0 w := by
  obtain ⟨_, _, _, _, _, _, _, _, h⟩ := h
  exact h
theorem WkTwo.on (hC : WC L) (h : WkTwo L w0 F qa qb a b w) (hb : Below w.heap.size w w') : WkTwo L w0 F qa qb a b w' := by
  obtain ⟨Xa, Xb, h1, h2, h3, h4, h5, h6, h7⟩ := h
  exact ⟨Xa, Xb, hC.below h1 hb, hC.below h2 hb, h3, h4, h5, fun i hi => ⟨(h6 i hi).1, (h6 i hi).2.1, Nat.lt_of_lt_of_le (h6 i hi).2.2 hb.size⟩, h7.trans (hb.mono h7.size)⟩
theorem WkTwo.swap (h : WkTwo L w0 F qa qb a b w) : WkTwo L w0 F qb qa b a w := by
  obtain ⟨Xa, Xb, h1, h2, h3, h4, h5, h6, h7⟩ := h
  exact ⟨Xb, Xa, h2, h1, h4, h3, fun i hb ha => h5 i ha hb, fun i hi => ⟨(h6 i hi).2.1, (h6 i hi).1, (h6 i hi).2.2⟩, h7⟩
/-- A worker made behind another. -/
theorem WkTwo.make (hC : WC L) (h : WIn L w0 F qa a w) (hb : Below w.heap.size w w') {X : Nat → Prop} (hx : L w' X qb b) (hX : ∀ i, X i → w.heap.size ≤ i) : WkTwo L w0 F qa qb a b w' := by
  obtain ⟨Xa, h1, h2, h3, h4⟩ := h
  refine ⟨Xa, X, hC.below h1 hb, hx, h2, fun i hi => Nat.le_trans h4.size (hX i hi), fun i ha hi => ?_, fun i hi => ⟨(h3 i hi).1, fun hx2 => ?_, Nat.lt_of_lt_of_le (h3 i hi).2 hb.size⟩, h4.trans (hb.mono h4.size)⟩
  · have := hC.lt _ _ _ _ h1 i ha; have := hX i hi; omega
  · have := (h3 i hi).2; have := hX i hx2; omega
theorem WkTwo.apply (hC : WC L) (h : WkTwo L w0 F qa qb a b w) {m : Nt.M} (hm : Nt.In m) : Calls Try.prog 17 #[wkp qa, Nt.val m] w (fun e w' => e = .returned (.int .i64 (Wk.applyE a m)) ∧ WkTwo L w0 F qa qb (Wk.applyS a m) b w' ∧ w.heap.size ≤ w'.heap.size ∧ ∀ i, F i → w'.heap[i]? = w.heap[i]?) := by
  obtain ⟨Xa, Xb, h1, h2, h3, h4, h5, h6, h7⟩ := h
  refine (hC.apply w Xa qa a m h1 hm).mono fun e w' hp => ?_
  obtain ⟨X', e1, e2, e3, e4⟩ := hp
  have hz := e4.size
  refine ⟨e1, ⟨X', Xb, e2, hC.keep _ _ _ _ _ h2 hz (fun i hi => e4.block i (hC.lt _ _ _ _ h2 i hi) (fun ha => h5 i ha hi)), fun i hi => ?_, h4, fun i hi hb => ?_, fun i hi => ⟨fun hx => ?_, (h6 i hi).2.1, Nat.lt_of_lt_of_le (h6 i hi).2.2 hz⟩, h7.trans (e4.below h7.size h3)⟩, hz, fun i hi => e4.block i (h6 i hi).2.2 (h6 i hi).1⟩
  · rcases e3 i hi with h8 | h8
    · exact h3 i h8
    · exact Nat.le_trans h7.size h8
  · have h9 := hC.lt _ _ _ _ h2 i hb
    rcases e3 i hi with h8 | h8
    · exact h5 i h8 hb
    · omega
  · have h9 := (h6 i hi).2.2
    rcases e3 i hx with h8 | h8
    · exact (h6 i hi).1 h8
    · omega
theorem WkTwo.slot (hC : WC L) (h : WkTwo L w0 F qa qb a b w) {u : Int} (hu : Nt.i64 u) : Calls Try.prog 16 #[wkp qa, .int .i64 u] w (WkAns (.tuple #[suV (Wk.slotOf a u), .bool (decide (Wk.own a u))]) w) := by
  obtain ⟨Xa, Xb, h1, h2, h3, h4, h5, h6, h7⟩ := h
  exact hC.slot w Xa qa a u h1 hu
theorem WkTwo.ok (hC : WC L) (h : WkTwo L w0 F qa qb a b w) : Wk.Ok a := by
  obtain ⟨Xa, Xb, h1, h2, h3, h4, h5, h6, h7⟩ := h
  exact hC.ok _ _ _ _ h1
end
namespace Wk
/-- A command of the law's. -/
structure Cmd (m : Nt.M) : Prop where
  k : m.k = 1
  e : m.e = 3
  s : 0 ≤ m.s ∧ m.s < 8
  u : 0 ≤ m.u ∧ m.u < 8
  v : m.v = m.s % 4
  t : m.t = 0
theorem Cmd.inn {m : Nt.M} (h : Cmd m) : Nt.In m := by
  obtain ⟨h1, h2, h3, h4, h5, h6⟩ := h
  constructor <;> (unfold Nt.i64; omega)
theorem Cmd.right {m : Nt.M} (h : Cmd m) : Nt.right m = true := by
  obtain ⟨h1, h2, h3, h4, h5, h6⟩ := h
  unfold Nt.right Nt.mn
  simp only [Bool.and_eq_true, Bool.or_eq_true, decide_eq_true_eq]
  omega
/-- What a worker is that was told commands out of os alone. -/
structure Rows (os : List Nt.M) (x : W) : Prop where
  n : x.n = 0
  many : x.many = 1
  seen : x.seen ≤ 3
  up : ∀ i, i < 16 → (x.l i).wa = (x.l i).sq % 4 ∧ 0 ≤ (x.l i).sq ∧ ((x.l i).sq = 0 ∨ ∃ m ∈ os, m.u = (i : Nat) ∧ m.s = (x.l i).sq)
theorem rows_new (os : List Nt.M) : Rows os (new 0 1) := ⟨rfl, rfl, by show (0 : Int) ≤ 3; omega, fun i _ => ⟨rfl, Int.le_refl _, .inl rfl⟩⟩
/-- Of each command of P its unit has that number, or one above it. -/
def Lo (P : List Nt.M) (x : W) : Prop := ∀ m ∈ P, m.s ≤ (x.l m.u.toNat).sq
theorem rows_step {os : List Nt.M} {x : W} (h : Rows os x) (hx : Ok x) {m : Nt.M} (hm : m ∈ os) (hc : Cmd m) : Rows os (applyS x m) ∧ m.s ≤ ((applyS x m).l m.u.toNat).sq ∧ ∀ i, (x.l i).sq ≤ ((applyS x m).l i).sq := by
  have hu := hc.u
  have hj : m.u.toNat < 16 := by omega
  have ho : own x m.u := own_all h.n h.many hu.1 (by omega)
  have he : ¬ m.e < x.seen := by rw [hc.e]; have := h.seen; omega
  have e2 : applyS x m = ⟨x.n, x.many, m.e, setL x.l m.u.toNat (Su.want (x.l m.u.toNat) m.v m.s)⟩ := by unfold applyS; rw [if_neg (by rintro (h | h | h); exact h ⟨hc.right, hc.k⟩; exact h ho; exact he h)]
  have hR := hx.right _ hj
  have hU := Lib.hid (h.up _ hj)
  rw [e2]
  have key : (Su.want (x.l m.u.toNat) m.v m.s).wa = (Su.want (x.l m.u.toNat) m.v m.s).sq % 4 ∧ 0 ≤ (Su.want (x.l m.u.toNat) m.v m.s).sq ∧ ((Su.want (x.l m.u.toNat) m.v m.s).sq = 0 ∨ ∃ m' ∈ os, m'.u = ((m.u.toNat : Nat) : Int) ∧ m'.s = (Su.want (x.l m.u.toNat) m.v m.s).sq) ∧ m.s ≤ (Su.want (x.l m.u.toNat) m.v m.s).sq ∧ (x.l m.u.toNat).sq ≤ (Su.want (x.l m.u.toNat) m.v m.s).sq := by
    by_cases ht : Su.takes (x.l m.u.toNat) m.v m.s
    · rw [Su.want_yes ht]
      have h3 := ht.2.2
      have hs := hc.s
      refine ⟨hc.v, hs.1, .inr ⟨m, hm, by omega, rfl⟩, Int.le_refl _, by show _ ≤ m.s; omega⟩
    · rw [Su.want_no ht]
      have h3 : ¬ (x.l m.u.toNat).sq < m.s := fun h3 => ht ⟨hR, by rw [hc.v]; omega, h3⟩
      exact ⟨hU.out.1, hU.out.2.1, hU.out.2.2, by omega, Int.le_refl _⟩
  refine ⟨⟨h.n, h.many, by show m.e ≤ 3; rw [hc.e]; omega, fun i hi => ?_⟩, ?_, fun i => ?_⟩
  · show (setL x.l m.u.toNat _ i).wa = _ ∧ _
    by_cases hi2 : i = m.u.toNat
    · subst hi2
      simp only [setL_at]
      exact ⟨key.1, key.2.1, key.2.2.1⟩
    · simp only [setL_off _ _ hi2]
      exact h.up i hi
  · show m.s ≤ (setL x.l m.u.toNat _ m.u.toNat).sq
    rw [setL_at]
    exact key.2.2.2.1
  · show (x.l i).sq ≤ (setL x.l m.u.toNat _ i).sq
    by_cases hi2 : i = m.u.toNat
    · subst hi2
      rw [setL_at]
      exact key.2.2.2.2
    · rw [setL_off _ _ hi2]
      exact Int.le_refl _
theorem lo_step {P : List Nt.M} {x : W} (h : Lo P x) {m : Nt.M} (h1 : m.s ≤ ((applyS x m).l m.u.toNat).sq) (h2 : ∀ i, (x.l i).sq ≤ ((applyS x m).l i).sq) : Lo (P ++ [m]) (applyS x m) := fun m' hm' => by
  rcases List.mem_append.1 hm' with h3 | h3
  · exact Int.le_trans (h m' h3) (h2 _)
  · rw [List.mem_singleton.1 h3]
    exact h1
/-- Two that were told all of os are alike. -/
theorem rows_same {os : List Nt.M} {a b : W} (ha : Rows os a) (hb : Rows os b) (la : Lo os a) (lb : Lo os b) {i : Nat} (hi : i < 16) : (a.l i).wa = (b.l i).wa ∧ (a.l i).sq = (b.l i).sq := by
  have ua := Lib.hid (ha.up i hi)
  have ub := Lib.hid (hb.up i hi)
  have key : ∀ {a b : W}, Lo os b → 0 ≤ (b.l i).sq → ((a.l i).sq = 0 ∨ ∃ m ∈ os, m.u = (i : Nat) ∧ m.s = (a.l i).sq) → (a.l i).sq ≤ (b.l i).sq := fun {a b} lb h0 h => by
    rcases h with h | ⟨m, hm, hu, hs⟩
    · omega
    · have := lb m hm
      rw [show m.u.toNat = i by omega, hs] at this
      exact this
  have e : (a.l i).sq = (b.l i).sq := Int.le_antisymm (key lb ub.out.2.1 ua.out.2.2) (key la ua.out.2.1 ub.out.2.2)
  exact ⟨by rw [ua.out.1, ub.out.1, e], e⟩
end Wk
end Go.Proofs.Ytgljepjflpijiaa
