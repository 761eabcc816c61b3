/-
  What is asked of a predicate that tells a journal (of whatever struct), and what a round of the plays of layer 6 finds.
-/
import Derived.Test.YtdamnamhbjfnlaaDskX
import Derived.Test.YtdamnamhbjfnlaaDskRef
import Derived.Test.YtdamnamhbjfnlaaJnMath
import Derived.Test.YtdamnamhbjfnlaaJrnSteps
namespace Go.Proofs.Ytdamnamhbjfnlaa
open Go.RowKit

abbrev JPred := World → (Nat → Prop) → Nat → Nat → Dk.St → Prop
/-- What a call leaves that changes the journal in block q on the disk in block r. -/
def JXPost (J : JPred) (W : World) (X : Nat → Prop) (q r : Nat) (d : Dk.St) (x : Value) (e : Ending) (w' : World) : Prop := e = .returned x ∧ J w' X q r d ∧ Kept X W w'
def JNew (J : JPred) (W : World) (X : Nat → Prop) (r : Nat) (d : Dk.St) (e : Ending) (w' : World) : Prop :=
  ∃ q, e = .returned (.tuple #[.pointer (some ⟨q, 0, none⟩), .int .i64 ((d.l.length : Nat) - (Jn.cutN d : Nat))]) ∧ J w' X q r (Jn.opened d) ∧ Kept X W w'
def JAll (ls : List (List Nat)) (w : World) (e : Ending) (w' : World) : Prop := ∃ A c, e = .returned (.slice A ls.length c) ∧ OwnS w' w.heap.size (.slice A ls.length c) ls ∧ Below w.heap.size w w'
/-- How many entries a Sync makes safe. -/
def Jn.syncN (d : Dk.St) : Int := ((Jn.ents d).length : Nat) - (Jn.safeN d : Nat)
structure JC (J : JPred) : Prop where
  keep : ∀ w w' X q r d, J w X q r d → (∀ i, X i → i < w.heap.size → w'.heap[i]? = w.heap[i]?) → J w' X q r d
  more : ∀ w X X' q r d, J w X q r d → (∀ i, X i → i < w.heap.size → X' i) → J w X' q r d
  okay : ∀ w X q r d, J w X q r d → Dk.Okay d ∧ Jn.Byt d
  disk : ∀ w X q r d, J w X q r d → DskX w X r d
  make : ∀ W X r d, DskX W X r d → Jn.Byt d → (∀ i, W.heap.size ≤ i → X i) → Calls Try.prog 10 #[.pointer (some ⟨r, 0, none⟩)] W (JNew J W X r d)
  again : ∀ W X q r d, J W X q r d → Jn.opened d = d → (∀ i, W.heap.size ≤ i → X i) → Calls Try.prog 10 #[.pointer (some ⟨r, 0, none⟩)] W (fun e w' => ∃ q', e = .returned (.tuple #[.pointer (some ⟨q', 0, none⟩), .int .i64 0]) ∧ J w' X q r d ∧ J w' X q' r d ∧ Kept X W w')
  append : ∀ W X q r d n c A p, J W X q r d → (∀ i, W.heap.size ≤ i → X i) → Sl W A n c p → n ≤ 900000000 → Calls Try.prog 16 #[.pointer (some ⟨q, 0, none⟩), .slice A n c] W (JXPost J W X q r (Jn.app d p) (.int .i64 (Jn.appE d p)))
  torn : ∀ W X q r d n c A p keep, J W X q r d → (∀ i, W.heap.size ≤ i → X i) → Sl W A n c p → n ≤ 900000000 → j64In keep → Calls Try.prog 24 #[.pointer (some ⟨q, 0, none⟩), .slice A n c, .int .i64 keep] W (JXPost J W X q r (Jn.torn d p keep) (.int .i64 (Jn.tornE d p)))
  sync : ∀ W X q r d, J W X q r d → (∀ i, W.heap.size ≤ i → X i) → Calls Try.prog 20 #[.pointer (some ⟨q, 0, none⟩)] W (JXPost J W X q r (Dk.sync d) (.int .i64 (Jn.syncN d)))
  crash : ∀ W X q r d keep, J W X q r d → (∀ i, W.heap.size ≤ i → X i) → j64In keep → Calls Try.prog 22 #[.pointer (some ⟨q, 0, none⟩), .int .i64 keep] W (JXPost J W X q r (Jn.crash d keep) (.int .i64 (Jn.lost d keep)))
  swap : ∀ W X q r d n c A ls, J W X q r d → (∀ i, W.heap.size ≤ i → X i) → SlS W A n c ls → ls.length ≤ 1000 → (∀ p ∈ ls, p.length ≤ 900000000) → Calls Try.prog 26 #[.pointer (some ⟨q, 0, none⟩), .slice A n c] W (JXPost J W X q r (Jn.swap d ls) (.int .i64 (Jn.swapE d ls)))
  all : ∀ W X q r d, J W X q r d → Calls Try.prog 28 #[.pointer (some ⟨q, 0, none⟩)] W (JAll (Jn.ents d) W)
  len : ∀ W X q r d, J W X q r d → Calls Try.prog 29 #[.pointer (some ⟨q, 0, none⟩)] W (fun e w' => e = .returned (.int .i64 ((Jn.ents d).length : Nat)) ∧ Below W.heap.size W w')
  safe : ∀ W X q r d, J W X q r d → Calls Try.prog 30 #[.pointer (some ⟨q, 0, none⟩)] W (fun e w' => e = .returned (.int .i64 (Jn.safeN d : Nat)) ∧ Below W.heap.size W w')
  room : ∀ W X q r d, J W X q r d → Calls Try.prog 31 #[.pointer (some ⟨q, 0, none⟩)] W (fun e w' => e = .returned (.int .i64 (d.room - d.l.length : Nat)) ∧ Below W.heap.size W w')
theorem JC.below {J : JPred} (h : JC J) {w w' : World} {X : Nat → Prop} {q r : Nat} {d : Dk.St} (hj : J w X q r d) (hb : Below w.heap.size w w') : J w' X q r d := h.keep _ _ _ _ _ _ hj fun i _ hi => hb.block i hi

/-- What early's row hands on of a step's list. -/
theorem esl_on : ∀ (w w' : World) (cs : List Value) (t : List Nat), Below w.heap.size w w' → ESl w cs t → ESl w' cs t := by
  rintro w w' cs t hb ⟨A, n, c, rfl, h⟩
  exact ⟨A, n, c, rfl, h.on hb⟩
theorem ownr_sls {w0 w : World} {B n c : Nat} {A : Option Addr} {ls : List (List Nat)} (h : OwnR 1 ESl 33 w0 w B (.slice A n c) ls) (hb : Below w0.heap.size w0 w) : SlS w A n c ls := by
  obtain ⟨A', c', e, h2⟩ := h.slr esl_on hb
  injection e with e1 e2 e3
  subst e1 e2 e3
  refine ⟨fun hl => ?_, h2.len, h2.cap, h2.max, h2.nil⟩
  obtain ⟨b, o, _, rfl, hbl, _, _, _⟩ := h2.rd 0 ls[0] (List.getElem?_eq_getElem hl)
  refine ⟨b, o, rfl, hbl, fun j hj => ?_⟩
  obtain ⟨b', o', cs, e', _, _, hc, A4, n4, c4, rfl, hs⟩ := h2.rd j ls[j] (List.getElem?_eq_getElem hj)
  injection e' with e'; injection e' with e1 e2; subst e1 e2
  refine ⟨A4, n4, c4, ?_, ?_⟩
  · have := hc 0 (by omega)
    rw [Nat.mul_one, Nat.add_zero] at this
    exact this
  · rw [List.getD_eq_getElem?_getD, List.getElem?_eq_getElem hj]
    exact hs

/-- What stays the same in all rounds: w5 is the world behind early, b0 the heap's size ahead of it, g the block of the document's disk. -/
structure PJ0 (w w5 : World) (X : Nat → Prop) (b0 g : Nat) (v : Value) (es : List Stj) : Prop where
  below : Below w.heap.size w w5
  row : OwnX 4 (EOut w b0) GOut 36 w5 b0 v es
  inX : ∀ i, X i → w.heap.size ≤ i ∧ (i < b0 ∨ w5.heap.size ≤ i) ∧ i ≠ g
  gl : w.heap.size ≤ g ∧ g < b0
  base : w.heap.size ≤ b0
structure PJ (J : JPred) (w5 : World) (X : Nat → Prop) (g q r : Nat) (d : Dk.St) (W : World) : Prop where
  since : Kept (fun i => X i ∨ i = g) w5 W
  jr : J W X q r d
  fresh : ∀ i, W.heap.size ≤ i → X i
section
variable {J : JPred} {w w5 W W' : World} {X : Nat → Prop} {b0 g q r : Nat} {v : Value} {es : List Stj} {d : Dk.St}
theorem PJ.on (hJ : JC J) (h : PJ J w5 X g q r d W) (hb : Below W.heap.size W W') : PJ J w5 X g q r d W' :=
  ⟨h.since.trans (Kept.of_below (F := fun _ => False) hb) (fun _ _ hf => hf.elim), hJ.below h.jr hb, fun i hi => h.fresh i (Nat.le_trans hb.size hi)⟩
theorem PJ.other (hJ : JC J) (h : PJ J w5 X g q r d W) (hg : W.grownBy W' (some g)) (hX : ¬ X g) : PJ J w5 X g q r d W' :=
  ⟨h.since.trans (Kept.of_grown (F := fun i => i = g) hg (fun k hk => by injection hk with hk; exact hk.symm)) (fun _ _ hf => .inr hf),
    hJ.keep _ _ _ _ _ _ h.jr (fun i hi hlt => hg.block i hlt (fun e => hX (by injection e with e; rw [← e]; exact hi))), fun i hi => h.fresh i (Nat.le_trans hg.size hi)⟩
theorem PJ.step {d' : Dk.St} {x : Value} {e : Ending} {w' : World} (h : PJ J w5 X g q r d W) (hp : JXPost J W X q r d' x e w') : e = .returned x ∧ PJ J w5 X g q r d' w' ∧ Kept X W w' := by
  obtain ⟨rfl, h1, h2⟩ := hp
  exact ⟨rfl, ⟨h.since.trans h2 (fun _ _ hf => .inl hf), h1, fun i hi => h.fresh i (Nat.le_trans h2.size hi)⟩, h2⟩
theorem PJ0.now (h0 : PJ0 w w5 X b0 g v es) (h : PJ J w5 X g q r d W) : Below w.heap.size w W :=
  h0.below.trans (h.since.below h0.below.size (fun i hi => hi.elim (fun hx => (h0.inX i hx).1) (fun e => by rw [e]; exact h0.gl.1)))
theorem PJ0.rowAt (h0 : PJ0 w w5 X b0 g v es) (h : PJ J w5 X g q r d W) : OwnX 4 (EOut w b0) GOut 36 W b0 v es :=
  h0.row.keep (stabOut w b0) (fun cs t hE => out_from cs t hE) h.since.size (fun i hi hlt => h.since.block i hlt (fun hf => by
    have h1 := h0.gl
    have h2 := h0.base
    rcases hf with hx | rfl
    · have := h0.inX i hx
      omega
    · omega))
end
theorem cell_same {W W' : World} {a : Addr} (h : W'.heap[a.block]? = W.heap[a.block]?) : W'.cell? a = W.cell? a := by unfold World.cell?; rw [h]
/-- A step in early's row, whatever the rounds did: its cells, its payload, its list. -/
theorem PJ0.at_ {w w5 : World} {X : Nat → Prop} {b0 g m c5 : Nat} {A5 : Option Addr} {es : List Stj} (h0 : PJ0 w w5 X b0 g (.slice A5 m c5) es) {j : Nat} {t : Stj} (hj : es[j]? = some t) :
    ∃ gb A2 n2 c2 A3 n3 c3, A5 = some ⟨gb, 0, none⟩ ∧ j64In t.1 ∧ j64In t.2.1 ∧ Sl w A2 n2 c2 t.2.2.1 ∧ n3 = t.2.2.2.length ∧ ∀ (J : JPred) (q r : Nat) (d : Dk.St) (W : World), PJ J w5 X g q r d W →
      W.cell? ⟨gb, j * 4 + 0, none⟩ = some (.int .i64 t.1) ∧ W.cell? ⟨gb, j * 4 + 1, none⟩ = some (.int .i64 t.2.1) ∧ W.cell? ⟨gb, j * 4 + 2, none⟩ = some (.slice A2 n2 c2) ∧ W.cell? ⟨gb, j * 4 + 3, none⟩ = some (.slice A3 n3 c3) ∧ SlS W A3 n3 c3 t.2.2.2 := by
  obtain ⟨gb, cs, rfl, _, hcells, ⟨A2, n2, c2, A3, n3, c3, B, rfl, hB, hk1, hk2, hs, hr⟩, _⟩ := h0.row.at_ hj
  have hgb := h0.row.lt gb rfl
  have stay : ∀ i, b0 ≤ i → i < w5.heap.size → ¬ (X i ∨ i = g) := by
    intro i h1 h2 hf
    have h3 := h0.gl
    rcases hf with hx | rfl
    · have := h0.inX i hx
      omega
    · omega
  refine ⟨gb, A2, n2, c2, A3, n3, c3, rfl, hk1, hk2, hs, hr.len.1, fun J q r d W h => ?_⟩
  have hb : ∀ i, b0 ≤ i → i < w5.heap.size → W.heap[i]? = w5.heap[i]? := fun i h1 h2 => h.since.block i h2 (stay i h1 h2)
  have hc := fun k (hk : k < 4) => (cell_same (a := ⟨gb, j * 4 + k, none⟩) (hb gb hgb.1 hgb.2)).trans (hcells k hk)
  exact ⟨hc 0 (by omega), hc 1 (by omega), hc 2 (by omega), hc 3 (by omega), ownr_sls (hr.keep fun k hk => hb k (Nat.le_trans hB (hr.lt k hk).1) (hr.lt k hk).2) (h0.now h)⟩
theorem Jn.opened_new (n : Int) : Jn.opened (Dk.new n) = Dk.new n := by
  unfold Jn.opened Dk.leave
  have : (Dk.new n).l = [] := rfl
  have h2 : (Dk.new n).safe = 0 := rfl
  have h3 : Jn.cutN (Dk.new n) = 0 := by unfold Jn.cutN; rw [this, Fr.scan_nil]
  rw [h3, this]
  rfl
/-- A block of four cells, whole. -/
theorem j_facts0 {W : World} {g : Nat} {x y z u : Value} {t : TypeId} (h : W.heap[g]? = some (.cells #[x, y, z, u] t (0, 0))) : W.cell? ⟨g, 0, none⟩ = some x ∧ W.cell? ⟨g, 1, none⟩ = some y ∧ W.cell? ⟨g, 2, none⟩ = some z ∧ W.cell? ⟨g, 3, none⟩ = some u :=
  ⟨by rw [cell_of_row W g 0 _ _ _ h]; rfl, by rw [cell_of_row W g 1 _ _ _ h]; rfl, by rw [cell_of_row W g 2 _ _ _ h]; rfl, by rw [cell_of_row W g 3 _ _ _ h]; rfl⟩
def PJPost (J : JPred) (w5 : World) (X : Nat → Prop) (g q r : Nat) (d : Dk.St) (W : World) (x : Value) (e : Ending) (w' : World) : Prop := e = .returned x ∧ PJ J w5 X g q r d w' ∧ Kept X W w'
section
variable {J : JPred} (hJ : JC J) {w5 : World} {X : Nat → Prop} {g q r : Nat} {d : Dk.St} (W : World) (h : PJ J w5 X g q r d W)
include hJ h
theorem jAppend_p {n c : Nat} {A : Option Addr} {p : List Nat} (hs : Sl W A n c p) (hn : n ≤ 900000000) : Calls Try.prog 16 #[.pointer (some ⟨q, 0, none⟩), .slice A n c] W (PJPost J w5 X g q r (Jn.app d p) W (.int .i64 (Jn.appE d p))) :=
  (hJ.append W X q r d n c A p h.jr h.fresh hs hn).mono fun _ _ hp => h.step hp
theorem jTorn_p {n c : Nat} {A : Option Addr} {p : List Nat} {keep : Int} (hs : Sl W A n c p) (hn : n ≤ 900000000) (hk : j64In keep) : Calls Try.prog 24 #[.pointer (some ⟨q, 0, none⟩), .slice A n c, .int .i64 keep] W (PJPost J w5 X g q r (Jn.torn d p keep) W (.int .i64 (Jn.tornE d p))) :=
  (hJ.torn W X q r d n c A p keep h.jr h.fresh hs hn hk).mono fun _ _ hp => h.step hp
theorem jSync_p : Calls Try.prog 20 #[.pointer (some ⟨q, 0, none⟩)] W (PJPost J w5 X g q r (Dk.sync d) W (.int .i64 (Jn.syncN d))) :=
  (hJ.sync W X q r d h.jr h.fresh).mono fun _ _ hp => h.step hp
theorem jCrash_p {keep : Int} (hk : j64In keep) : Calls Try.prog 22 #[.pointer (some ⟨q, 0, none⟩), .int .i64 keep] W (PJPost J w5 X g q r (Jn.crash d keep) W (.int .i64 (Jn.lost d keep))) :=
  (hJ.crash W X q r d keep h.jr h.fresh hk).mono fun _ _ hp => h.step hp
theorem jSwap_p {n c : Nat} {A : Option Addr} {ls : List (List Nat)} (hs : SlS W A n c ls) (hl : ls.length ≤ 1000) (hp : ∀ p ∈ ls, p.length ≤ 900000000) : Calls Try.prog 26 #[.pointer (some ⟨q, 0, none⟩), .slice A n c] W (PJPost J w5 X g q r (Jn.swap d ls) W (.int .i64 (Jn.swapE d ls))) :=
  (hJ.swap W X q r d n c A ls h.jr h.fresh hs hl hp).mono fun _ _ hp => h.step hp
end
end Go.Proofs.Ytdamnamhbjfnlaa
