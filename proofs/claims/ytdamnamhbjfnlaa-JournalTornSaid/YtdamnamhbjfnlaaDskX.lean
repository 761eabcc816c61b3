/-
  A disk whose blocks are among those of X: what its calls leave of all other blocks.
-/
import Derived.Test.YtdamnamhbjfnlaaDskB
namespace Go.Proofs.Ytdamnamhbjfnlaa
open Go.RowKit

/-- A disk whose blocks are among those of X. -/
def DskX (w : World) (X : Nat → Prop) (r : Nat) (d : Dk.St) : Prop := ∃ v, Dsk w r v d ∧ ∀ i, foot r v i → X i
theorem DskX.okay {w : World} {X : Nat → Prop} {r : Nat} {d : Dk.St} (h : DskX w X r d) : Dk.Okay d := by
  obtain ⟨v, h1, h2⟩ := h
  exact h1.okay
theorem DskX.keep {w w' : World} {X : Nat → Prop} {r : Nat} {d : Dk.St} (h : DskX w X r d) (hk : ∀ i, X i → i < w.heap.size → w'.heap[i]? = w.heap[i]?) : DskX w' X r d := by
  obtain ⟨v, h1, h2⟩ := h
  exact ⟨v, h1.keep fun i hi => hk i (h2 i hi) (h1.lt i hi), h2⟩
theorem DskX.below {w w' : World} {X : Nat → Prop} {r : Nat} {d : Dk.St} (h : DskX w X r d) (hb : Below w.heap.size w w') : DskX w' X r d := h.keep fun i _ hi => hb.block i hi
theorem DskB.toX {w : World} {B r : Nat} {d : Dk.St} {X : Nat → Prop} (h : DskB w B r d) (hX : ∀ i, B ≤ i → i < w.heap.size → X i) : DskX w X r d := by
  obtain ⟨v, h1, h2⟩ := h
  exact ⟨v, h1, fun i hi => hX i (h2 i hi) (h1.lt i hi)⟩
def XPost (W : World) (X : Nat → Prop) (r : Nat) (d : Dk.St) (x : Value) (e : Ending) (w' : World) : Prop := e = .returned x ∧ DskX w' X r d ∧ Kept X W w'
theorem XPost.mk {W : World} {X : Nat → Prop} {r : Nat} {v : Value} {d : Dk.St} {x : Value} {e : Ending} {w' : World} (h : DPost W r v d x e w') (hv : ∀ i, foot r v i → X i) (hX : ∀ i, W.heap.size ≤ i → X i) : XPost W X r d x e w' := by
  obtain ⟨rfl, v', h1, h2, h3⟩ := h
  refine ⟨rfl, ⟨v', h1, ?_⟩, h3.more fun i _ hi => hv i hi⟩
  rintro i (rfl | hi)
  · exact hv _ (.inl rfl)
  · rcases h2 i hi with h4 | h4
    · exact hv i (.inr h4)
    · exact hX i h4
section
variable (W : World) {X : Nat → Prop} {r : Nat} {d : Dk.St} (hd : DskX W X r d) (hX : ∀ i, W.heap.size ≤ i → X i)
include hd hX
theorem dWrite_x {n c : Nat} {A : Option Addr} {b : List Nat} (hs : Sl W A n c b) : Calls Try.prog 32 #[.pointer (some ⟨r, 0, none⟩), .slice A n c] W (XPost W X r (Dk.write d b) (.int .i64 (Dk.writeE d b))) := by
  obtain ⟨v, h1, h2⟩ := hd
  exact (dWrite_any W r n c A b v d h1 hs).mono fun _ _ h => XPost.mk h h2 hX
theorem dSwap_x {n c : Nat} {A : Option Addr} {b : List Nat} (hs : Sl W A n c b) : Calls Try.prog 51 #[.pointer (some ⟨r, 0, none⟩), .slice A n c] W (XPost W X r (Dk.swap d b) (.int .i64 (Dk.swapE d b))) := by
  obtain ⟨v, h1, h2⟩ := hd
  exact (dSwap_any W r n c A b v d h1 hs).mono fun _ _ h => XPost.mk h h2 hX
theorem dSync_x : Calls Try.prog 46 #[.pointer (some ⟨r, 0, none⟩)] W (XPost W X r (Dk.sync d) (.int .i64 (Dk.opens d : Nat))) := by
  obtain ⟨v, h1, h2⟩ := hd
  exact (dSync_any W r v d h1).mono fun _ _ h => XPost.mk h h2 hX
theorem dCrash_x {keep : Int} (hk : -9223372036854775808 ≤ keep ∧ keep ≤ 9223372036854775807) : Calls Try.prog 48 #[.pointer (some ⟨r, 0, none⟩), .int .i64 keep] W (XPost W X r (Dk.crash d keep) (.int .i64 (Dk.lost d keep : Nat))) := by
  obtain ⟨v, h1, h2⟩ := hd
  exact (dCrash_any W r keep v d h1 hk).mono fun _ _ h => XPost.mk h h2 hX
theorem dCut_x {n : Int} (hk : -9223372036854775808 ≤ n ∧ n ≤ 9223372036854775807) : Calls Try.prog 56 #[.pointer (some ⟨r, 0, none⟩), .int .i64 n] W (XPost W X r (Dk.cut d n) (.int .i64 (Dk.cutE d n))) := by
  obtain ⟨v, h1, h2⟩ := hd
  exact (dCut_any W r n v d h1 hk).mono fun _ _ h => XPost.mk h h2 hX
omit hX in
theorem dAll_x : Calls Try.prog 45 #[.pointer (some ⟨r, 0, none⟩)] W (BPost d.l W) := by
  obtain ⟨v, h1, _⟩ := hd
  exact dAll_any W r v d h1
omit hX in
theorem dLen_x : Calls Try.prog 35 #[.pointer (some ⟨r, 0, none⟩)] W (APost W (.int .i64 (d.l.length : Nat))) := by
  obtain ⟨v, h1, _⟩ := hd
  exact dLen_any W r v d h1
omit hX in
theorem dSafe_x : Calls Try.prog 36 #[.pointer (some ⟨r, 0, none⟩)] W (APost W (.int .i64 (d.safe : Nat))) := by
  obtain ⟨v, h1, _⟩ := hd
  exact dSafe_any W r v d h1
omit hX in
theorem dRoom_x : Calls Try.prog 53 #[.pointer (some ⟨r, 0, none⟩)] W (APost W (.int .i64 (d.room - d.l.length : Nat))) := by
  obtain ⟨v, h1, _⟩ := hd
  exact dRoom_any W r v d h1
end
end Go.Proofs.Ytdamnamhbjfnlaa
