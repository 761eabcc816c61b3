/-
  A disk of a call's own, from a base world on.
-/
import Derived.Test.YtdamnamhbjfnlaaDsk
namespace Go.Proofs.Ytdamnamhbjfnlaa
open Go.RowKit

/-- A disk in blocks from B on. -/
def DskB (w : World) (B r : Nat) (d : Dk.St) : Prop := ∃ v, Dsk w r v d ∧ ∀ i, foot r v i → B ≤ i
theorem DskB.below {w w' : World} {B r : Nat} {d : Dk.St} (h : DskB w B r d) (hb : Below w.heap.size w w') : DskB w' B r d := by
  obtain ⟨v, h1, h2⟩ := h
  exact ⟨v, h1.below hb, h2⟩
theorem DskB.keep {w w' : World} {B r : Nat} {d : Dk.St} (h : DskB w B r d) (hk : ∀ i, B ≤ i → i < w.heap.size → w'.heap[i]? = w.heap[i]?) : DskB w' B r d := by
  obtain ⟨v, h1, h2⟩ := h
  exact ⟨v, h1.keep fun i hi => hk i (h2 i hi) (h1.lt i hi), h2⟩
theorem DskB.okay {w : World} {B r : Nat} {d : Dk.St} (h : DskB w B r d) : Dk.Okay d := by
  obtain ⟨v, h1, h2⟩ := h
  exact h1.okay
theorem DskB.lower {w : World} {B B' r : Nat} {d : Dk.St} (h : DskB w B r d) (hB : B' ≤ B) : DskB w B' r d := by
  obtain ⟨v, h1, h2⟩ := h
  exact ⟨v, h1, fun i hi => Nat.le_trans hB (h2 i hi)⟩
def MPost (w0 : World) (r : Nat) (d : Dk.St) (x : Value) (e : Ending) (w' : World) : Prop := e = .returned x ∧ DskB w' w0.heap.size r d ∧ Below w0.heap.size w0 w'
theorem MPost.mk {w0 W : World} {r : Nat} {v : Value} {d : Dk.St} {x : Value} {e : Ending} {w' : World} (h : DPost W r v d x e w') (hb : Below w0.heap.size w0 W) (hv : ∀ i, foot r v i → w0.heap.size ≤ i) : MPost w0 r d x e w' := by
  obtain ⟨rfl, v', h1, h2, h3⟩ := h
  refine ⟨rfl, ⟨v', h1, ?_⟩, hb.trans (h3.below hb.size hv)⟩
  rintro i (rfl | hi)
  · exact hv _ (.inl rfl)
  · rcases h2 i hi with h4 | h4
    · exact hv i (.inr h4)
    · exact Nat.le_trans hb.size h4
section
variable {w0 : World} (W : World) {r : Nat} {d : Dk.St} (hb : Below w0.heap.size w0 W) (hd : DskB W w0.heap.size r d)
include hb hd
theorem dWrite_at {n c : Nat} {A : Option Addr} {b : List Nat} (hs : Sl W A n c b) : Calls Try.prog 32 #[.pointer (some ⟨r, 0, none⟩), .slice A n c] W (MPost w0 r (Dk.write d b) (.int .i64 (Dk.writeE d b))) := by
  obtain ⟨v, h1, h2⟩ := hd
  exact (dWrite_any W r n c A b v d h1 hs).mono fun _ _ h => MPost.mk h hb h2
theorem dSwap_at {n c : Nat} {A : Option Addr} {b : List Nat} (hs : Sl W A n c b) : Calls Try.prog 51 #[.pointer (some ⟨r, 0, none⟩), .slice A n c] W (MPost w0 r (Dk.swap d b) (.int .i64 (Dk.swapE d b))) := by
  obtain ⟨v, h1, h2⟩ := hd
  exact (dSwap_any W r n c A b v d h1 hs).mono fun _ _ h => MPost.mk h hb h2
theorem dSync_at : Calls Try.prog 46 #[.pointer (some ⟨r, 0, none⟩)] W (MPost w0 r (Dk.sync d) (.int .i64 (Dk.opens d : Nat))) := by
  obtain ⟨v, h1, h2⟩ := hd
  exact (dSync_any W r v d h1).mono fun _ _ h => MPost.mk h hb h2
theorem dCrash_at {keep : Int} (hk : -9223372036854775808 ≤ keep ∧ keep ≤ 9223372036854775807) : Calls Try.prog 48 #[.pointer (some ⟨r, 0, none⟩), .int .i64 keep] W (MPost w0 r (Dk.crash d keep) (.int .i64 (Dk.lost d keep : Nat))) := by
  obtain ⟨v, h1, h2⟩ := hd
  exact (dCrash_any W r keep v d h1 hk).mono fun _ _ h => MPost.mk h hb h2
theorem dCut_at {n : Int} (hk : -9223372036854775808 ≤ n ∧ n ≤ 9223372036854775807) : Calls Try.prog 56 #[.pointer (some ⟨r, 0, none⟩), .int .i64 n] W (MPost w0 r (Dk.cut d n) (.int .i64 (Dk.cutE d n))) := by
  obtain ⟨v, h1, h2⟩ := hd
  exact (dCut_any W r n v d h1 hk).mono fun _ _ h => MPost.mk h hb h2
omit hb in
theorem dAll_at : Calls Try.prog 45 #[.pointer (some ⟨r, 0, none⟩)] W (BPost d.l W) := by
  obtain ⟨v, h1, _⟩ := hd
  exact dAll_any W r v d h1
omit hb in
theorem dLen_at : Calls Try.prog 35 #[.pointer (some ⟨r, 0, none⟩)] W (APost W (.int .i64 (d.l.length : Nat))) := by
  obtain ⟨v, h1, _⟩ := hd
  exact dLen_any W r v d h1
omit hb in
theorem dSafe_at : Calls Try.prog 36 #[.pointer (some ⟨r, 0, none⟩)] W (APost W (.int .i64 (d.safe : Nat))) := by
  obtain ⟨v, h1, _⟩ := hd
  exact dSafe_any W r v d h1
omit hb in
theorem dRoom_at : Calls Try.prog 53 #[.pointer (some ⟨r, 0, none⟩)] W (APost W (.int .i64 (d.room - d.l.length : Nat))) := by
  obtain ⟨v, h1, _⟩ := hd
  exact dRoom_any W r v d h1
end
def NewPost (w0 : World) (d : Dk.St) (W : World) (e : Ending) (w' : World) : Prop := ∃ r, e = .returned (.pointer (some ⟨r, 0, none⟩)) ∧ W.heap.size ≤ r ∧ DskB w' W.heap.size r d ∧ Below w0.heap.size w0 w' ∧ Below W.heap.size W w'
theorem dNew_at {w0 : World} (W : World) (n : Int) (hb : Below w0.heap.size w0 W) : Calls Try.prog 11 #[.int .i64 n] W (NewPost w0 (Dk.new n) W) := by
  refine (dNew_any n W).mono ?_
  rintro e w' ⟨r, rfl, h1, h2, h3⟩
  refine ⟨r, rfl, h1, ⟨_, h2, ?_⟩, hb.trans (h3.mono hb.size), h3⟩
  rintro i (rfl | hi)
  · exact h1
  · cases hi
/-! Blocks that stay. -/
theorem alloc_below (W : World) (o : Obj) : Below W.heap.size W (W.alloc o) := (Below.refl _ _).alloc (Nat.le_refl _) o
theorem blk_on {W W' : World} {g : Nat} {o : Obj} (h : W.heap[g]? = some o) (hb : Below W.heap.size W W') : W'.heap[g]? = some o := (hb.block g (Array.getElem?_eq_some_iff.1 h).1).trans h
theorem blk_other {W W' : World} {g k : Nat} {o : Obj} (h : W.heap[g]? = some o) (hb : W.grownBy W' (some k)) (hg : g ≠ k) : W'.heap[g]? = some o := (hb.block g (Array.getElem?_eq_some_iff.1 h).1 (fun e => hg (by injection e))).trans h
theorem s_facts0 {W : World} {g : Nat} {x y z : Value} {t : TypeId} (h : W.heap[g]? = some (.cells #[x, y, z] t (0, 0))) : W.cell? ⟨g, 0, none⟩ = some x ∧ W.cell? ⟨g, 1, none⟩ = some y ∧ W.cell? ⟨g, 2, none⟩ = some z :=
  ⟨by rw [cell_of_row W g 0 _ _ _ h]; rfl, by rw [cell_of_row W g 1 _ _ _ h]; rfl, by rw [cell_of_row W g 2 _ _ _ h]; rfl⟩
theorem s_facts {W : World} {g : Nat} {x y z : Value} {t : TypeId} (h : W.heap[g]? = some (.cells #[x, y, z] t (0, 0))) : W.cell? ⟨g, 1, none⟩ = some y ∧ W.cell? ⟨g, 2, none⟩ = some z := (s_facts0 h).2
/-- A block of three cells, whole: what a walk asks of it. -/
theorem s_facts6 {W : World} {g : Nat} {x y z : Value} {t : TypeId} (h : W.heap[g]? = some (.cells #[x, y, z] t (0, 0))) :
    W.cell? ⟨g, 0, none⟩ = some x ∧ W.cell? ⟨g, 1, none⟩ = some y ∧ W.cell? ⟨g, 2, none⟩ = some z ∧ W.frozen? ⟨g, 0, none⟩ = false ∧ W.frozen? ⟨g, 1, none⟩ = false ∧ W.frozen? ⟨g, 2, none⟩ = false :=
  ⟨by rw [cell_of_row W g 0 _ _ _ h]; rfl, by rw [cell_of_row W g 1 _ _ _ h]; rfl, by rw [cell_of_row W g 2 _ _ _ h]; rfl, frozen_of_row W g 0 _ _ h, frozen_of_row W g 1 _ _ h, frozen_of_row W g 2 _ _ h⟩
theorem put3_heap {W : World} {g : Nat} {x y z : Value} {t : TypeId} (h : W.heap[g]? = some (.cells #[x, y, z] t (0, 0))) (x' y' z' : Value) :
    (((W.setCell ⟨g, 0, none⟩ x').setCell ⟨g, 1, none⟩ y').setCell ⟨g, 2, none⟩ z').heap[g]? = some (.cells #[x', y', z'] t (0, 0)) := by
  have h1 := heap_setCell_same W g 0 _ _ x' h
  have h2 := heap_setCell_same _ g 1 _ _ y' h1
  exact heap_setCell_same _ g 2 _ _ z' h2
theorem put3_grown (W : World) (g : Nat) (x y z : Value) : W.grownBy (((W.setCell ⟨g, 0, none⟩ x).setCell ⟨g, 1, none⟩ y).setCell ⟨g, 2, none⟩ z) (some g) :=
  grown_trans (grown_trans (grown_set _ _ _ _) (grown_set _ _ _ _)) (grown_set _ _ _ _)
end Go.Proofs.Ytdamnamhbjfnlaa
