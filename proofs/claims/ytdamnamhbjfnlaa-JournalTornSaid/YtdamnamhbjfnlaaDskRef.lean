/-
  The document's own disk of layer 5: what each of its calls answers.
-/
import Derived.Test.YtdamnamhbjfnlaaDskB
import Derived.Test.YtdamnamhbjfnlaaTxt
import Derived.Test.YtdamnamhbjfnlaaRegion
namespace Go.Proofs.Ytdamnamhbjfnlaa
open Go.RowKit

/-- What a call of the document's disk answers. -/
def RPost (R : Int) (A B : ByteArray) (x : Int) (w : World) (e : Ending) (w' : World) : Prop := e = .returned (.tuple #[.agg #[.int .i64 R, .string A, .string B], .int .i64 x]) ∧ Below w.heap.size w w'
theorem below_two (w : World) (o1 o2 : Obj) : Below w.heap.size w ((w.alloc o1).alloc o2) := ((Below.refl _ _).alloc (Nat.le_refl _) o1).alloc (by simp) o2
set_option maxHeartbeats 400000 in
theorem rNew_any (n : Int) (w : World) :
    Calls Try.prog 12 #[.int .i64 n] w fun e w' => e = .returned (.agg #[.int .i64 (Dk.fits n : Nat), .string ⟨#[]⟩, .string ⟨#[]⟩]) ∧ Below w.heap.size w w' := by
  have hf : min (max n 0) 1048576 = (Dk.fits n : Nat) := by unfold Dk.fits; omega
  generalize Dk.fits n = q at *
  go_enter Try.func12, Try.ntmps12
  go_wp2_with fail
  exact bodyPost_ret (v := .agg #[.int .i64 (q : Nat), .string ⟨#[]⟩, .string ⟨#[]⟩]) (by simp [results, Try.results12, go_sem]) rfl ⟨rfl, (Below.refl _ _).alloc (Nat.le_refl _) _⟩
set_option maxHeartbeats 400000 in
theorem rWrite_any (R : Int) (A B L : ByteArray) (w : World) (h : A.size + B.size ≤ 1000000000) (hL : L.size ≤ 1000000000) :
    Calls Try.prog 33 #[.agg #[.int .i64 R, .string A, .string B], .string L] w (RPost R A (if (A.size : Int) + B.size + L.size ≤ R then B ++ L else B) (if (A.size : Int) + B.size + L.size ≤ R then 0 else 4) w) := by
  by_cases hg : (A.size : Int) + B.size + L.size ≤ R
  · rw [if_pos hg, if_pos hg]
    go_enter Try.func33, Try.ntmps33
    go_wp2_with fail
    exact bodyPost_ret (v := .tuple #[.agg #[.int .i64 R, .string A, .string (B ++ L)], .int .i64 0]) (by simp [results, Try.results33, go_sem]) rfl ⟨rfl, below_two _ _ _⟩
  · rw [if_neg hg, if_neg hg]
    go_enter Try.func33, Try.ntmps33
    go_wp2_with fail
    exact bodyPost_ret (v := .tuple #[.agg #[.int .i64 R, .string A, .string B], .int .i64 4]) (by simp [results, Try.results33, go_sem]) rfl ⟨rfl, below_two _ _ _⟩
set_option maxHeartbeats 400000 in
theorem rSync_any (R : Int) (A B : ByteArray) (w : World) (h : A.size + B.size ≤ 1000000000) :
    Calls Try.prog 19 #[.agg #[.int .i64 R, .string A, .string B]] w (RPost R (A ++ B) ⟨#[]⟩ (B.size : Nat) w) := by
  go_enter Try.func19, Try.ntmps19
  go_wp2_with fail
  exact bodyPost_ret (v := .tuple #[.agg #[.int .i64 R, .string (A ++ B), .string ⟨#[]⟩], .int .i64 (B.size : Nat)]) (by simp [results, Try.results19, go_sem]) rfl ⟨rfl, below_two _ _ _⟩
set_option maxHeartbeats 400000 in
theorem rSwap_any (R : Int) (A B L : ByteArray) (w : World) :
    Calls Try.prog 49 #[.agg #[.int .i64 R, .string A, .string B], .string L] w (RPost R (if (L.size : Int) ≤ R then L else A) (if (L.size : Int) ≤ R then ⟨#[]⟩ else B) (if (L.size : Int) ≤ R then 0 else 4) w) := by
  by_cases hg : (L.size : Int) ≤ R
  · rw [if_pos hg, if_pos hg, if_pos hg]
    go_enter Try.func49, Try.ntmps49
    go_wp2_with fail
    exact bodyPost_ret (v := .tuple #[.agg #[.int .i64 R, .string L, .string ⟨#[]⟩], .int .i64 0]) (by simp [results, Try.results49, go_sem]) rfl ⟨rfl, below_two _ _ _⟩
  · rw [if_neg hg, if_neg hg, if_neg hg]
    go_enter Try.func49, Try.ntmps49
    go_wp2_with fail
    exact bodyPost_ret (v := .tuple #[.agg #[.int .i64 R, .string A, .string B], .int .i64 4]) (by simp [results, Try.results49, go_sem]) rfl ⟨rfl, below_two _ _ _⟩
set_option maxHeartbeats 400000 in
theorem rCut_any (R n : Int) (A B : ByteArray) (w : World) (h : A.size + B.size ≤ 1000000000) :
    Calls Try.prog 54 #[.agg #[.int .i64 R, .string A, .string B], .int .i64 n] w
      (RPost R (if 0 ≤ n ∧ n ≤ (A.size + B.size : Nat) then (A ++ B).extract 0 n.toNat else A) (if 0 ≤ n ∧ n ≤ (A.size + B.size : Nat) then ⟨#[]⟩ else B) (if 0 ≤ n ∧ n ≤ (A.size + B.size : Nat) then 0 else 1) w) := by
  have hz : (A ++ B).size = A.size + B.size := by simp
  by_cases hg : 0 ≤ n ∧ n ≤ (A.size + B.size : Nat)
  · rw [if_pos hg, if_pos hg, if_pos hg]
    obtain ⟨h0, h1⟩ := hg
    have h3 : n ≤ (A.size : Int) + (B.size : Int) := by omega
    have h2 : ¬ (A.size : Int) + (B.size : Int) < n := by omega
    have h4 : ¬ n < 0 := by omega
    clear hz h1
    go_enter Try.func54, Try.ntmps54
    go_wp2_with fail
    exact bodyPost_ret (v := .tuple #[.agg #[.int .i64 R, .string ((A ++ B).extract 0 n.toNat), .string ⟨#[]⟩], .int .i64 0]) (by simp [results, Try.results54, go_sem]) rfl ⟨rfl, below_two _ _ _⟩
  · rw [if_neg hg, if_neg hg, if_neg hg]
    have hor : n < 0 ∨ ((A.size + B.size : Nat) : Int) < n := by omega
    clear hg
    rcases hor with h1 | h1
    all_goals
      go_enter Try.func54, Try.ntmps54
      go_wp2_with fail
      exact bodyPost_ret (v := .tuple #[.agg #[.int .i64 R, .string A, .string B], .int .i64 1]) (by simp [results, Try.results54, go_sem]) rfl ⟨rfl, below_two _ _ _⟩
set_option maxHeartbeats 400000 in
theorem rCrash_any (R keep : Int) (k : Nat) (A B : ByteArray) (w : World) (h : A.size + B.size ≤ 1000000000) (hk : min (max keep 0) (B.size : Int) = (k : Int)) :
    Calls Try.prog 47 #[.agg #[.int .i64 R, .string A, .string B], .int .i64 keep] w (RPost R (A ++ B.extract 0 k) ⟨#[]⟩ ((B.size : Int) - k) w) := by
  have hkb : k ≤ B.size := by omega
  have hz : (B.extract 0 k).size = k := by simp [ByteArray.size_extract]; omega
  have hkt : ((k : Int)).toNat = k := by omega
  have hsz : A.size + k ≤ 1000000000 := by omega
  go_enter Try.func47, Try.ntmps47
  go_wp2_with fail
  go_region
  all_goals
    go_wp2_with fail
    exact bodyPost_ret (v := .tuple #[.agg #[.int .i64 R, .string (A ++ B.extract 0 k), .string ⟨#[]⟩], .int .i64 ((B.size : Int) - k)]) (by simp [results, Try.results47, go_sem]) rfl ⟨rfl, by first | exact Below.drew (below_two _ _ _) | exact Below.drewN (below_two _ _ _) _⟩

/-! The same, of a disk's state. -/
def tA (d : Dk.St) : ByteArray := txt (d.l.take d.safe)
def tB (d : Dk.St) : ByteArray := txt (d.l.drop d.safe)
theorem tA_size {d : Dk.St} (h : Dk.Okay d) : (tA d).size = d.safe := by unfold tA; rw [txt_size, List.length_take]; have := h.1; omega
theorem tB_size (d : Dk.St) : (tB d).size = Dk.opens d := by unfold tB; rw [txt_size, List.length_drop]; rfl
theorem tAB (d : Dk.St) : tA d ++ tB d = txt d.l := by unfold tA tB; rw [txt_append, List.take_append_drop]
theorem t_sizes {d : Dk.St} (h : Dk.Okay d) : (tA d).size + (tB d).size = d.l.length ∧ (tA d).size + (tB d).size ≤ 1000000000 := by
  rw [tA_size h, tB_size]
  have h1 := h.1
  have h2 := h.2.1
  have h3 := h.2.2
  unfold Dk.opens
  omega
/-- What a call of the document's disk answers, where its state is d. -/
def QPost (d : Dk.St) (x : Int) (w : World) (e : Ending) (w' : World) : Prop := e = .returned (.tuple #[.agg #[.int .i64 (d.room : Nat), .string (tA d), .string (tB d)], .int .i64 x]) ∧ Below w.heap.size w w'
theorem QPost.of {d : Dk.St} {R : Int} {A B : ByteArray} {x y : Int} {w : World} {e : Ending} {w' : World} (h : RPost R A B x w e w') (h1 : R = (d.room : Nat)) (h2 : A = tA d) (h3 : B = tB d) (h4 : x = y) : QPost d y w e w' := by
  subst h1 h2 h3 h4; exact h
theorem qWrite {d : Dk.St} (h : Dk.Okay d) (b : List Nat) (hb : b.length ≤ 1000000000) (w : World) :
    Calls Try.prog 33 #[.agg #[.int .i64 (d.room : Nat), .string (tA d), .string (tB d)], .string (txt b)] w (QPost (Dk.write d b) (Dk.writeE d b) w) := by
  obtain ⟨h1, h2⟩ := t_sizes h
  have hs : (txt b).size = b.length := txt_size b
  refine (rWrite_any (d.room : Nat) (tA d) (tB d) (txt b) w h2 (by omega)).mono fun e w' hp => ?_
  by_cases hg : Dk.goes d b
  · have hc : ((tA d).size : Int) + (tB d).size + (txt b).size ≤ (d.room : Nat) := by unfold Dk.goes at hg; omega
    rw [if_pos hc, if_pos hc] at hp
    unfold Dk.write Dk.writeE
    rw [if_pos hg, if_pos hg]
    have hsl := h.1
    refine QPost.of hp rfl ?_ ?_ rfl
    · unfold tA; simp only; rw [List.take_append_of_le_length hsl]
    · unfold tB; simp only; rw [List.drop_append_of_le_length hsl, txt_append]
  · have hc : ¬ ((tA d).size : Int) + (tB d).size + (txt b).size ≤ (d.room : Nat) := by unfold Dk.goes at hg; omega
    rw [if_neg hc, if_neg hc] at hp
    unfold Dk.write Dk.writeE
    rw [if_neg hg, if_neg hg]
    exact hp
theorem tA_whole (R : Nat) (l : List Nat) (n : Nat) (hn : n = l.length) : tA ⟨R, n, l⟩ = txt l ∧ tB ⟨R, n, l⟩ = ⟨#[]⟩ := by
  subst hn
  unfold tA tB
  simp only
  rw [List.take_length, List.drop_length]
  exact ⟨rfl, rfl⟩
theorem qSync {d : Dk.St} (h : Dk.Okay d) (w : World) :
    Calls Try.prog 19 #[.agg #[.int .i64 (d.room : Nat), .string (tA d), .string (tB d)]] w (QPost (Dk.sync d) (Dk.opens d : Nat) w) := by
  obtain ⟨h1, h2⟩ := t_sizes h
  refine (rSync_any (d.room : Nat) (tA d) (tB d) w h2).mono fun e w' hp => ?_
  obtain ⟨t1, t2⟩ := tA_whole d.room d.l d.l.length rfl
  exact QPost.of hp rfl ((tAB d).trans t1.symm) t2.symm (by rw [tB_size])
theorem qSwap {d : Dk.St} (b : List Nat) (w : World) :
    Calls Try.prog 49 #[.agg #[.int .i64 (d.room : Nat), .string (tA d), .string (tB d)], .string (txt b)] w (QPost (Dk.swap d b) (Dk.swapE d b) w) := by
  have hs : (txt b).size = b.length := txt_size b
  refine (rSwap_any (d.room : Nat) (tA d) (tB d) (txt b) w).mono fun e w' hp => ?_
  by_cases hg : b.length ≤ d.room
  · have hc : ((txt b).size : Int) ≤ (d.room : Nat) := by omega
    rw [if_pos hc, if_pos hc, if_pos hc] at hp
    unfold Dk.swap Dk.swapE
    rw [if_pos hg, if_pos hg]
    obtain ⟨t1, t2⟩ := tA_whole d.room b b.length rfl
    exact QPost.of hp rfl t1.symm t2.symm rfl
  · have hc : ¬ ((txt b).size : Int) ≤ (d.room : Nat) := by omega
    rw [if_neg hc, if_neg hc, if_neg hc] at hp
    unfold Dk.swap Dk.swapE
    rw [if_neg hg, if_neg hg]
    exact hp
theorem qCut {d : Dk.St} (h : Dk.Okay d) (n : Int) (w : World) :
    Calls Try.prog 54 #[.agg #[.int .i64 (d.room : Nat), .string (tA d), .string (tB d)], .int .i64 n] w (QPost (Dk.cut d n) (Dk.cutE d n) w) := by
  obtain ⟨h1, h2⟩ := t_sizes h
  refine (rCut_any (d.room : Nat) n (tA d) (tB d) w h2).mono fun e w' hp => ?_
  rw [h1] at hp
  by_cases hg : Dk.within d n
  · have hc := hg
    unfold Dk.within at hc
    rw [if_pos hc, if_pos hc, if_pos hc] at hp
    unfold Dk.cut Dk.cutE
    rw [if_pos hg, if_pos hg]
    obtain ⟨t1, t2⟩ := tA_whole d.room (d.l.take n.toNat) n.toNat (by rw [List.length_take]; omega)
    exact QPost.of hp rfl (by rw [tAB, txt_cut]; exact t1.symm) t2.symm rfl
  · have hc := hg
    unfold Dk.within at hc
    rw [if_neg hc, if_neg hc, if_neg hc] at hp
    unfold Dk.cut Dk.cutE
    rw [if_neg hg, if_neg hg]
    exact hp
theorem qCrash {d : Dk.St} (h : Dk.Okay d) (keep : Int) (w : World) :
    Calls Try.prog 47 #[.agg #[.int .i64 (d.room : Nat), .string (tA d), .string (tB d)], .int .i64 keep] w (QPost (Dk.crash d keep) (Dk.lost d keep : Nat) w) := by
  obtain ⟨h1, h2⟩ := t_sizes h
  have hk : min (max keep 0) ((tB d).size : Int) = (Dk.kept d keep : Nat) := by rw [tB_size]; unfold Dk.kept; omega
  have hle := Dk.kept_le d keep
  have hop : Dk.opens d = d.l.length - d.safe := rfl
  have hok := h.1
  refine (rCrash_any (d.room : Nat) keep (Dk.kept d keep) (tA d) (tB d) w h2 hk).mono fun e w' hp => ?_
  obtain ⟨t1, t2⟩ := tA_whole d.room (d.l.take (d.safe + Dk.kept d keep)) (d.safe + Dk.kept d keep) (by rw [List.length_take]; omega)
  refine QPost.of hp rfl (Eq.trans ?_ t1.symm) t2.symm ?_
  · unfold tA tB
    rw [txt_cut, txt_append, List.take_add]
  · rw [tB_size]; unfold Dk.lost; omega
/-- The cell in which the document's disk lies. -/
def RefAt (W : World) (g : Nat) (d : Dk.St) : Prop := W.heap[g]? = some (.cells #[.int .i64 (d.room : Nat), .string (tA d), .string (tB d)] 30 (0, 0))
theorem RefAt.lt {W : World} {g : Nat} {d : Dk.St} (h : RefAt W g d) : g < W.heap.size := (Array.getElem?_eq_some_iff.1 h).1
theorem RefAt.on {W W' : World} {g : Nat} {d : Dk.St} (h : RefAt W g d) (hb : Below W.heap.size W W') : RefAt W' g d := (hb.block g h.lt).trans h
theorem RefAt.facts {W : World} {g : Nat} {d : Dk.St} (h : RefAt W g d) :
    W.cell? ⟨g, 0, none⟩ = some (.int .i64 (d.room : Nat)) ∧ W.cell? ⟨g, 1, none⟩ = some (.string (tA d)) ∧ W.cell? ⟨g, 2, none⟩ = some (.string (tB d)) ∧
      W.frozen? ⟨g, 0, none⟩ = false ∧ W.frozen? ⟨g, 1, none⟩ = false ∧ W.frozen? ⟨g, 2, none⟩ = false :=
  ⟨by rw [cell_of_row W g 0 _ _ _ h]; rfl, by rw [cell_of_row W g 1 _ _ _ h]; rfl, by rw [cell_of_row W g 2 _ _ _ h]; rfl, frozen_of_row W g 0 _ _ h, frozen_of_row W g 1 _ _ h, frozen_of_row W g 2 _ _ h⟩
/-- All three cells stored anew. -/
theorem RefAt.put {W : World} {g : Nat} {d : Dk.St} (h : RefAt W g d) (d' : Dk.St) :
    RefAt (((W.setCell ⟨g, 0, none⟩ (.int .i64 (d'.room : Nat))).setCell ⟨g, 1, none⟩ (.string (tA d'))).setCell ⟨g, 2, none⟩ (.string (tB d'))) g d' := by
  have h1 := heap_setCell_same W g 0 _ _ (.int .i64 (d'.room : Nat)) h
  have h2 := heap_setCell_same _ g 1 _ _ (.string (tA d')) h1
  have h3 := heap_setCell_same _ g 2 _ _ (.string (tB d')) h2
  exact h3
theorem put_grown (W : World) (g : Nat) (x y z : Value) : W.grownBy (((W.setCell ⟨g, 0, none⟩ x).setCell ⟨g, 1, none⟩ y).setCell ⟨g, 2, none⟩ z) (some g) :=
  grown_trans (grown_trans (grown_set _ _ _ _) (grown_set _ _ _ _)) (grown_set _ _ _ _)
theorem ref_kept {W W' : World} {X : Nat → Prop} {g : Nat} {d : Dk.St} (h : RefAt W g d) (hk : Kept X W W') (hX : ¬ X g) : RefAt W' g d := (hk.block g h.lt hX).trans h
end Go.Proofs.Ytdamnamhbjfnlaa
