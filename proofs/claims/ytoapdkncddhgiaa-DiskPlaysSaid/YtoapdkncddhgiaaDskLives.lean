/-
  A disk of a call's own, from a base world on; the document's example of layer 5 holds: 'lives'.
-/
import Derived.Test.YtoapdkncddhgiaaDsk
import Derived.Lib.SlBytesConst
namespace Go.Proofs.Ytoapdkncddhgiaa
open Go.RowKit

/-- A disk in blocks from B on. -/
def DskB (w : World) (B r : Nat) (d : Dk.St) : Prop := ∃ v, Dsk w r v d ∧ ∀ i, foot r v i → B ≤ i
theorem DskB.below {w w' : World} {B r : Nat} {d : Dk.St} (h : DskB w B r d) (hb : Below w.heap.size w w') : DskB w' B r d := by
  obtain ⟨v, h1, h2⟩ := h
  exact ⟨v, h1.below hb, h2⟩
theorem DskB.keep {w w' : World} {B r : Nat} {d : Dk.St} (h : DskB w B r d) (hk : ∀ i, B ≤ i → i < w.heap.size → w'.heap[i]? = w.heap[i]?) : DskB w' B r d := by
  obtain ⟨v, h1, h2⟩ := h
  exact ⟨v, h1.keep fun i hi => hk i (h2 i hi) (h1.lt i hi), h2⟩
theorem DskB.okay {w : World} {B r : Nat} {d : Dk.St} (h : DskB w B r d) : Dk.Okay d := by
  obtain ⟨v, h1, h2⟩ := h
  exact h1.okay
theorem DskB.lower {w : World} {B B' r : Nat} {d : Dk.St} (h : DskB w B r d) (hB : B' ≤ B) : DskB w B' r d := by
  obtain ⟨v, h1, h2⟩ := h
  exact ⟨v, h1, fun i hi => Nat.le_trans hB (h2 i hi)⟩
def MPost (w0 : World) (r : Nat) (d : Dk.St) (x : Value) (e : Ending) (w' : World) : Prop := e = .returned x ∧ DskB w' w0.heap.size r d ∧ Below w0.heap.size w0 w'
theorem MPost.mk {w0 W : World} {r : Nat} {v : Value} {d : Dk.St} {x : Value} {e : Ending} {w' : World} (h : DPost W r v d x e w') (hb : Below w0.heap.size w0 W) (hv : ∀ i, foot r v i → w0.heap.size ≤ i) : MPost w0 r d x e w' := by
  obtain ⟨rfl, v', h1, h2, h3⟩ := h
  refine ⟨rfl, ⟨v', h1, ?_⟩, hb.trans (h3.below hb.size hv)⟩
  rintro i (rfl | hi)
  · exact hv _ (.inl rfl)
  · rcases h2 i hi with h4 | h4
    · exact hv i (.inr h4)
    · exact Nat.le_trans hb.size h4
section
variable {w0 : World} (W : World) {r : Nat} {d : Dk.St} (hb : Below w0.heap.size w0 W) (hd : DskB W w0.heap.size r d)
include hb hd
theorem dWrite_at {n c : Nat} {A : Option Addr} {b : List Nat} (hs : Sl W A n c b) : Calls Try.prog 15 #[.pointer (some ⟨r, 0, none⟩), .slice A n c] W (MPost w0 r (Dk.write d b) (.int .i64 (Dk.writeE d b))) := by
  obtain ⟨v, h1, h2⟩ := hd
  exact (dWrite_any W r n c A b v d h1 hs).mono fun _ _ h => MPost.mk h hb h2
theorem dSwap_at {n c : Nat} {A : Option Addr} {b : List Nat} (hs : Sl W A n c b) : Calls Try.prog 23 #[.pointer (some ⟨r, 0, none⟩), .slice A n c] W (MPost w0 r (Dk.swap d b) (.int .i64 (Dk.swapE d b))) := by
  obtain ⟨v, h1, h2⟩ := hd
  exact (dSwap_any W r n c A b v d h1 hs).mono fun _ _ h => MPost.mk h hb h2
theorem dSync_at : Calls Try.prog 17 #[.pointer (some ⟨r, 0, none⟩)] W (MPost w0 r (Dk.sync d) (.int .i64 (Dk.opens d : Nat))) := by
  obtain ⟨v, h1, h2⟩ := hd
  exact (dSync_any W r v d h1).mono fun _ _ h => MPost.mk h hb h2
theorem dCrash_at {keep : Int} (hk : -9223372036854775808 ≤ keep ∧ keep ≤ 9223372036854775807) : Calls Try.prog 19 #[.pointer (some ⟨r, 0, none⟩), .int .i64 keep] W (MPost w0 r (Dk.crash d keep) (.int .i64 (Dk.lost d keep : Nat))) := by
  obtain ⟨v, h1, h2⟩ := hd
  exact (dCrash_any W r keep v d h1 hk).mono fun _ _ h => MPost.mk h hb h2
theorem dCut_at {n : Int} (hk : -9223372036854775808 ≤ n ∧ n ≤ 9223372036854775807) : Calls Try.prog 21 #[.pointer (some ⟨r, 0, none⟩), .int .i64 n] W (MPost w0 r (Dk.cut d n) (.int .i64 (Dk.cutE d n))) := by
  obtain ⟨v, h1, h2⟩ := hd
  exact (dCut_any W r n v d h1 hk).mono fun _ _ h => MPost.mk h hb h2
omit hb in
theorem dAll_at : Calls Try.prog 24 #[.pointer (some ⟨r, 0, none⟩)] W (BPost d.l W) := by
  obtain ⟨v, h1, _⟩ := hd
  exact dAll_any W r v d h1
omit hb in
theorem dLen_at : Calls Try.prog 25 #[.pointer (some ⟨r, 0, none⟩)] W (APost W (.int .i64 (d.l.length : Nat))) := by
  obtain ⟨v, h1, _⟩ := hd
  exact dLen_any W r v d h1
omit hb in
theorem dSafe_at : Calls Try.prog 26 #[.pointer (some ⟨r, 0, none⟩)] W (APost W (.int .i64 (d.safe : Nat))) := by
  obtain ⟨v, h1, _⟩ := hd
  exact dSafe_any W r v d h1
omit hb in
theorem dRoom_at : Calls Try.prog 27 #[.pointer (some ⟨r, 0, none⟩)] W (APost W (.int .i64 (d.room - d.l.length : Nat))) := by
  obtain ⟨v, h1, _⟩ := hd
  exact dRoom_any W r v d h1
end
def NewPost (w0 : World) (d : Dk.St) (W : World) (e : Ending) (w' : World) : Prop := ∃ r, e = .returned (.pointer (some ⟨r, 0, none⟩)) ∧ W.heap.size ≤ r ∧ DskB w' W.heap.size r d ∧ Below w0.heap.size w0 w' ∧ Below W.heap.size W w'
theorem dNew_at {w0 : World} (W : World) (n : Int) (hb : Below w0.heap.size w0 W) : Calls Try.prog 10 #[.int .i64 n] W (NewPost w0 (Dk.new n) W) := by
  refine (dNew_any n W).mono ?_
  rintro e w' ⟨r, rfl, h1, h2, h3⟩
  refine ⟨r, rfl, h1, ⟨_, h2, ?_⟩, hb.trans (h3.mono hb.size), h3⟩
  rintro i (rfl | hi)
  · exact h1
  · cases hi
theorem sl_const (w : World) (x y : Nat) (hx : x < 256) (hy : y < 256) (X Y : Int) (e1 : X = (x : Int)) (e2 : Y = (y : Int)) (fr : Nat × Nat) : Sl (w.alloc (.cells #[.int .u8 X, .int .u8 Y] 5 fr)) (some ⟨w.heap.size, 0, none⟩) 2 2 [x, y] := by
  subst e1 e2
  exact ⟨Rd.made [x, y] rfl (by intro z hz; simp at hz; omega), rfl, Nat.le_refl _, by unfold maxLen; omega, fun h => by cases h⟩
theorem ex_new : Dk.new 10 = ⟨10, 0, []⟩ := rfl
theorem ex_write : Dk.write ⟨10, 0, []⟩ [97, 98] = ⟨10, 0, [97, 98]⟩ ∧ Dk.writeE ⟨10, 0, []⟩ [97, 98] = 0 := ⟨rfl, rfl⟩
theorem ex_sync : Dk.sync ⟨10, 0, [97, 98]⟩ = ⟨10, 2, [97, 98]⟩ ∧ Dk.opens ⟨10, 0, [97, 98]⟩ = 2 := ⟨rfl, rfl⟩
theorem ex_write2 : Dk.write ⟨10, 2, [97, 98]⟩ [99, 100] = ⟨10, 2, [97, 98, 99, 100]⟩ ∧ Dk.writeE ⟨10, 2, [97, 98]⟩ [99, 100] = 0 := ⟨rfl, rfl⟩
theorem ex_crash : Dk.crash ⟨10, 2, [97, 98, 99, 100]⟩ 1 = ⟨10, 3, [97, 98, 99]⟩ ∧ Dk.lost ⟨10, 2, [97, 98, 99, 100]⟩ 1 = 1 := ⟨rfl, rfl⟩
theorem ex_text : txt [97, 98, 99] = ⟨#[97, 98, 99]⟩ := rfl
set_option maxHeartbeats 800000 in
theorem dlives_any (w : World) : Calls Try.prog 9 #[] w fun e w' => e = .returned (.bool true) ∧ Below w.heap.size w w' := by
  go_enter Try.func9, Try.ntmps9
  go_wp2_with fail
  (with_reducible refine (dNew_at w 10 (Below.refl _ _)).mono ?_)
  rw [ex_new]
  rintro e w1 ⟨r, rfl, hr, hd1, hb1, _⟩
  have D1 := Lib.hid hd1
  have B1 := Lib.hid hb1
  clear hd1 hb1
  have B1a := Lib.hid (B1.out.alloc B1.out.size (.cells #[.int .u8 97, .int .u8 98] 5 (2, 3)))
  have D1a := Lib.hid (D1.out.below ((Below.refl _ _).alloc (Nat.le_refl _) (.cells #[.int .u8 97, .int .u8 98] 5 (2, 3))))
  have hcv := Lib.run_convert_bytes_const (P := Try.prog) w1 30 5 #[.int .u8 97, .int .u8 98] 2 2 Try.underlying30 Try.underlying5
  go_wp2_with fail
  clear hcv
  refine (dWrite_at _ B1a.out D1a.out (sl_const w1 97 98 (by omega) (by omega) 97 98 rfl rfl _)).mono ?_
  rw [ex_write.1, ex_write.2]
  rintro e w2 ⟨rfl, hd2, hb2⟩
  have D2 := Lib.hid hd2
  have B2 := Lib.hid hb2
  clear hd2 hb2
  go_wp2_with fail
  refine (dSync_at _ B2.out D2.out).mono ?_
  rw [ex_sync.1, ex_sync.2]
  rintro e w3 ⟨rfl, hd3, hb3⟩
  have D3 := Lib.hid hd3
  have B3 := Lib.hid hb3
  clear hd3 hb3
  have B3a := Lib.hid (B3.out.alloc B3.out.size (.cells #[.int .u8 99, .int .u8 100] 5 (2, 3)))
  have D3a := Lib.hid (D3.out.below ((Below.refl _ _).alloc (Nat.le_refl _) (.cells #[.int .u8 99, .int .u8 100] 5 (2, 3))))
  have hcv := Lib.run_convert_bytes_const (P := Try.prog) w3 30 5 #[.int .u8 99, .int .u8 100] 2 2 Try.underlying30 Try.underlying5
  go_wp2_with fail
  clear hcv
  refine (dWrite_at _ B3a.out D3a.out (sl_const w3 99 100 (by omega) (by omega) 99 100 rfl rfl _)).mono ?_
  rw [ex_write2.1, ex_write2.2]
  rintro e w4 ⟨rfl, hd4, hb4⟩
  have D4 := Lib.hid hd4
  have B4 := Lib.hid hb4
  clear hd4 hb4
  go_wp2_with fail
  refine (dCrash_at _ B4.out D4.out (keep := 1) (by omega)).mono ?_
  rw [ex_crash.1, ex_crash.2]
  rintro e w5 ⟨rfl, hd5, hb5⟩
  have D5 := Lib.hid hd5
  have B5 := Lib.hid hb5
  clear hd5 hb5
  go_wp2_with fail
  refine (dAll_at _ D5.out).mono ?_
  rintro e w6 ⟨A6, c6, rfl, ho6, hb6⟩
  have hcv := conv_rd (c := c6) (n := 3) (l := [97, 98, 99]) ho6.sls.rd rfl
  rw [ex_text] at hcv
  have D6 := Lib.hid (D5.out.below hb6)
  have B6 := Lib.hid (B5.out.trans (hb6.mono B5.out.size))
  clear ho6 hb6
  go_wp2_with fail
  refine (dSafe_at _ D6.out).mono ?_
  rintro e w7 ⟨rfl, hb7⟩
  have B7 := Lib.hid (B6.out.trans (hb7.mono B6.out.size))
  clear hb7
  go_wp2_with fail
  go_ret
  exact ⟨rfl, B7.out⟩
theorem dlives_at {w0 : World} (W : World) (hb : Below w0.heap.size w0 W) :
    Calls Try.prog 9 #[] W fun e w' => e = .returned (.bool true) ∧ Below w0.heap.size w0 w' :=
  (dlives_any W).mono fun _ _ ⟨he, h2⟩ => ⟨he, hb.trans (h2.mono hb.size)⟩
end Go.Proofs.Ytoapdkncddhgiaa
