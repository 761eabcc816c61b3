/-
  Package journal: the calls that change a journal, of a journal in memory.
-/
import Derived.Test.YtdamnamhbjfnlaaJrnl
import Derived.Test.YtdamnamhbjfnlaaJrnJC
namespace Go.Proofs.Ytdamnamhbjfnlaa
open Go.RowKit Fr

/-- In block q lies a journal on the disk in block r; all its blocks are among X. -/
structure Jrn (w : World) (X : Nat → Prop) (q r : Nat) (d : Dk.St) : Prop where
  blk : w.heap[q]? = some (.cells #[.pointer (some ⟨r, 0, none⟩)] 64 (0, 0))
  inX : X q
  dsk : DskX w (fun i => X i ∧ i ≠ q) r d
  whole : Jn.Whole d
theorem DskX.lt {w : World} {X : Nat → Prop} {r : Nat} {d : Dk.St} (h : DskX w X r d) : DskX w (fun i => X i ∧ i < w.heap.size) r d := by
  obtain ⟨v, h1, h2⟩ := h
  exact ⟨v, h1, fun i hi => ⟨h2 i hi, h1.lt i hi⟩⟩
theorem DskX.more {w : World} {X Y : Nat → Prop} {r : Nat} {d : Dk.St} (h : DskX w X r d) (hY : ∀ i, X i → i < w.heap.size → Y i) : DskX w Y r d := by
  obtain ⟨v, h1, h2⟩ := h
  exact ⟨v, h1, fun i hi => hY i (h2 i hi) (h1.lt i hi)⟩
section
variable {w w' : World} {X : Nat → Prop} {q r : Nat} {d : Dk.St}
theorem Jrn.lt (h : Jrn w X q r d) : q < w.heap.size := (Array.getElem?_eq_some_iff.1 h.blk).1
theorem Jrn.keep (h : Jrn w X q r d) (hk : ∀ i, X i → i < w.heap.size → w'.heap[i]? = w.heap[i]?) : Jrn w' X q r d :=
  ⟨(hk q h.inX h.lt).trans h.blk, h.inX, h.dsk.keep fun i hi hl => hk i hi.1 hl, h.whole⟩
theorem Jrn.below (h : Jrn w X q r d) (hb : Below w.heap.size w w') : Jrn w' X q r d := h.keep fun i _ hi => hb.block i hi
theorem Jrn.ask (h : Jrn w X q r d) : JAsk (some ⟨q, 0, none⟩) (some ⟨r, 0, none⟩) d.l d.safe (d.room - d.l.length) w := by
  have hok := h.dsk.okay
  unfold Dk.Okay at hok
  exact ⟨fun W hW => jdisk_any W q _ (h.below hW).blk, fun W hW => dAll_x W (h.dsk.below hW), fun W hW => dSafe_x W (h.dsk.below hW), fun W hW => dRoom_x W (h.dsk.below hW), hok.1, by omega⟩
/-- What a call on the disk leaves of the journal. -/
theorem Jrn.step {d' : Dk.St} {x : Value} {e : Ending} (h : Jrn w X q r d) (hp : XPost w (fun i => X i ∧ i ≠ q) r d' x e w') (hw : Jn.Whole d') : e = .returned x ∧ Jrn w' X q r d' ∧ Kept X w w' := by
  obtain ⟨rfl, h1, h2⟩ := hp
  exact ⟨rfl, ⟨(h2.block q h.lt (fun hf => hf.2 rfl)).trans h.blk, h.inX, h1, hw⟩, h2.more fun i _ hi => hi.1⟩
theorem Jrn.fresh (h : Jrn w X q r d) (hX : ∀ i, w.heap.size ≤ i → X i) : ∀ i, w.heap.size ≤ i → X i ∧ i ≠ q := fun i hi => ⟨hX i hi, fun e => by have := h.lt; omega⟩
end

theorem XPost.before {W W1 w' : World} {X : Nat → Prop} {r : Nat} {d : Dk.St} {x : Value} {e : Ending} (h : XPost W1 X r d x e w') (hb : Kept X W W1) : XPost W X r d x e w' := ⟨h.1, h.2.1, hb.trans h.2.2 fun _ _ hi => hi⟩
/-- Just the frames that can be got are left. -/
theorem jleave_x (W : World) {X : Nat → Prop} {r : Nat} {d : Dk.St} (hd : DskX W X r d) (hX : ∀ i, W.heap.size ≤ i → X i) (hy : Jn.Byt d) :
    Calls Try.prog 38 #[.pointer (some ⟨r, 0, none⟩)] W (XPost W X r (Jn.opened d) (.int .i64 ((d.l.length : Nat) - (Jn.cutN d : Nat)))) := by
  have HD := Lib.hid hd
  have hok := hd.okay
  have hcl := Jn.cutN_le d hy
  have HC := Lib.hid (Jn.cut_opened d hy)
  have HN : Hid (Jn.cutN d = (scan d.l).2.1) := rfl
  have HX := Lib.hid hX
  unfold Dk.Okay at hok
  have hlen : d.l.length ≤ 1048576 := by omega
  clear hd hok hy hX
  go_enter Try.func38, Try.ntmps38
  go_wp2_with fail
  refine (dAll_x W HD.out).mono ?_
  rintro e w1 ⟨A1, c1, rfl, ho1, hb1⟩
  have S1 := Lib.hid ho1.sls
  have B1 := Lib.hid hb1
  clear ho1 hb1
  go_wp2_with fail
  (with_reducible refine (fscan_any d.l.length c1 A1 d.l w1 S1.out (by omega)).mono ?_)
  rintro e w2 ⟨A2, c2, rfl, _, hb2⟩
  have B2 := Lib.hid (B1.out.trans (hb2.mono B1.out.size))
  rw [← HN.out]
  clear hb2
  generalize Jn.cutN d = m at *
  go_wp2_with fail
  refine (dCut_x w2 (HD.out.below B2.out) (fun i hi => HX.out i (Nat.le_trans B2.out.size hi)) (n := (m : Int)) (by omega)).mono ?_
  rw [HC.out.1, HC.out.2]
  rintro e w3 hp
  obtain rfl := hp.1
  have P := Lib.hid (hp.before (Kept.of_below B2.out))
  clear hp
  go_wp2_with fail
  go_ret
  exact ⟨rfl, P.out.2⟩
/-- Opened. -/
theorem jOpen_x (W : World) {X : Nat → Prop} {r : Nat} {d : Dk.St} (hd : DskX W X r d) (hX : ∀ i, W.heap.size ≤ i → X i) (hy : Jn.Byt d) :
    Calls Try.prog 10 #[.pointer (some ⟨r, 0, none⟩)] W fun e w' => e = .returned (.tuple #[.pointer (some ⟨W.heap.size, 0, none⟩), .int .i64 ((d.l.length : Nat) - (Jn.cutN d : Nat))]) ∧ Jrn w' X W.heap.size r (Jn.opened d) ∧ Kept X W w' := by
  have HD := Lib.hid hd
  have HX := Lib.hid hX
  have HY := Lib.hid hy
  clear hd hX hy
  go_enter Try.func10, Try.ntmps10
  go_wp2_with fail
  have hb := (Below.refl W.heap.size W).alloc (Nat.le_refl _) (.cells #[.pointer (some ⟨r, 0, none⟩)] 64)
  have hbk := heap_alloc_new W (.cells #[.pointer (some ⟨r, 0, none⟩)] 64)
  have hsz : (W.alloc (.cells #[.pointer (some ⟨r, 0, none⟩)] 64)).heap.size = W.heap.size + 1 := by simp
  have D1 := Lib.hid ((HD.out.lt.below hb).more (Y := fun i => X i ∧ i ≠ W.heap.size) fun i hi _ => ⟨hi.1, by have := hi.2; omega⟩)
  have B1 := Lib.hid hb
  have K1 := Lib.hid hbk
  have Z1 := Lib.hid hsz
  clear hb hbk hsz
  generalize W.alloc (.cells #[.pointer (some ⟨r, 0, none⟩)] 64) = w1 at *
  (with_reducible refine (jleave_x w1 D1.out (fun i hi => ⟨HX.out i (by have := Z1.out; omega), by have := Z1.out; omega⟩) HY.out).mono ?_)
  rintro e w2 ⟨rfl, hd2, hk2⟩
  have D2 := Lib.hid hd2
  have KK := Lib.hid hk2
  clear hd2 hk2
  obtain ⟨z, hz⟩ : ∃ z : Int, z = ((d.l.length : Nat) : Int) - (Jn.cutN d : Nat) := ⟨_, rfl⟩
  rw [← hz]
  have HZ := Lib.hid hz
  clear hz
  go_wp2_with fail
  go_ret2
  refine ⟨by rw [← HZ.out]; rfl, ⟨(KK.out.block W.heap.size (by have := Z1.out; omega) (fun hf => hf.2 rfl)).trans K1.out, HX.out _ (Nat.le_refl _), D2.out, Jn.Whole.opened HY.out⟩, ?_⟩
  exact (Kept.of_below (F := X) B1.out).trans KK.out fun i _ hi => hi.1
section
variable {W : World} {X : Nat → Prop} {q r : Nat} {d : Dk.St} (h : Jrn W X q r d) (hX : ∀ i, W.heap.size ≤ i → X i)
include h hX
theorem jAppend_x {n c : Nat} {A : Option Addr} {p : List Nat} (hs : Sl W A n c p) (hn : n ≤ 900000000) :
    Calls Try.prog 16 #[.pointer (some ⟨q, 0, none⟩), .slice A n c] W fun e w' => e = .returned (.int .i64 (Jn.appE d p)) ∧ Jrn w' X q r (Jn.app d p) ∧ Kept X W w' := by
  have H := Lib.hid h
  have HX := Lib.hid hX
  have C1 := Lib.hid (jfit_ask h.ask rfl h.dsk.okay rfl n c A p hs hn)
  have HP : Hid (∀ x ∈ p, x < 256) := hs.rd.1
  clear h hX hs
  by_cases h0 : Jn.appE d p = 0
  · have E0 : Hid (Jn.app d p = Dk.write d (fr p) ∧ Dk.writeE d (fr p) = 0) := by
      show _ ∧ _
      unfold Jn.appE at h0
      by_cases hp : putE p = 0
      · rw [if_neg (by omega)] at h0
        unfold Jn.app
        rw [if_neg (by omega)]
        exact ⟨rfl, h0⟩
      · rw [if_pos hp] at h0; omega
    have Z0 := Lib.hid h0
    rw [h0] at C1
    go_enter Try.func16, Try.ntmps16
    go_wp2_with fail
    refine C1.out.mono ?_
    rintro e w1 ⟨A1, c1, f, rfl, ho1, hf, hb1⟩
    have S1 := Lib.hid ho1.sls
    have B1 := Lib.hid hb1
    have HF : Hid (f = fr p) := hf (by trivial)
    have H1 := Lib.hid (H.out.below hb1)
    clear ho1 hb1 hf C1 h0
    go_wp2_with fail
    refine (jdisk_any w1 q _ H1.out.blk).mono ?_
    rintro e w1' ⟨rfl, rfl⟩
    go_wp2_with fail
    (with_reducible refine (dWrite_x w1' H1.out.dsk (H1.out.fresh fun i hi => HX.out i (Nat.le_trans B1.out.size hi)) S1.out).mono ?_)
    rw [HF.out, ← E0.out.1, E0.out.2]
    rintro e w2 hp
    obtain ⟨rfl, hj, hk⟩ := H1.out.step hp (H.out.whole.app HP.out)
    have J2 := Lib.hid hj
    have K2 := Lib.hid hk
    clear hp hj hk
    go_wp2_with fail
    go_ret
    exact ⟨by rw [Z0.out]; rfl, J2.out, (Kept.of_below (F := X) B1.out).trans K2.out fun i _ hi => hi⟩
  · have E0 : Hid (Jn.app d p = d) := by
      show _ = d
      unfold Jn.appE at h0
      unfold Jn.app
      by_cases hp : putE p = 0
      · rw [if_neg (by omega)] at h0 ⊢
        unfold Dk.writeE at h0
        unfold Dk.write
        split at h0
        · omega
        · rename_i hg; rw [if_neg hg]
      · rw [if_pos hp]
    have hne : (Jn.appE d p != 0) = true := by rw [bne_iff_ne]; exact h0
    obtain ⟨y, hy⟩ : ∃ y, y = Jn.appE d p := ⟨_, rfl⟩
    rw [← hy] at C1 hne ⊢
    clear h0 hy
    go_enter Try.func16, Try.ntmps16
    go_wp2_with fail
    refine C1.out.mono ?_
    rintro e w1 ⟨A1, c1, f, rfl, ho1, hf, hb1⟩
    have B1 := Lib.hid hb1
    clear ho1 hb1 hf C1
    go_wp2_with fail
    go_ret
    exact ⟨rfl, by rw [E0.out]; exact H.out.below B1.out, Kept.of_below B1.out⟩
theorem jSync_x : Calls Try.prog 20 #[.pointer (some ⟨q, 0, none⟩)] W fun e w' => e = .returned (.int .i64 (Jn.syncN d)) ∧ Jrn w' X q r (Dk.sync d) ∧ Kept X W w' := by
  have H := Lib.hid h
  have HX := Lib.hid hX
  have hok := h.dsk.okay
  unfold Dk.Okay at hok
  have hle := hok.1
  have hlen : d.l.length ≤ 1048576 := by omega
  have HN : Hid (((scan (d.l.drop d.safe)).1.length : Nat) = Jn.syncN d) := h.whole.syncN
  clear h hX hok
  go_enter Try.func20, Try.ntmps20
  go_wp2_with fail
  refine (jdisk_any W q _ H.out.blk).mono ?_
  rintro e W' ⟨rfl, rfl⟩
  go_wp2_with fail
  refine (dAll_x W' H.out.dsk).mono ?_
  rintro e w1 ⟨A1, c1, rfl, ho1, hb1⟩
  have S1 := Lib.hid ho1.sls
  have B1 := Lib.hid hb1
  have hcap := ho1.sls.cap
  have hmax := ho1.sls.max
  unfold maxLen at hmax
  clear ho1 hb1
  go_wp2_with fail
  refine (dSafe_x w1 (H.out.dsk.below B1.out)).mono ?_
  rintro e w2 ⟨rfl, hb2⟩
  have S2 := Lib.hid (S1.out.on hb2)
  have B2 := Lib.hid (B1.out.trans (hb2.mono B1.out.size))
  clear hb2 S1
  have CN : Hid (∀ w A c, Sl w A (d.l.length - d.safe) c (d.l.drop d.safe) → Calls Try.prog 44 #[.slice A (d.l.length - d.safe) c] w (APost w (.int .i64 (Jn.syncN d)))) := fun w A c hs => by
    rw [← HN.out]
    exact jcount_any _ c A _ w hs (by omega)
  have fin : ∀ w3, Below w2.heap.size w2 w3 → Calls Try.prog 46 #[.pointer (some ⟨r, 0, none⟩)] w3 fun e w' => (∃ z : Int, e = .returned (.int .i64 z)) ∧ Jrn w' X q r (Dk.sync d) ∧ Kept X W' w' := fun w3 hb3 => by
    have B3 := B2.out.trans (hb3.mono B2.out.size)
    have H3 := H.out.below B3
    refine (dSync_x w3 H3.dsk (H3.fresh fun i hi => HX.out i (Nat.le_trans B3.size hi))).mono ?_
    intro e w4 hp
    obtain ⟨he, hj, hk⟩ := H3.step hp H.out.whole.sync
    exact ⟨⟨_, he⟩, hj, (Kept.of_below B3).trans hk fun i _ hi => hi⟩
  have FIN := Lib.hid fin
  clear fin
  by_cases hcs : c1 = d.safe
  · have S3 := Lib.hid (S2.out.dropAll hle hcs)
    rw [show c1 - d.safe = 0 by omega] at S3
    go_wp2_with fail
    (with_reducible refine (CN.out w2 _ _ S3.out).mono ?_)
    rintro e w3 ⟨rfl, hb3⟩
    have F3 := Lib.hid (FIN.out w3 hb3)
    clear hb3 FIN
    go_wp2_with fail
    refine F3.out.mono ?_
    rintro e w4 ⟨⟨z, rfl⟩, hj, hk⟩
    have J4 := Lib.hid hj
    have K4 := Lib.hid hk
    clear hj hk
    go_wp2_with fail
    go_ret
    exact ⟨rfl, J4.out, K4.out⟩
  · have S3 := Lib.hid (S2.out.drop hle hcs)
    go_wp2_with fail
    (with_reducible refine (CN.out w2 _ _ S3.out).mono ?_)
    rintro e w3 ⟨rfl, hb3⟩
    have F3 := Lib.hid (FIN.out w3 hb3)
    clear hb3 FIN
    go_wp2_with fail
    refine F3.out.mono ?_
    rintro e w4 ⟨⟨z, rfl⟩, hj, hk⟩
    have J4 := Lib.hid hj
    have K4 := Lib.hid hk
    clear hj hk
    go_wp2_with fail
    go_ret
    exact ⟨rfl, J4.out, K4.out⟩
end
end Go.Proofs.Ytdamnamhbjfnlaa
