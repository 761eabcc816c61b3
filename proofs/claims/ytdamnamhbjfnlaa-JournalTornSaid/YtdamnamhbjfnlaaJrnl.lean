/-
  Package journal: what each call answers and leaves, of a journal in memory.
-/
import Derived.Test.YtdamnamhbjfnlaaJrnAll
import Derived.Test.YtdamnamhbjfnlaaJnWhole
import Derived.Test.YtdamnamhbjfnlaaDskNil
import Derived.Test.YtdamnamhbjfnlaaDskX
namespace Go.Proofs.Ytdamnamhbjfnlaa
open Go.RowKit Fr

/-- A pointer to a journal (or none) leads to the disk d0, whose bytes are l, the first s of them safe; R is its room that is left. -/
structure JAsk (p0 d0 : Option Addr) (l : List Nat) (s R : Nat) (w : World) : Prop where
  disk : ∀ W, Below w.heap.size w W → Calls Try.prog 42 #[.pointer p0] W fun e w' => e = .returned (.pointer d0) ∧ w' = W
  all : ∀ W, Below w.heap.size w W → Calls Try.prog 45 #[.pointer d0] W (BPost l W)
  safe : ∀ W, Below w.heap.size w W → Calls Try.prog 36 #[.pointer d0] W (APost W (.int .i64 (s : Nat)))
  room : ∀ W, Below w.heap.size w W → Calls Try.prog 53 #[.pointer d0] W (APost W (.int .i64 (R : Nat)))
  le : s ≤ l.length
  few : l.length ≤ 1048576
theorem JAsk.on {p0 d0 : Option Addr} {l : List Nat} {s R : Nat} {w w' : World} (h : JAsk p0 d0 l s R w) (hb : Below w.heap.size w w') : JAsk p0 d0 l s R w' :=
  ⟨fun W hW => h.disk W (hb.trans (hW.mono hb.size)), fun W hW => h.all W (hb.trans (hW.mono hb.size)), fun W hW => h.safe W (hb.trans (hW.mono hb.size)), fun W hW => h.room W (hb.trans (hW.mono hb.size)), h.le, h.few⟩
theorem jdisk_none (w : World) : Calls Try.prog 42 #[.pointer none] w fun e w' => e = .returned (.pointer none) ∧ w' = w := by
  go_enter Try.func42, Try.ntmps42
  go_wp2_with fail
  go_ret
  exact ⟨rfl, rfl⟩
theorem jdisk_any (w : World) (q : Nat) (d0 : Option Addr) (h : w.heap[q]? = some (.cells #[.pointer d0] 64 (0, 0))) :
    Calls Try.prog 42 #[.pointer (some ⟨q, 0, none⟩)] w fun e w' => e = .returned (.pointer d0) ∧ w' = w := by
  have hc : w.cell? ⟨q, 0, none⟩ = some (.pointer d0) := by rw [cell_of_row w q 0 _ _ _ h]; rfl
  clear h
  go_enter Try.func42, Try.ntmps42
  go_wp2_with fail
  go_ret
  exact ⟨rfl, rfl⟩
theorem JAsk.none_ (w : World) : JAsk none none [] 0 0 w :=
  ⟨fun W _ => jdisk_none W, fun W _ => (nAll_any W).mono fun e w' ⟨he, hw⟩ => by subst he hw; exact BPost.mk (OwnB.none_ _ _) (Below.refl _ _),
    fun W _ => (nSafe_any W).mono fun e w' ⟨he, hw⟩ => by subst he hw; exact ⟨rfl, Below.refl _ _⟩, fun W _ => (nRoom_any W).mono fun e w' ⟨he, hw⟩ => by subst he hw; exact ⟨rfl, Below.refl _ _⟩, Nat.le_refl _, by simp⟩
section
variable {p0 d0 : Option Addr} {l : List Nat} {s R : Nat} {w : World} (h : JAsk p0 d0 l s R w)
include h
theorem jall_ask : Calls Try.prog 28 #[.pointer p0] w (JAllF (scan l).1 w) := jall_any p0 d0 l w (by have := h.few; omega) h.disk h.all
theorem jlen_ask : Calls Try.prog 29 #[.pointer p0] w (APost w (.int .i64 ((scan l).1.length : Nat))) := by
  have H := Lib.hid h
  clear h
  go_enter Try.func29, Try.ntmps29
  go_wp2_with fail
  refine (H.out.disk w (Below.refl _ _)).mono ?_
  rintro e w1 ⟨rfl, rfl⟩
  go_wp2_with fail
  refine (H.out.all w1 (Below.refl _ _)).mono ?_
  rintro e w2 ⟨A2, c2, rfl, ho2, hb2⟩
  have S2 := Lib.hid ho2.sls
  have B2 := Lib.hid hb2
  clear ho2 hb2
  go_wp2_with fail
  (with_reducible refine (jcount_any l.length c2 A2 l w2 S2.out (by have := H.out.few; omega)).mono ?_)
  rintro e w3 ⟨rfl, hb3⟩
  have B3 := Lib.hid (B2.out.trans (hb3.mono B2.out.size))
  clear hb3
  go_wp2_with fail
  go_ret
  exact ⟨rfl, B3.out⟩
theorem jroom_ask : Calls Try.prog 31 #[.pointer p0] w (APost w (.int .i64 (R : Nat))) := by
  have H := Lib.hid h
  clear h
  go_enter Try.func31, Try.ntmps31
  go_wp2_with fail
  refine (H.out.disk w (Below.refl _ _)).mono ?_
  rintro e w1 ⟨rfl, rfl⟩
  go_wp2_with fail
  refine (H.out.room w1 (Below.refl _ _)).mono ?_
  rintro e w2 ⟨rfl, hb2⟩
  have B2 := Lib.hid hb2
  clear hb2
  go_wp2_with fail
  go_ret
  exact ⟨rfl, B2.out⟩
theorem jsafe_ask : Calls Try.prog 30 #[.pointer p0] w (APost w (.int .i64 ((scan (l.take s)).1.length : Nat))) := by
  have H := Lib.hid h
  have hle := h.le
  have hfew := h.few
  have LT : Hid ((l.take s).length = s) := by show _ = s; rw [List.length_take]; omega
  clear h
  go_enter Try.func30, Try.ntmps30
  go_wp2_with fail
  refine (H.out.disk w (Below.refl _ _)).mono ?_
  rintro e w1 ⟨rfl, rfl⟩
  go_wp2_with fail
  refine (H.out.all w1 (Below.refl _ _)).mono ?_
  rintro e w2 ⟨A2, c2, rfl, ho2, hb2⟩
  have S2 := Lib.hid ho2.sls
  have B2 := Lib.hid hb2
  have hcap := ho2.sls.cap
  have hmax := ho2.sls.max
  unfold maxLen at hmax
  clear ho2 hb2
  go_wp2_with fail
  refine (H.out.safe w2 B2.out).mono ?_
  rintro e w3 ⟨rfl, hb3⟩
  have S3 := Lib.hid ((S2.out.on hb3).take (k := s) hle)
  have B3 := Lib.hid (B2.out.trans (hb3.mono B2.out.size))
  clear hb3 S2
  go_wp2_with fail
  (with_reducible refine (jcount_any s c2 A2 (l.take s) w3 S3.out (by omega)).mono ?_)
  rintro e w4 ⟨rfl, hb4⟩
  have B4 := Lib.hid (B3.out.trans (hb4.mono B3.out.size))
  clear hb4
  go_wp2_with fail
  go_ret
  exact ⟨rfl, B4.out⟩
/-- Put's frame, or why it may not be put. -/
theorem jfit_ask {d : Dk.St} (hR : d.room - d.l.length = R) (hok : Dk.Okay d) {a : Addr} (hd : d0 = some a) (n c : Nat) (A : Option Addr) (p : List Nat) (hs : Sl w A n c p) (hn : n ≤ 900000000) :
    Calls Try.prog 41 #[.pointer p0, .slice A n c] w fun e w' => ∃ A' c' f, e = .returned (.tuple #[.slice A' f.length c', .int .i64 (Jn.appE d p)]) ∧ OwnB w' w.heap.size (.slice A' f.length c') f ∧ (Jn.appE d p = 0 → f = fr p) ∧ Below w.heap.size w w' := by
  have H := Lib.hid h
  have HS := Lib.hid hs
  subst hd
  clear h hs
  unfold Dk.Okay at hok
  by_cases h0 : putE p = 0
  · have hp := Jn.put_ok h0
    have h2 := put_yes (b := []) hp.1 hp.2
    have HL : Hid (putL [] p = fr p) := by show putL [] p = fr p; rw [h2.2]; rfl
    have HE : Hid (Jn.appE d p = Dk.writeE d (fr p)) := by show Jn.appE d p = _; unfold Jn.appE; rw [if_neg (by omega)]
    have HF : Hid ((fr p).length = p.length + 6) := fr_length p
    have hfl : (fr p).length ≤ 1006 := by rw [HF.out]; omega
    clear h2
    go_enter Try.func41, Try.ntmps41
    go_wp2_with fail
    refine (H.out.disk w (Below.refl _ _)).mono ?_
    rintro e w1 ⟨rfl, rfl⟩
    go_wp2_with fail
    (with_reducible refine (fput_any 0 0 n c none A [] p w1 (Sl.none_ _) HS.out (by omega) hn).mono ?_)
    rintro e w2 ⟨A2, c2, rfl, ho2, hb2⟩
    rw [HL.out, h0] at *
    have O2 := Lib.hid ho2
    have B2 := Lib.hid hb2
    clear ho2 hb2
    obtain ⟨m, hm⟩ : ∃ m, m = (fr p).length := ⟨_, rfl⟩
    rw [← hm]
    have HM := Lib.hid hm
    rw [← hm] at hfl
    clear hm
    go_wp2_with fail
    refine (H.out.room w2 B2.out).mono ?_
    rintro e w3 ⟨rfl, hb3⟩
    have O3 := Lib.hid (O2.out.below hb3)
    have B3 := Lib.hid (B2.out.trans (hb3.mono B2.out.size))
    clear hb3
    by_cases hg : R < m
    · have HG : Hid (Dk.writeE d (fr p) = 4) := by show Dk.writeE d (fr p) = 4; unfold Dk.writeE; rw [if_neg]; unfold Dk.goes; rw [← HM.out]; omega
      go_wp2_with fail
      go_ret2
      refine ⟨none, 0, [], ?_, OwnB.none_ _ _, fun e => ?_, B3.out⟩
      · rw [HE.out, HG.out]; rfl
      · rw [HE.out, HG.out] at e; omega
    · have HG : Hid (Dk.writeE d (fr p) = 0) := by show Dk.writeE d (fr p) = 0; unfold Dk.writeE; rw [if_pos]; unfold Dk.goes; rw [← HM.out]; omega
      go_wp2_with fail
      go_ret2
      refine ⟨A2, c2, fr p, ?_, O3.out, fun _ => rfl, B3.out⟩
      rw [HE.out, HG.out, HM.out]; rfl
  · have HE : Hid (Jn.appE d p = (putE p : Nat)) := by show Jn.appE d p = _; unfold Jn.appE; rw [if_pos h0]
    have h1 : ((putE p : Nat) : Int) ≠ 0 := by omega
    have HB : Hid (((putE p : Nat) : Int) != 0) := by show (_ != _) = true; rw [bne_iff_ne]; exact h1
    have hbool := HB.out
    go_enter Try.func41, Try.ntmps41
    go_wp2_with fail
    refine (H.out.disk w (Below.refl _ _)).mono ?_
    rintro e w1 ⟨rfl, rfl⟩
    go_wp2_with fail
    (with_reducible refine (fput_any 0 0 n c none A [] p w1 (Sl.none_ _) HS.out (by omega) hn).mono ?_)
    rintro e w2 ⟨A2, c2, rfl, ho2, hb2⟩
    have B2 := Lib.hid hb2
    clear ho2 hb2
    generalize putE p = ee at *
    go_wp2_with fail
    go_ret2
    refine ⟨none, 0, [], ?_, OwnB.none_ _ _, fun e => ?_, B2.out⟩
    · rw [HE.out]; rfl
    · rw [HE.out] at e; exact absurd e h1
end
end Go.Proofs.Ytdamnamhbjfnlaa
