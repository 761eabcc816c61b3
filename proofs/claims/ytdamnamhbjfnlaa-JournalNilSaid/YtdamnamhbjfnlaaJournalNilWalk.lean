/-
  The walk of the statement JournalNil.
-/
import Derived.Test.YtdamnamhbjfnlaaJrnlNil
import Derived.Test.YtdamnamhbjfnlaaJrnlC
import Derived.Test.YtdamnamhbjfnlaaJrnJB
namespace Go.Proofs.Ytdamnamhbjfnlaa
open Go.RowKit Fr
set_option linter.unusedSimpArgs false

/-- What such a journal answers to Append. -/
def nilE (n : Nat) : Int := if 1000 < n then 12 else if n = 0 then 1 else 4
theorem nil_appE {p : List Nat} (h : p.length ≤ 1000) : Jn.appE (Dk.new 0) p = nilE p.length := by
  unfold Jn.appE nilE
  by_cases h0 : p.length = 0
  · have : putE p = 1 := (put_none (b := []) h0).1
    rw [this, if_pos (by omega), if_neg (by omega), if_pos h0]
    rfl
  · have : putE p = 0 := (put_yes (b := []) h0 h).1
    rw [this, if_neg (by omega), if_neg (by omega), if_neg h0]
    unfold Dk.writeE
    rw [if_neg]
    unfold Dk.goes
    rw [fr_length]
    show ¬ (0 + (p.length + 6) ≤ 0)
    omega
theorem jRoom_none (w : World) : Calls Try.prog 31 #[.pointer none] w (APost w (.int .i64 0)) := jroom_ask (JAsk.none_ w)
set_option maxRecDepth 100000 in
set_option maxHeartbeats 3200000 in
theorem jnil_walk (n c : Nat) (A : Option Addr) (p : List Nat) (k : Int) (w : World) (h : Sl w A n c p) :
    Calls Try.prog 8 #[.slice A n c, .int .i64 k] w fun e w' => e = .returned (.bool true) ∧ Below w.heap.size w w' := by
  have H := Lib.hid h
  have HL := Lib.hid h.len
  clear h
  obtain ⟨want, hwant⟩ : ∃ want, want = nilE n := ⟨_, rfl⟩
  have HA : Hid (∀ (W : World) (q r : Nat) (X : Nat → Prop), Jrn W X q r (Dk.new 0) → (∀ i, W.heap.size ≤ i → X i) → Sl W A n c p → Calls Try.prog 16 #[.pointer (some ⟨q, 0, none⟩), .slice A n c] W fun e w' => e = .returned (.int .i64 want) ∧ (∃ d', Dk.St.room d' = 0 ∧ Jrn w' X q r d') ∧ Kept X W w') := fun W q r X hj hX hs => by
    by_cases hn : 1000 < n
    · refine (jAppend_long hj (A := A) (c := c) hn).mono ?_
      rintro e w' ⟨rfl, hb⟩
      refine ⟨?_, ⟨_, rfl, hj.below hb⟩, Kept.of_below hb⟩
      rw [hwant]; unfold nilE; rw [if_pos hn]
    · refine (jAppend_x hj hX hs (by omega)).mono ?_
      rintro e w' ⟨rfl, h1, h2⟩
      refine ⟨?_, ⟨_, ?_, h1⟩, h2⟩
      · rw [nil_appE (by rw [← HL.out]; omega), hwant, HL.out]
      · unfold Jn.app Dk.write
        split
        · rfl
        · split <;> rfl
  have HW : Hid (want = nilE n) := hwant
  clear hwant
  go_enter Try.func8, Try.ntmps8
  go_wp2_with fail
  (with_reducible refine (jlives_any jrn_keeps _).mono ?_)
  rintro e w1 ⟨rfl, hb1⟩
  have B1 := Lib.hid hb1
  clear hb1
  go_wp2_with fail
  refine (jOpen_none w1).mono ?_
  rintro e w2 ⟨q, r, z, rfl, hj2, hb2⟩
  have J2 := Lib.hid hj2
  have B2 := Lib.hid hb2
  have BB := Lib.hid (B1.out.trans (hb2.mono B1.out.size))
  have S2 := Lib.hid (H.out.on BB.out)
  have Z1 : Hid (w.heap.size ≤ w1.heap.size) := B1.out.size
  have Z2 : Hid (w1.heap.size ≤ w2.heap.size) := hb2.size
  clear hj2 hb2 B1 B2
  by_cases h1 : 1000 < n
  · have e1 : want = 12 := by rw [HW.out]; unfold nilE; rw [if_pos h1]
    have t1 : ((n : Int) == 0) = false := by rw [beq_eq_false_iff_ne]; omega
    subst e1
    clear HW HL H
    have BB2 := Lib.hid BB.out
    go_wp2_with fail
    refine (jAppend_none _ A n c).mono ?_
    rintro e w3 ⟨rfl, rfl⟩
    go_wp2_with fail
    refine (jTorn_none _ A n c k).mono ?_
    rintro e w4 ⟨rfl, rfl⟩
    go_wp2_with fail
    refine (jSync_none w4).mono ?_
    rintro e w5 ⟨rfl, hb5⟩
    have J5 := Lib.hid (J2.out.below hb5)
    have BB5 := Lib.hid (BB2.out.trans (hb5.mono BB2.out.size))
    have S5 := Lib.hid (S2.out.on hb5)
    have Z5 : Hid (w1.heap.size ≤ w5.heap.size) := Nat.le_trans Z2.out hb5.size
    clear hb5 J2 BB2 S2 Z2
    go_wp2_with fail
    refine (jCrash_none w5 k).mono ?_
    rintro e w6 ⟨rfl, hb6⟩
    have J6 := Lib.hid (J5.out.below hb6)
    have BB6 := Lib.hid (BB5.out.trans (hb6.mono BB5.out.size))
    have S6 := Lib.hid (S5.out.on hb6)
    have Z6 : Hid (w1.heap.size ≤ w6.heap.size) := Nat.le_trans Z5.out hb6.size
    clear hb6 J5 BB5 S5 Z5
    go_wp2_with fail
    refine (jSwap_none _ none 0 0).mono ?_
    rintro e w7 ⟨rfl, rfl⟩
    go_wp2_with fail
    refine (jAll_none w7).mono ?_
    rintro e w8 ⟨A8, c8, rfl, hb8⟩
    have J8 := Lib.hid (J6.out.below hb8)
    have BB8 := Lib.hid (BB6.out.trans (hb8.mono BB6.out.size))
    have S8 := Lib.hid (S6.out.on hb8)
    have Z8 : Hid (w1.heap.size ≤ w8.heap.size) := Nat.le_trans Z6.out hb8.size
    clear hb8 J6 BB6 S6 Z6
    go_wp2_with fail
    refine (jLen_none w8).mono ?_
    rintro e w9 ⟨rfl, hb9⟩
    have J9 := Lib.hid (J8.out.below hb9)
    have BB9 := Lib.hid (BB8.out.trans (hb9.mono BB8.out.size))
    have S9 := Lib.hid (S8.out.on hb9)
    have Z9 : Hid (w1.heap.size ≤ w9.heap.size) := Nat.le_trans Z8.out hb9.size
    clear hb9 J8 BB8 S8 Z8
    go_wp2_with fail
    refine (jSafe_none w9).mono ?_
    rintro e w10 ⟨rfl, hb10⟩
    have J10 := Lib.hid (J9.out.below hb10)
    have BB10 := Lib.hid (BB9.out.trans (hb10.mono BB9.out.size))
    have S10 := Lib.hid (S9.out.on hb10)
    have Z10 : Hid (w1.heap.size ≤ w10.heap.size) := Nat.le_trans Z9.out hb10.size
    clear hb10 J9 BB9 S9 Z9
    go_wp2_with fail
    refine (jRoom_none w10).mono ?_
    rintro e w11 ⟨rfl, hb11⟩
    have J11 := Lib.hid (J10.out.below hb11)
    have BB11 := Lib.hid (BB10.out.trans (hb11.mono BB10.out.size))
    have S11 := Lib.hid (S10.out.on hb11)
    have Z11 : Hid (w1.heap.size ≤ w11.heap.size) := Nat.le_trans Z10.out hb11.size
    clear hb11 J10 BB10 S10 Z10
    go_wp2_with fail
    refine (HA.out w11 q r _ J11.out (fun i hi => Nat.le_trans Z11.out hi) S11.out).mono ?_
    rintro e w12 ⟨rfl, ⟨d', hd', hj'⟩, hk'⟩
    have R12 := Lib.hid (jroom_ask hj'.ask)
    rw [hd', Nat.zero_sub] at R12
    have B12 := Lib.hid (BB11.out.trans (hk'.below BB11.out.size fun i hi => Nat.le_trans Z1.out hi))
    clear hd' hj' hk' HA
    go_wp2_with fail
    refine R12.out.mono ?_
    rintro e w13 ⟨rfl, hb13⟩
    have B13 := Lib.hid (B12.out.trans (hb13.mono B12.out.size))
    clear hb13 R12
    go_wp2_with fail
    go_ret
    exact ⟨rfl, B13.out⟩
  · by_cases h0 : n = 0
    · have e1 : want = 1 := by rw [HW.out]; unfold nilE; rw [if_neg h1, if_pos h0]
      subst e1 h0
      clear HW HL H h1
      have BB2 := Lib.hid BB.out
      go_wp2_with fail
      refine (jAppend_none _ A 0 c).mono ?_
      rintro e w3 ⟨rfl, rfl⟩
      go_wp2_with fail
      refine (jTorn_none _ A 0 c k).mono ?_
      rintro e w4 ⟨rfl, rfl⟩
      go_wp2_with fail
      refine (jSync_none w4).mono ?_
      rintro e w5 ⟨rfl, hb5⟩
      have J5 := Lib.hid (J2.out.below hb5)
      have BB5 := Lib.hid (BB2.out.trans (hb5.mono BB2.out.size))
      have S5 := Lib.hid (S2.out.on hb5)
      have Z5 : Hid (w1.heap.size ≤ w5.heap.size) := Nat.le_trans Z2.out hb5.size
      clear hb5 J2 BB2 S2 Z2
      go_wp2_with fail
      refine (jCrash_none w5 k).mono ?_
      rintro e w6 ⟨rfl, hb6⟩
      have J6 := Lib.hid (J5.out.below hb6)
      have BB6 := Lib.hid (BB5.out.trans (hb6.mono BB5.out.size))
      have S6 := Lib.hid (S5.out.on hb6)
      have Z6 : Hid (w1.heap.size ≤ w6.heap.size) := Nat.le_trans Z5.out hb6.size
      clear hb6 J5 BB5 S5 Z5
      go_wp2_with fail
      refine (jSwap_none _ none 0 0).mono ?_
      rintro e w7 ⟨rfl, rfl⟩
      go_wp2_with fail
      refine (jAll_none w7).mono ?_
      rintro e w8 ⟨A8, c8, rfl, hb8⟩
      have J8 := Lib.hid (J6.out.below hb8)
      have BB8 := Lib.hid (BB6.out.trans (hb8.mono BB6.out.size))
      have S8 := Lib.hid (S6.out.on hb8)
      have Z8 : Hid (w1.heap.size ≤ w8.heap.size) := Nat.le_trans Z6.out hb8.size
      clear hb8 J6 BB6 S6 Z6
      go_wp2_with fail
      refine (jLen_none w8).mono ?_
      rintro e w9 ⟨rfl, hb9⟩
      have J9 := Lib.hid (J8.out.below hb9)
      have BB9 := Lib.hid (BB8.out.trans (hb9.mono BB8.out.size))
      have S9 := Lib.hid (S8.out.on hb9)
      have Z9 : Hid (w1.heap.size ≤ w9.heap.size) := Nat.le_trans Z8.out hb9.size
      clear hb9 J8 BB8 S8 Z8
      go_wp2_with fail
      refine (jSafe_none w9).mono ?_
      rintro e w10 ⟨rfl, hb10⟩
      have J10 := Lib.hid (J9.out.below hb10)
      have BB10 := Lib.hid (BB9.out.trans (hb10.mono BB9.out.size))
      have S10 := Lib.hid (S9.out.on hb10)
      have Z10 : Hid (w1.heap.size ≤ w10.heap.size) := Nat.le_trans Z9.out hb10.size
      clear hb10 J9 BB9 S9 Z9
      go_wp2_with fail
      refine (jRoom_none w10).mono ?_
      rintro e w11 ⟨rfl, hb11⟩
      have J11 := Lib.hid (J10.out.below hb11)
      have BB11 := Lib.hid (BB10.out.trans (hb11.mono BB10.out.size))
      have S11 := Lib.hid (S10.out.on hb11)
      have Z11 : Hid (w1.heap.size ≤ w11.heap.size) := Nat.le_trans Z10.out hb11.size
      clear hb11 J10 BB10 S10 Z10
      go_wp2_with fail
      refine (HA.out w11 q r _ J11.out (fun i hi => Nat.le_trans Z11.out hi) S11.out).mono ?_
      rintro e w12 ⟨rfl, ⟨d', hd', hj'⟩, hk'⟩
      have R12 := Lib.hid (jroom_ask hj'.ask)
      rw [hd', Nat.zero_sub] at R12
      have B12 := Lib.hid (BB11.out.trans (hk'.below BB11.out.size fun i hi => Nat.le_trans Z1.out hi))
      clear hd' hj' hk' HA
      go_wp2_with fail
      refine R12.out.mono ?_
      rintro e w13 ⟨rfl, hb13⟩
      have B13 := Lib.hid (B12.out.trans (hb13.mono B12.out.size))
      clear hb13 R12
      go_wp2_with fail
      go_ret
      exact ⟨rfl, B13.out⟩
    · have e1 : want = 4 := by rw [HW.out]; unfold nilE; rw [if_neg h1, if_neg h0]
      have t1 : ((n : Int) == 0) = false := by rw [beq_eq_false_iff_ne]; omega
      subst e1
      clear HW HL H
      have BB2 := Lib.hid BB.out
      go_wp2_with fail
      refine (jAppend_none _ A n c).mono ?_
      rintro e w3 ⟨rfl, rfl⟩
      go_wp2_with fail
      refine (jTorn_none _ A n c k).mono ?_
      rintro e w4 ⟨rfl, rfl⟩
      go_wp2_with fail
      refine (jSync_none w4).mono ?_
      rintro e w5 ⟨rfl, hb5⟩
      have J5 := Lib.hid (J2.out.below hb5)
      have BB5 := Lib.hid (BB2.out.trans (hb5.mono BB2.out.size))
      have S5 := Lib.hid (S2.out.on hb5)
      have Z5 : Hid (w1.heap.size ≤ w5.heap.size) := Nat.le_trans Z2.out hb5.size
      clear hb5 J2 BB2 S2 Z2
      go_wp2_with fail
      refine (jCrash_none w5 k).mono ?_
      rintro e w6 ⟨rfl, hb6⟩
      have J6 := Lib.hid (J5.out.below hb6)
      have BB6 := Lib.hid (BB5.out.trans (hb6.mono BB5.out.size))
      have S6 := Lib.hid (S5.out.on hb6)
      have Z6 : Hid (w1.heap.size ≤ w6.heap.size) := Nat.le_trans Z5.out hb6.size
      clear hb6 J5 BB5 S5 Z5
      go_wp2_with fail
      refine (jSwap_none _ none 0 0).mono ?_
      rintro e w7 ⟨rfl, rfl⟩
      go_wp2_with fail
      refine (jAll_none w7).mono ?_
      rintro e w8 ⟨A8, c8, rfl, hb8⟩
      have J8 := Lib.hid (J6.out.below hb8)
      have BB8 := Lib.hid (BB6.out.trans (hb8.mono BB6.out.size))
      have S8 := Lib.hid (S6.out.on hb8)
      have Z8 : Hid (w1.heap.size ≤ w8.heap.size) := Nat.le_trans Z6.out hb8.size
      clear hb8 J6 BB6 S6 Z6
      go_wp2_with fail
      refine (jLen_none w8).mono ?_
      rintro e w9 ⟨rfl, hb9⟩
      have J9 := Lib.hid (J8.out.below hb9)
      have BB9 := Lib.hid (BB8.out.trans (hb9.mono BB8.out.size))
      have S9 := Lib.hid (S8.out.on hb9)
      have Z9 : Hid (w1.heap.size ≤ w9.heap.size) := Nat.le_trans Z8.out hb9.size
      clear hb9 J8 BB8 S8 Z8
      go_wp2_with fail
      refine (jSafe_none w9).mono ?_
      rintro e w10 ⟨rfl, hb10⟩
      have J10 := Lib.hid (J9.out.below hb10)
      have BB10 := Lib.hid (BB9.out.trans (hb10.mono BB9.out.size))
      have S10 := Lib.hid (S9.out.on hb10)
      have Z10 : Hid (w1.heap.size ≤ w10.heap.size) := Nat.le_trans Z9.out hb10.size
      clear hb10 J9 BB9 S9 Z9
      go_wp2_with fail
      refine (jRoom_none w10).mono ?_
      rintro e w11 ⟨rfl, hb11⟩
      have J11 := Lib.hid (J10.out.below hb11)
      have BB11 := Lib.hid (BB10.out.trans (hb11.mono BB10.out.size))
      have S11 := Lib.hid (S10.out.on hb11)
      have Z11 : Hid (w1.heap.size ≤ w11.heap.size) := Nat.le_trans Z10.out hb11.size
      clear hb11 J10 BB10 S10 Z10
      go_wp2_with fail
      refine (HA.out w11 q r _ J11.out (fun i hi => Nat.le_trans Z11.out hi) S11.out).mono ?_
      rintro e w12 ⟨rfl, ⟨d', hd', hj'⟩, hk'⟩
      have R12 := Lib.hid (jroom_ask hj'.ask)
      rw [hd', Nat.zero_sub] at R12
      have B12 := Lib.hid (BB11.out.trans (hk'.below BB11.out.size fun i hi => Nat.le_trans Z1.out hi))
      clear hd' hj' hk' HA
      go_wp2_with fail
      refine R12.out.mono ?_
      rintro e w13 ⟨rfl, hb13⟩
      have B13 := Lib.hid (B12.out.trans (hb13.mono B12.out.size))
      clear hb13 R12
      go_wp2_with fail
      go_ret
      exact ⟨rfl, B13.out⟩
end Go.Proofs.Ytdamnamhbjfnlaa
