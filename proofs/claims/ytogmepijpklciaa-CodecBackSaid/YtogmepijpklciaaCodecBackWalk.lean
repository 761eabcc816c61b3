/-
  The walk of the statement CodecBack.
-/
import Derived.Test.YtogmepijpklciaaCdcSame
namespace Go.Proofs.Ytogmepijpklciaa
open Go.RowKit Cdc

theorem below_r {w a b : World} {r : Nat} (h : Below w.heap.size w a) (g : a.grownBy b (some r)) (hr : w.heap.size ≤ r) : Below w.heap.size w b :=
  h.grown g h.size (fun k hk => by injection hk with hk; omega)
theorem rlist_back (W : World) (r : Nat) (ms : List Int) (ha : allOk ms = true) (hml : ms.length ≤ 64) (h : Rdr W r ⟨digs ms.length ++ (fl ms ++ []), 0⟩) :
    Calls Try.prog 27 #[.pointer (some ⟨r, 0, none⟩)] W fun e w' => ∃ A c, e = .returned (.slice A ms.length c) ∧ SlI w' A ms.length c ms ∧ Rdr w' r ⟨[], 0⟩ ∧ W.grownBy w' (some r) := by
  have hl : (digs ms.length ++ (fl ms ++ [])).length ≤ 1000000 := by
    have h1 := digs_nine (n := ms.length) (by omega)
    have h2 := fl_len ha ms.length (Nat.le_refl _)
    rw [List.take_length] at h2
    rw [List.append_nil, List.length_append]; omega
  have h1 := rlist_any W r _ h hl
  have h2 := list_back ha hml []
  unfold ListPost at h1
  refine h1.mono fun e w' hh => ?_
  obtain ⟨A, c, h3, h4, h5, h6⟩ := hh
  rw [h2.2] at h4
  have h7 := h4.len
  rw [h7] at h3 h4
  rw [h2.1] at h5
  exact ⟨A, c, h3, h4, h5, h6⟩

set_option maxRecDepth 100000 in
set_option maxHeartbeats 1600000 in
theorem back_walk (n : Int) (s : ByteArray) (k d : Nat) (D : Option Addr) (ns : List Int) (w : World) (hs : SlI w D k d ns) (hz : s.size ≤ maxLen) :
    Calls Try.prog 5 #[.int .i64 n, .string s, .slice D k d] w fun e w' => e = .returned (.bool true) ∧ Below w.heap.size w w' := by
  have S : Hid (SlI w D (min (k : Int) 64).toNat d (ns.take 64)) := by
    have h1 := hs.take 64
    rw [show (min (k : Int) 64).toNat = min k 64 from by omega]
    exact h1
  have HT : Hid ((s.extract 0 (min (s.size : Int) 64).toNat).size ≤ 64) := by
    show _ ≤ _
    rw [ByteArray.size_extract]; omega
  have HK : Hid ((min (k : Int) 64).toNat ≤ 64) := by show _ ≤ _; omega
  have hcap := hs.cap
  have hmx := hs.max
  unfold maxLen at hmx hz
  clear hs
  have m1 : (0 : Int) ≤ min (k : Int) 64 := by omega
  have m2 : min (k : Int) 64 ≤ (d : Int) := by omega
  have m3 : (0 : Int) ≤ min (s.size : Int) 64 := by omega
  have m4 : min (s.size : Int) 64 ≤ (s.size : Int) := by omega
  go_enter Try.func5, Try.ntmps5
  go_wp2_with fail
  refine (lives_at _ (Below.refl _ _)).mono ?_
  rintro e w1 ⟨rfl, hb1⟩
  have B1 := Lib.hid hb1; clear hb1
  go_wp2_with fail
  go_quiet (fail)
  clear m1 m2 m3 m4 hcap hmx
  have B2 := Lib.hid (below_drewN B1.out nq)
  clear B1
  generalize w1.drewN nq = w2 at *
  generalize s.extract 0 (min (s.size : Int) 64).toNat = t at *
  generalize (min (k : Int) 64).toNat = j at *
  generalize ns.take 64 = ms at *
  have hjl := S.out.len
  subst hjl
  have ht := HT.out
  have hj := HK.out
  clear HT HK hz
  have S2 := Lib.hid (S.out.on B2.out)
  obtain ⟨q3, hq3⟩ : ∃ q, q = numL [] n := ⟨_, rfl⟩
  have Q3 := Lib.hid hq3; clear hq3
  have C3 := Lib.hid (number_any 0 0 n none [] w2 (Sl.none_ _) (by omega))
  rw [← Q3.out] at C3
  go_wp2_with fail
  (with_reducible refine C3.out.mono ?_)
  rintro e w3 ⟨A3, c3, rfl, hs3, hb3, _⟩
  have T3 := Lib.hid hs3; clear hs3
  have B3 := Lib.hid (B2.out.trans (hb3.mono B2.out.size)); clear B2
  have S3 := Lib.hid (S2.out.on hb3); clear hb3 S2
  have L3 : Hid (q3.length ≤ 9) := by
    show _ ≤ _
    rw [Q3.out]
    unfold numL
    split
    · simp
    · rename_i h
      obtain ⟨m, rfl, hm⟩ := sz_pos h
      have := digs_nine (n := m) (by omega)
      simpa using this
  obtain ⟨q4, hq4⟩ : ∃ q, q = q3 ++ digs t.size ++ sb t := ⟨_, rfl⟩
  have Q4 := Lib.hid hq4; clear hq4
  have C4 := Lib.hid (text_yes _ c3 t A3 _ w3 T3.out (by have := L3.out; omega) ht)
  rw [← Q4.out] at C4
  go_wp2_with fail
  (with_reducible refine C4.out.mono ?_)
  rintro e w4 ⟨A4, c4, rfl, hs4, hb4, _⟩
  have T4 := Lib.hid hs4; clear hs4
  have B4 := Lib.hid (B3.out.trans (hb4.mono B3.out.size)); clear B3
  have S4 := Lib.hid (S3.out.on hb4); clear hb4 S3 T3
  have L4 : Hid (q4.length ≤ 100) := by
    show _ ≤ _
    rw [Q4.out]
    have h1 := digs_nine (n := t.size) (by omega)
    have h2 := L3.out
    rw [List.length_append, List.length_append, sb_length]; omega
  obtain ⟨q5, hq5⟩ : ∃ q, q = listL q4 ms := ⟨_, rfl⟩
  have Q5 := Lib.hid hq5; clear hq5
  have C5 := Lib.hid (list_any _ c4 ms.length d A4 D _ ms w4 T4.out (by have := L4.out; omega) S4.out)
  rw [← Q5.out] at C5
  go_wp2_with fail
  (with_reducible refine C5.out.mono ?_)
  rintro e w5 ⟨A5, c5, rfl, hs5, hb5, _⟩
  have T5 := Lib.hid hs5; clear hs5
  have B5 := Lib.hid (B4.out.trans (hb5.mono B4.out.size)); clear B4
  have S5 := Lib.hid (S4.out.on hb5); clear hb5 S4 T4
  have hml : ms.length ≤ 64 := hj
  by_cases hn : sz n = 0
  · rw [show numE n = 1 from by unfold numE; rw [if_pos hn]]
    have HG : Hid (listE ms = 0 ∨ listE ms = 1) := by
      show _ ∨ _
      unfold listE
      rw [if_pos hml]
      split
      · exact .inl rfl
      · exact .inr rfl
    by_cases h0 : n < 0
    · clear hn
      go_wp2_with fail
      go_ret
      exact ⟨rfl, B5.out⟩
    · have h1 : decide (4611686018427387903 < n) = true := by
        refine decide_eq_true ?_
        unfold sz at hn
        split at hn
        · have := digs_pos n.toNat; omega
        · omega
      have h0' : decide (n < 0) = false := decide_eq_false h0
      clear hn h0
      go_wp2_with fail
      go_ret
      exact ⟨rfl, B5.out⟩
  · obtain ⟨m, rfl, hm⟩ := sz_pos hn
    rw [show numE (m : Int) = 0 from by unfold numE; rw [if_neg hn]]
    by_cases ha : allOk ms = true
    · rw [show listE ms = 0 from by unfold listE; rw [if_pos hml, if_pos ha]]
      have HL : Hid (q5 = digs m ++ (digs t.size ++ (sb t ++ (digs ms.length ++ (fl ms ++ []))))) := by
        show _ = _
        rw [Q5.out, Q4.out, Q3.out]
        unfold listL numL
        rw [if_pos hml, if_pos ha, if_neg hn, Int.toNat_natCast]
        simp
      have V1 := Lib.hid (num_digs hm (digs t.size ++ (sb t ++ (digs ms.length ++ (fl ms ++ [])))))
      have V2 := Lib.hid (text_back t ht (digs ms.length ++ (fl ms ++ [])))
      have V3 := Lib.hid (list_back ha hml [])
      have HQ : Hid (q5.length ≤ 1000) := by
        show _ ≤ _
        rw [Q5.out]
        have h1 := L4.out
        have h2 := fl_len ha ms.length (Nat.le_refl _)
        rw [List.take_length] at h2
        have h3 := digs_nine (n := ms.length) (by omega)
        unfold listL
        rw [if_pos hml, if_pos ha, List.length_append, List.length_append]; omega
      have R0 := Lib.hid (fun W r (h : Rdr W r ⟨digs ms.length ++ (fl ms ++ []), 0⟩) => rlist_back W r ms ha hml h)
      clear hn ha L3 L4 C3 C4 C5
      go_wp2_with fail
      (with_reducible refine (reader_any _ c5 A5 q5 w5 T5.out (by have := HQ.out; omega)).mono ?_)
      rintro e w6 ⟨r, rfl, hr6, hge, hb6⟩
      have R6 := Lib.hid hr6; clear hr6
      rw [HL.out] at R6
      have HG := Lib.hid hge; clear hge
      have B6 := Lib.hid hb6; clear hb6
      have N6 := Lib.hid (numb_any w6 r _ R6.out (by have := HQ.out; rw [HL.out] at this; exact Nat.le_trans this (by omega)))
      rw [V1.out.1, V1.out.2] at N6
      go_wp2_with fail
      (with_reducible refine N6.out.mono ?_)
      rintro e w7 ⟨rfl, hr7, hg7⟩
      have R7 := Lib.hid hr7; clear hr7
      have B7 := Lib.hid (below_r B6.out hg7 HG.out); clear hg7 N6 R6 B6
      have N7 := Lib.hid (rtext_any w7 r _ R7.out (by have := HQ.out; rw [HL.out, List.length_append] at this; exact Nat.le_trans (Nat.le_trans (Nat.le_add_left _ _) this) (by omega)))
      unfold TextPost at N7
      rw [V2.out.1, V2.out.2, txt_sb] at N7
      go_wp2_with fail
      (with_reducible refine N7.out.mono ?_)
      rintro e w8 ⟨rfl, hr8, hg8⟩
      have R8 := Lib.hid hr8; clear hr8
      have B8 := Lib.hid (below_r B7.out hg8 HG.out); clear hg8 N7 R7 B7
      have N8 := Lib.hid (R0.out w8 r R8.out)
      go_wp2_with fail
      (with_reducible refine N8.out.mono ?_)
      rintro e w9 ⟨A9, c9, rfl, hs9, hr9, hg9⟩
      have S9 := Lib.hid hs9; clear hs9
      have R9 := Lib.hid hr9; clear hr9
      have B9 := Lib.hid (below_r B8.out hg9 HG.out); clear hg9 N8 R8 B8
      have SD := Lib.hid (S5.out.on B9.out)
      have tt : (t.toList == t.toList) = true := by simp
      go_wp2_with fail
      (with_reducible refine (same_any _ c9 d A9 D ms w9 S9.out SD.out (by omega)).mono ?_)
      rintro e w10 ⟨rfl, dd, rfl⟩
      have R10 := Lib.hid (R9.out.below (below_drewN (Below.refl _ _) dd))
      have BX := Lib.hid (B5.out.trans ((below_drewN B9.out dd).mono B5.out.size))
      clear S9 R9 B9 SD
      generalize w9.drewN dd = w10 at *
      go_wp2_with fail
      (with_reducible refine (end_any w10 r _ R10.out).mono ?_)
      rintro e w11 ⟨rfl, rfl⟩
      rw [show endE ⟨[], 0⟩ = 0 from rfl]
      go_wp2_with fail
      (with_reducible refine (left_any w10 r _ R10.out).mono ?_)
      rintro e w11 ⟨rfl, rfl⟩
      go_wp2_with fail
      go_ret
      exact ⟨rfl, BX.out⟩
    · rw [show listE ms = 1 from by unfold listE; rw [if_pos hml, if_neg ha]]
      clear hn ha hm
      go_wp2_with fail
      all_goals
        go_ret
        exact ⟨rfl, B5.out⟩
end Go.Proofs.Ytogmepijpklciaa
