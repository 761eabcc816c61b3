/-
  The walk of the statement CodecWrites.
-/
import Derived.Test.YtogmepijpklciaaCdcRef
namespace Go.Proofs.Ytogmepijpklciaa
open Go.RowKit Cdc

theorem sl_seven (w : World) : Sl (w.alloc (.cells #[.int .u8 7] 5)) (some ⟨w.heap.size, 0, none⟩) 1 1 [7] :=
  ⟨Rd.made [7] rfl (by decide), rfl, Nat.le_refl _, by unfold maxLen; omega, fun h => by cases h⟩
theorem numL_len {l : List Nat} {n : Int} (h : l.length ≤ 100) : (numL l n).length ≤ 109 := by
  unfold numL
  split
  · omega
  · rename_i hz
    obtain ⟨m, rfl, hm⟩ := sz_pos hz
    have := digs_nine (n := m) (by omega)
    rw [List.length_append, Int.toNat_natCast]; omega
theorem textL_len {l : List Nat} {s : ByteArray} (h : l.length ≤ 109) : (textL l s).length ≤ 182 := by
  unfold textL
  split
  · rename_i hz
    have := digs_nine (n := s.size) (by omega)
    rw [List.length_append, List.length_append, sb_length]; omega
  · omega

set_option maxRecDepth 100000 in
set_option maxHeartbeats 1600000 in
theorem writes_walk (n : Int) (s : ByteArray) (k d : Nat) (D : Option Addr) (ns : List Int) (w : World) (hs : SlI w D k d ns) (hz : s.size ≤ maxLen) :
    Calls Try.prog 3 #[.int .i64 n, .string s, .slice D k d] w fun e w' => e = .returned (.bool true) ∧ Below w.heap.size w w' := by
  have S : Hid (SlI w D (min (k : Int) 70).toNat d (ns.take 70)) := by
    have h1 := hs.take 70
    rw [show (min (k : Int) 70).toNat = min k 70 from by omega]
    exact h1
  have hcap := hs.cap
  have hmx := hs.max
  unfold maxLen at hmx hz
  clear hs
  have m1 : (0 : Int) ≤ min (k : Int) 70 := by omega
  have m2 : min (k : Int) 70 ≤ (d : Int) := by omega
  have m3 : (0 : Int) ≤ min (s.size : Int) 70 := by omega
  have m4 : min (s.size : Int) 70 ≤ (s.size : Int) := by omega
  go_enter Try.func3, Try.ntmps3
  go_wp2_with fail
  refine (lives_at _ (Below.refl _ _)).mono ?_
  rintro e w1 ⟨rfl, hb1⟩
  have B1 := Lib.hid hb1; clear hb1
  go_wp2_with fail
  go_quiet (fail)
  clear m1 m2 m3 m4 hcap hmx
  have B2 := Lib.hid (below_drewN B1.out nq)
  clear B1
  generalize w1.drewN nq = w2 at *
  generalize s.extract 0 (min (s.size : Int) 70).toNat = t at *
  generalize (min (k : Int) 70).toNat = j at *
  generalize ns.take 70 = ms at *
  clear hz
  have S2 := Lib.hid (S.out.on B2.out)
  obtain ⟨q3, hq3⟩ : ∃ q, q = numL [7] n := ⟨_, rfl⟩
  have Q3 := Lib.hid hq3; clear hq3
  have L3 : Hid (q3.length ≤ 109) := by show _ ≤ _; rw [Q3.out]; exact numL_len (by simp)
  have C3 := Lib.hid (number_any 1 1 n _ [7] _ (sl_seven w2) (by omega))
  rw [← Q3.out] at C3
  have A3' := Lib.hid ((Below.refl w2.heap.size w2).alloc (Nat.le_refl _) (.cells #[.int .u8 7] 5))
  go_wp2_with fail
  (with_reducible refine C3.out.mono ?_)
  rintro e w3 ⟨A3, c3, rfl, hs3, hb3, _⟩
  have T3 := Lib.hid hs3; clear hs3
  have hb3' := A3'.out.trans (hb3.mono (by simp))
  have B3 := Lib.hid (B2.out.trans (hb3'.mono B2.out.size)); clear B2
  have S3 := Lib.hid (S2.out.on hb3'); clear hb3 hb3' S2 A3' C3
  have C4 := Lib.hid (refNumber_any 1 1 n _ [7] _ (sl_seven w3) (by omega))
  rw [← Q3.out] at C4
  have A4' := Lib.hid ((Below.refl w3.heap.size w3).alloc (Nat.le_refl _) (.cells #[.int .u8 7] 5))
  go_wp2_with fail
  (with_reducible refine C4.out.mono ?_)
  rintro e w4 ⟨A4, c4, rfl, hs4, hb4⟩
  have U4 := Lib.hid hs4; clear hs4
  have hb4' := A4'.out.trans (hb4.mono (by simp))
  have T4 := Lib.hid (T3.out.on hb4')
  have B4 := Lib.hid (B3.out.trans (hb4'.mono B3.out.size)); clear B3
  have S4 := Lib.hid (S3.out.on hb4'); clear hb4 hb4' S3 A4' C4 T3
  obtain ⟨q5, hq5⟩ : ∃ q, q = textL q3 t := ⟨_, rfl⟩
  have Q5 := Lib.hid hq5; clear hq5
  have L5 : Hid (q5.length ≤ 182) := by show _ ≤ _; rw [Q5.out]; exact textL_len L3.out
  have C5 := Lib.hid (text_any _ c3 t A3 q3 w4 T4.out (by have := L3.out; omega))
  rw [← Q5.out] at C5
  go_wp2_with fail
  (with_reducible refine C5.out.mono ?_)
  rintro e w5 ⟨A5, c5, rfl, hs5, hb5, _⟩
  have V5 := Lib.hid hs5; clear hs5
  have T5 := Lib.hid (T4.out.on hb5)
  have U5 := Lib.hid (U4.out.on hb5)
  have B5 := Lib.hid (B4.out.trans (hb5.mono B4.out.size)); clear B4
  have S5 := Lib.hid (S4.out.on hb5); clear hb5 S4 C5 T4 U4
  have C6 := Lib.hid (refText_any _ c4 t A4 q3 w5 U5.out (by have := L3.out; omega))
  rw [← Q5.out] at C6
  go_wp2_with fail
  (with_reducible refine C6.out.mono ?_)
  rintro e w6 ⟨A6, c6, rfl, hs6, hb6⟩
  have W6 := Lib.hid hs6; clear hs6
  have V6 := Lib.hid (V5.out.on hb6)
  have T6 := Lib.hid (T5.out.on hb6)
  have U6 := Lib.hid (U5.out.on hb6)
  have B6 := Lib.hid (B5.out.trans (hb6.mono B5.out.size)); clear B5
  have S6 := Lib.hid (S5.out.on hb6); clear hb6 S5 C6 T5 U5 V5
  obtain ⟨q7, hq7⟩ : ∃ q, q = listL q5 ms := ⟨_, rfl⟩
  have Q7 := Lib.hid hq7; clear hq7
  have C7 := Lib.hid (list_any _ c5 j d A5 D q5 ms w6 V6.out (by have := L5.out; omega) S6.out)
  rw [← Q7.out] at C7
  go_wp2_with fail
  (with_reducible refine C7.out.mono ?_)
  rintro e w7 ⟨A7, c7, rfl, hs7, hb7, _⟩
  have X7 := Lib.hid hs7; clear hs7
  have W7 := Lib.hid (W6.out.on hb7)
  have V7 := Lib.hid (V6.out.on hb7)
  have T7 := Lib.hid (T6.out.on hb7)
  have U7 := Lib.hid (U6.out.on hb7)
  have B7 := Lib.hid (B6.out.trans (hb7.mono B6.out.size)); clear B6
  have S7 := Lib.hid (S6.out.on hb7); clear hb7 S6 C7 T6 U6 V6 W6
  have C8 := Lib.hid (refList_any _ c6 j d A6 D q5 ms w7 W7.out (by have := L5.out; omega) S7.out)
  rw [← Q7.out] at C8
  go_wp2_with fail
  (with_reducible refine C8.out.mono ?_)
  rintro e w8 ⟨A8, c8, rfl, hs8, hb8⟩
  have hv1 := conv_rd (c := c3) (T7.out.on hb8).rd rfl
  have hv2 := conv_rd (c := c4) (U7.out.on hb8).rd rfl
  have hv3 := conv_rd (c := c5) (V7.out.on hb8).rd rfl
  have hv4 := conv_rd (c := c6) (W7.out.on hb8).rd rfl
  have hv5 := conv_rd (c := c7) (X7.out.on hb8).rd rfl
  have hv6 := conv_rd (c := c8) hs8.rd rfl
  have B8 := Lib.hid (B7.out.trans (hb8.mono B7.out.size))
  have x3 := txt_same q3
  have x5 := txt_same q5
  have x7 := txt_same q7
  clear hb8 hs8 B7 S7 C8 T7 U7 V7 W7 X7
  by_cases hn : sz n = 0
  · have HN := Lib.hid hn
    rw [show numE n = 1 from by unfold numE; rw [if_pos hn]]
    clear hn
    go_wp2_with fail
    (with_reducible refine (size_any n w8).mono ?_)
    rintro e w9 ⟨rfl, rfl⟩
    rw [HN.out]
    go_wp2_with fail
    go_ret
    exact ⟨rfl, B8.out⟩
  · have HN : Hid (q3.length = sz n + 1) := by
      show _ = _
      obtain ⟨m, hm, hl⟩ := sz_pos hn
      rw [Q3.out]
      unfold numL
      rw [if_neg hn, hm, sz_yes hl, Int.toNat_natCast, List.length_append]
      simp; omega
    rw [show numE n = 0 from by unfold numE; rw [if_neg hn]]
    have h3 := L3.out
    have hp : 1 ≤ q3.length := by rw [HN.out]; omega
    have E1 : Hid (((sz n : Nat) : Int) = (q3.length : Int) - 1) := by show _ = _; have := HN.out; omega
    clear hn
    go_wp2_with fail
    (with_reducible refine (size_any n w8).mono ?_)
    rintro e w9 ⟨rfl, rfl⟩
    rw [E1.out]
    go_wp2_with fail
    go_ret
    exact ⟨rfl, B8.out⟩
end Go.Proofs.Ytogmepijpklciaa
