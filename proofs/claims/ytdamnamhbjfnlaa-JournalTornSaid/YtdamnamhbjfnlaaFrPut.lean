/-
  Size, whole, Put and Get of package frame: what they answer, from any world.
-/
import Derived.Test.YtdamnamhbjfnlaaFrMem
import Derived.Deep.QuietTactic
import Derived.BigQuiet
namespace Go.Proofs.Ytdamnamhbjfnlaa
open Go.RowKit Fr

set_option maxHeartbeats 400000 in
theorem fsize_any (n : Nat) (w : World) (hn : n ≤ 1000000000000) :
    Calls Try.prog 76 #[.int .i64 n] w fun e w' => e = .returned (.int .i64 ((sizeN n : Nat) : Int)) ∧ w = w' := by
  by_cases h1 : n < 1
  · have HS := Lib.hid (sizeN_no (.inl h1))
    obtain rfl : n = 0 := by omega
    go_enter Try.func76, Try.ntmps76
    go_wp2_with fail
    go_ret
    rw [HS.out]
    exact ⟨rfl, rfl⟩
  · have h1' : ¬ (n : Int) < 1 := by omega
    by_cases h2 : 1000 < n
    · have HS := Lib.hid (sizeN_no (n := n) (.inr h2))
      go_enter Try.func76, Try.ntmps76
      go_wp2_with fail
      go_ret
      rw [HS.out]
      exact ⟨rfl, rfl⟩
    · have HS := Lib.hid (sizeN_yes (n := n) (by omega) (by omega))
      have h2' : ¬ 1000 < (n : Int) := by omega
      go_enter Try.func76, Try.ntmps76
      go_wp2_with fail
      go_ret
      rw [HS.out]
      exact ⟨ret_int (by omega), rfl⟩

theorem ofInt_i64 (a : Nat) (ha : a < 9223372036854775808) : (BitVec.ofInt 64 (a : Int)).toNat = a := by
  rw [BitVec.ofInt_natCast, BitVec.toNat_ofNat]; exact Nat.mod_eq_of_lt (by omega)
theorem i64_or_nat (a b : Nat) (ha : a < 9223372036854775808) (hb : b < 9223372036854775808) : bits .or .i64 (a : Int) (b : Int) = ((a ||| b : Nat) : Int) := by
  have hx : a ||| b < 2 ^ 63 := Nat.or_lt_two_pow (by omega) (by omega)
  show IntKind.i64.wrap ((BitVec.ofInt 64 (a : Int) ||| BitVec.ofInt 64 (b : Int)).toNat : Int) = _
  rw [BitVec.toNat_or, ofInt_i64 a ha, ofInt_i64 b hb, IntKind.wrap_i64]
  omega
theorem or_two (a b : Nat) (ha : a < 256) (hb : b < 256) : bits .or .i64 ((a : Int) * 256) (b : Int) = ((a * 256 + b : Nat) : Int) := by
  rw [show (a : Int) * 256 = ((a * 256 : Nat) : Int) from by omega, i64_or_nat _ _ (by omega) (by omega)]
  congr 1
  exact nat_join 8 _ _ (by omega) (by omega)

set_option maxHeartbeats 1000000 in
theorem fwhole_any (n c : Nat) (A : Option Addr) (l : List Nat) (w : World) (h : Sl w A n c l) (hn : n ≤ 1000000000) :
    Calls Try.prog 71 #[.slice A n c] w fun e w' => e = .returned (.int .i64 ((whole l : Nat) : Int)) ∧ Below w.heap.size w w' := by
  have H := Lib.hid h
  have hlen := h.len
  by_cases h2 : n < 2
  · have HW : Hid (whole l = 0) := by show whole l = 0; unfold whole; rw [if_pos (by omega)]
    clear h hlen
    go_enter Try.func71, Try.ntmps71
    go_wp2_with fail
    go_ret
    rw [HW.out]
    exact ⟨rfl, Below.refl _ _⟩
  · have x0 := h.rd.byte 0
    have x1 := h.rd.byte 1
    obtain ⟨b, o, rfl, _, hc⟩ := h.rd.2 (by omega)
    have c0 := hc 0 (by omega)
    rw [Nat.add_zero] at c0
    have c1 := hc 1 (by omega)
    have HN : Hid (num2 l = l.getD 0 0 * 256 + l.getD 1 0) := rfl
    have HW : Hid (whole l = if n < sizeN (num2 l) then 0 else sizeN (num2 l)) := by show whole l = _; unfold whole; rw [if_neg (by omega), ← hlen]
    clear hc h hlen H
    generalize l.getD 0 0 = p at *
    generalize l.getD 1 0 = q at *
    have HO := or_two p q x0 x1
    rw [← HN.out] at HO
    have hnl : num2 l < 65536 := by rw [HN.out]; omega
    generalize num2 l = m at *
    have HC : Hid (∀ W, Calls Try.prog 76 #[.int .i64 m] W fun e w' => e = .returned (.int .i64 ((sizeN m : Nat) : Int)) ∧ w' = W) := fun W => same_of (fsize_any m W (by omega))
    have hsl := sizeN_le m
    generalize sizeN m = s at *
    by_cases hs : n < s
    · rw [if_pos hs] at HW
      go_enter Try.func71, Try.ntmps71
      go_wp2_with fail
      go_quiet ((go_at_call 76; exact Calls.quiet_of_same (HC.out _)))
      go_wp2_with fail
      go_ret
      rw [HW.out]
      exact ⟨rfl, Below.drewN (Below.refl _ _) _⟩
    · rw [if_neg hs] at HW
      go_enter Try.func71, Try.ntmps71
      go_wp2_with fail
      go_quiet ((go_at_call 76; exact Calls.quiet_of_same (HC.out _)))
      go_wp2_with fail
      go_ret
      rw [HW.out]
      exact ⟨rfl, Below.drewN (Below.refl _ _) _⟩

/-! Put. -/
def putE (p : List Nat) : Nat := if p.length = 0 then 1 else if 1000 < p.length then 12 else 0
def putL (b p : List Nat) : List Nat := if p.length = 0 ∨ 1000 < p.length then b else b ++ fr p
theorem put_none {b p : List Nat} (h : p.length = 0) : putE p = 1 ∧ putL b p = b := by unfold putE putL; rw [if_pos h, if_pos (.inl h)]; exact ⟨rfl, rfl⟩
theorem put_over {b p : List Nat} (h : 1000 < p.length) : putE p = 12 ∧ putL b p = b := by unfold putE putL; rw [if_neg (by omega), if_pos h, if_pos (.inr h)]; exact ⟨rfl, rfl⟩
theorem put_yes {b p : List Nat} (h : p.length ≠ 0) (h2 : p.length ≤ 1000) : putE p = 0 ∧ putL b p = b ++ fr p := by unfold putE putL; rw [if_neg h, if_neg (by omega), if_neg (by omega)]; exact ⟨rfl, rfl⟩
/-- What a call that makes bytes answers, with an error's number. -/
def BEPost (l : List Nat) (er : Nat) (w : World) (e : Ending) (w' : World) : Prop :=
  ∃ A c, e = .returned (.tuple #[.slice A l.length c, .int .i64 (er : Int)]) ∧ OwnB w' w.heap.size (.slice A l.length c) l ∧ Below w.heap.size w w'
theorem BEPost.mk {l : List Nat} {er : Nat} {w w' : World} {v : Value} {x : Int} (h : OwnB w' w.heap.size v l) (hx : x = (er : Int)) (hb : Below w.heap.size w w') : BEPost l er w (.returned (.tuple #[v, .int .i64 x])) w' := by
  obtain ⟨A, c, rfl, _⟩ := h.sl
  subst hx
  exact ⟨A, c, rfl, h, hb⟩
set_option maxHeartbeats 1000000 in
theorem fput_any (n c m d : Nat) (A D : Option Addr) (b p : List Nat) (w : World) (hb : Sl w A n c b) (hp : Sl w D m d p) (hn : n ≤ 900000000) (hm : m ≤ 900000000) :
    Calls Try.prog 50 #[.slice A n c, .slice D m d] w (BEPost (putL b p) (putE p) w) := by
  have hlp := hp.len
  have HB := Lib.hid hb
  have HP := Lib.hid hp
  clear hb hp
  by_cases h0 : m = 0
  · have HX := Lib.hid (put_none (b := b) (p := p) (by omega))
    subst h0
    clear hlp
    go_enter Try.func50, Try.ntmps50
    go_wp2_with fail
    (with_reducible refine (clone_any n c A b _ HB.out (by omega)).mono ?_)
    rintro e w1 ⟨A1, c1, rfl, ho, hb1⟩
    have O := Lib.hid ho; clear ho
    have B := Lib.hid hb1; clear hb1
    go_wp2_with fail
    go_ret2
    rw [HX.out.1, HX.out.2]
    exact BEPost.mk O.out rfl B.out
  · have e0 : ((m : Int) == 0) = false := by rw [beq_eq_false_iff_ne]; omega
    by_cases h1 : 1000 < m
    · have HX := Lib.hid (put_over (b := b) (p := p) (by omega))
      clear hlp h0
      go_enter Try.func50, Try.ntmps50
      go_wp2_with fail
      (with_reducible refine (clone_any n c A b _ HB.out (by omega)).mono ?_)
      rintro e w1 ⟨A1, c1, rfl, ho, hb1⟩
      have O := Lib.hid ho; clear ho
      have B := Lib.hid hb1; clear hb1
      go_wp2_with fail
      go_ret2
      rw [HX.out.1, HX.out.2]
      exact BEPost.mk O.out rfl B.out
    · have HX := Lib.hid (put_yes (b := b) (p := p) (by omega) (by omega))
      have LP := Lib.hid hlp
      have LB : Hid (n = b.length) := HB.out.len
      have h1' : m ≤ 1000 := by omega
      clear hlp h0 h1
      go_enter Try.func50, Try.ntmps50
      go_wp2_with fail
      have HS := Lib.hid (sl_two w (m / 256 % 256) (m % 256) (by omega) (by omega) ((m : Int) / 256) ((m : Int) % 256) (by omega) rfl)
      have B1 := Lib.hid ((Below.refl w.heap.size w).alloc (Nat.le_refl _) (.cells #[.int .u8 ((m : Int) / 256), .int .u8 ((m : Int) % 256)] 5))
      have hz1 : (w.alloc (.cells #[.int .u8 ((m : Int) / 256), .int .u8 ((m : Int) % 256)] 5)).heap.size = w.heap.size + 1 := by simp
      generalize w.alloc (.cells #[.int .u8 ((m : Int) / 256), .int .u8 ((m : Int) % 256)] 5) = w1 at *
      rw [← hz1]
      have Z1 := Lib.hid hz1; clear hz1
      have T1 := Lib.hid (SlS.two HS.out (HP.out.on B1.out))
      have C1 := Lib.hid (concat_any 2 2 _ _ _ T1.out (by have := LP.out; simp; omega) (by omega))
      have B2 := Lib.hid (B1.out.alloc B1.out.size (.cells #[.slice (some ⟨w.heap.size, 0, none⟩) 2 2, .slice D m d] 33))
      (with_reducible refine C1.out.mono ?_)
      rintro e w3 ⟨A3, c3, rfl, ho3, hb3⟩
      have B3 := Lib.hid (B2.out.trans (hb3.mono B2.out.size)); clear hb3
      have S3 := Lib.hid ho3.sls; clear ho3
      obtain ⟨q, hq⟩ : ∃ q, q = [[m / 256 % 256, m % 256], p].flatten := ⟨_, rfl⟩
      have Q : Hid (q = hd2 p.length ++ p) := by show q = _; rw [hq, LP.out]; simp [hd2]
      rw [← hq] at S3 ⊢
      have QL : Hid (q.length ≤ 1002) := by show _ ≤ _; rw [Q.out, List.length_append, hd2_length, ← LP.out]; omega
      clear hq HS B1 B2 T1 C1 Z1
      go_wp2_with fail
      have C4 := Lib.hid (seal_any q.length c3 A3 q w3 S3.out.rd rfl S3.out.nil (by have := QL.out; omega))
      (with_reducible refine C4.out.mono ?_)
      rintro e w4 ⟨g4, c4, rfl, ho4, hb4⟩
      have O4 : Hid (OwnB w4 w3.heap.size (.slice (some ⟨g4, 0, none⟩) (q.length + 4) c4) (fr p)) := by
        have e4 : fr p = q ++ be4 (Crc.sum q) := by rw [Q.out]; rfl
        have l4 : (fr p).length = q.length + 4 := by rw [e4, List.length_append, be4_length]
        refine ⟨by rw [l4, e4]; exact ho4, ?_⟩
        exact fr_byte HP.out.rd.1
      have B4 := Lib.hid (B3.out.trans (hb4.mono B3.out.size)); clear hb4 ho4
      clear C4 S3 B3
      have SB := Lib.hid (HB.out.on B4.out)
      have S4 := Lib.hid O4.out.sls
      have T4 := Lib.hid (SlS.two SB.out S4.out)
      go_wp2_with fail
      have C5 := Lib.hid (concat_any 2 2 _ _ _ T4.out (by have := QL.out; have := LB.out; have := LP.out; simp [fr_length]; omega) (by omega))
      have B5 := Lib.hid (B4.out.alloc B4.out.size (.cells #[.slice A n c, .slice (some ⟨g4, 0, none⟩) (q.length + 4) c4] 33))
      (with_reducible refine C5.out.mono ?_)
      rintro e w6 ⟨A6, c6, rfl, ho6, hb6⟩
      have O6 := Lib.hid ho6; clear ho6
      have B6 := Lib.hid (B5.out.trans (hb6.mono B5.out.size)); clear hb6
      obtain ⟨r, hr⟩ : ∃ r, r = [b, fr p].flatten := ⟨_, rfl⟩
      rw [← hr] at O6 ⊢
      have R : Hid (r = b ++ fr p) := by show r = _; rw [hr]; simp
      clear hr
      go_wp2_with fail
      go_ret2
      rw [HX.out.1, HX.out.2, ← R.out]
      refine BEPost.mk ?_ rfl B6.out
      have hsz : w.heap.size ≤ (w4.alloc (.cells #[.slice A n c, .slice (some ⟨g4, 0, none⟩) (q.length + 4) c4] 33)).heap.size := B5.out.size
      exact O6.out.lower hsz

/-! Get. -/
/-- What Get answers. -/
def FGPost (l : List Nat) (w : World) (e : Ending) (w' : World) : Prop :=
  ∃ A c, e = .returned (.tuple #[.slice A (gP l).length c, .int .i64 ((gN l : Nat) : Int), .int .i64 ((gE l : Nat) : Int)]) ∧ OwnB w' w.heap.size (.slice A (gP l).length c) (gP l) ∧ Below w.heap.size w w'
theorem FGPost.mk {l : List Nat} {w w' : World} {v : Value} {x y : Int} (h : OwnB w' w.heap.size v (gP l)) (hx : x = (gN l : Nat)) (hy : y = (gE l : Nat)) (hb : Below w.heap.size w w') : FGPost l w (.returned (.tuple #[v, .int .i64 x, .int .i64 y])) w' := by
  obtain ⟨A, c, rfl, _⟩ := h.sl
  subst hx hy
  exact ⟨A, c, rfl, h, hb⟩
theorem get_no {l : List Nat} (h : gE l ≠ 0) : gP l = [] ∧ gN l = 0 := by unfold gP gN; rw [if_neg h, if_neg h]; exact ⟨rfl, rfl⟩
theorem get_yes {l : List Nat} (h : gE l = 0) : gP l = (l.take (whole l - 4)).drop 2 ∧ gN l = whole l := by unfold gP gN; rw [if_pos h, if_pos h]; exact ⟨rfl, rfl⟩

set_option maxHeartbeats 1000000 in
theorem fget_any (n c : Nat) (A : Option Addr) (l : List Nat) (w : World) (h : Sl w A n c l) (hn : n ≤ 1000000000) :
    Calls Try.prog 66 #[.slice A n c] w (FGPost l w) := by
  have H := Lib.hid h
  have hlen := h.len
  have hcap := h.cap
  have hmax := h.max
  unfold maxLen at hmax
  have hw := whole_cases l
  have HC := Lib.hid (fwhole_any n c A l w h hn)
  by_cases h0 : whole l = 0
  · have HE := Lib.hid (gE_two h0)
    have HX := Lib.hid (get_no (l := l) (by rw [HE.out]; omega))
    rw [h0] at HC
    clear h hlen hcap hmax hw h0
    go_enter Try.func66, Try.ntmps66
    go_wp2_with fail
    (with_reducible refine HC.out.mono ?_)
    rintro e w1 ⟨rfl, hb1⟩
    have B1 := Lib.hid hb1; clear hb1
    go_wp2_with fail
    go_ret3
    refine FGPost.mk ?_ ?_ ?_ B1.out
    · rw [HX.out.1]; exact OwnB.none_ _ _
    · rw [HX.out.2]; rfl
    · rw [HE.out]; rfl
  · obtain ⟨h7, h6, hle, hnm⟩ : 7 ≤ whole l ∧ whole l ≤ 1006 ∧ whole l ≤ l.length ∧ whole l = num2 l + 6 := by
      rcases hw with hw | hw
      · exact absurd hw h0
      · exact hw
    have HT := Lib.hid (h.take (k := whole l) (by omega))
    have HY : Hid (good (l.take (whole l)) = true → gE l = 0) := fun hg => gE_yes h0 hg
    have HZ : Hid (good (l.take (whole l)) = false → gE l = 3) := fun hg => gE_three h0 hg
    have HV : Hid (gE l = 0 → gP l = (l.take (whole l - 4)).drop 2 ∧ gN l = whole l) := get_yes
    have HL : Hid ((l.take (whole l)).length ≤ 100000) := by show _ ≤ _; rw [List.length_take]; omega
    have HD := Lib.hid ((h.take (k := whole l - 4) (by omega)).drop (k := 2) (by omega) (by omega))
    have hwn : whole l ≤ n := by omega
    clear hw hnm hle h0 hlen h
    generalize whole l = W at *
    generalize l.take W = t at *
    obtain ⟨g, hg⟩ : ∃ g, good t = g := ⟨_, rfl⟩
    have HG := Lib.hid hg; clear hg
    have hw0 : ((W : Int) == 0) = false := by rw [beq_eq_false_iff_ne]; omega
    have GC := fun (W' : World) (hb : Below w.heap.size w W') => (good_at W' HT.out HL.out hb)
    rw [HG.out] at HY HZ
    simp only [HG.out] at GC
    have GC := Lib.hid GC
    cases g
    · have HE := Lib.hid (HZ.out rfl)
      have HX := Lib.hid (get_no (l := l) (by rw [HE.out]; omega))
      go_enter Try.func66, Try.ntmps66
      go_wp2_with fail
      (with_reducible refine HC.out.mono ?_)
      rintro e w1 ⟨rfl, hb1⟩
      have B1 := Lib.hid hb1; clear hb1
      go_wp2_with fail
      (with_reducible refine (GC.out _ B1.out).mono ?_)
      rintro e w2 ⟨rfl, hb2⟩
      have B2 := Lib.hid hb2; clear hb2
      go_wp2_with fail
      go_ret3
      refine FGPost.mk ?_ ?_ ?_ B2.out
      · rw [HX.out.1]; exact OwnB.none_ _ _
      · rw [HX.out.2]; rfl
      · rw [HE.out]; rfl
    · have HE := Lib.hid (HY.out rfl)
      have HX := Lib.hid (HV.out HE.out)
      rw [← HX.out.1] at HD
      have hP : (gP l).length ≤ 100000 := by rw [← HD.out.len]; omega
      obtain ⟨P, hPe⟩ : ∃ P, P = gP l := ⟨_, rfl⟩
      rw [← hPe] at HD hP
      have PE := Lib.hid hPe; clear hPe
      go_enter Try.func66, Try.ntmps66
      go_wp2_with fail
      (with_reducible refine HC.out.mono ?_)
      rintro e w1 ⟨rfl, hb1⟩
      have B1 := Lib.hid hb1; clear hb1
      go_wp2_with fail
      (with_reducible refine (GC.out _ B1.out).mono ?_)
      rintro e w2 ⟨rfl, hb2⟩
      have B2 := Lib.hid hb2; clear hb2
      go_wp2_with fail
      have e2 : (fun x : Addr => x.add 2) = fun x => { block := x.block, off := x.off + 2 } := by funext x; simp [Addr.add]
      rw [e2] at HD
      have C3 := Lib.hid (clone_any _ _ _ P w2 (HD.out.on B2.out) (by omega))
      (with_reducible refine C3.out.mono ?_)
      rintro e w3 ⟨A3, c3, rfl, ho, hb3⟩
      have O := Lib.hid ho; clear ho
      have B3 := Lib.hid (B2.out.trans (hb3.mono B2.out.size)); clear hb3
      clear C3 e2
      go_wp2_with fail
      go_ret3
      refine FGPost.mk ?_ ?_ ?_ B3.out
      · rw [← PE.out]; exact O.out.lower B2.out.size
      · rw [HX.out.2]
      · rw [HE.out]; rfl
end Go.Proofs.Ytdamnamhbjfnlaa
