/-
  The walk of the statement FrameBack.
-/
import Derived.Test.YtinebeonnhfebaaFrLives
namespace Go.Proofs.Ytinebeonnhfebaa
open Go.RowKit Fr

set_option maxRecDepth 100000 in
set_option maxHeartbeats 1600000 in
theorem back_walk (n c m d : Nat) (A D : Option Addr) (p r : List Nat) (w : World) (h : Sl w A n c p) (h' : Sl w D m d r) :
    Calls Try.prog 5 #[.slice A n c, .slice D m d] w fun e w' => e = .returned (.bool true) ∧ Below w.heap.size w w' := by
  have hn := h.cap
  have hm := h.max
  have hn' := h'.cap
  have hm' := h'.max
  have HB := Lib.hid (h.take (k := min n 1100) (by omega)); clear h
  have HP := Lib.hid (h'.take (k := min m 1100) (by omega)); clear h'
  go_enter Try.func5, Try.ntmps5
  go_wp2_with fail
  (with_reducible refine (lives_at _ (Below.refl _ _)).mono ?_)
  rintro e w1 ⟨rfl, hb1⟩
  have B1 := Lib.hid hb1; clear hb1
  go_wp2_with fail
  (with_reducible refine (few_any n c A _ hn hm).mono ?_)
  rintro e w2 ⟨rfl, rfl⟩
  go_wp2_with fail
  (with_reducible refine (few_any m d D _ hn' hm').mono ?_)
  rintro e w2 ⟨rfl, rfl⟩
  clear hn hm hn' hm'
  have hn : min n 1100 ≤ 1100 := by omega
  have hm : min m 1100 ≤ 1100 := by omega
  generalize p.take (min n 1100) = p at *
  generalize r.take (min m 1100) = r at *
  generalize min n 1100 = n at *
  generalize min m 1100 = m at *
  have C2 := Lib.hid (fput_any 0 0 n c none A [] p w1 (Sl.none_ _) (HB.out.on B1.out) (by omega) (by omega))
  have LP : Hid (n = p.length) := HB.out.len
  go_wp2_with fail
  (with_reducible refine C2.out.mono ?_)
  rintro e w2 ⟨A2, c2, rfl, ho2, hb2⟩
  have B2 := Lib.hid (B1.out.trans (hb2.mono B1.out.size)); clear hb2 B1 C2
  by_cases h0 : p.length = 0
  · have HX := Lib.hid (put_none (b := []) h0)
    rw [HX.out.1]
    rw [HX.out.2]
    have hn0 : n = 0 := by rw [LP.out]; exact h0
    subst hn0
    clear h0 ho2
    go_wp2_with fail
    go_ret
    exact ⟨rfl, B2.out⟩
  · by_cases h1 : 1000 < p.length
    · have HX := Lib.hid (put_over (b := []) h1)
      rw [HX.out.1]
      rw [HX.out.2]
      have hn0 : ((n : Int) == 0) = false := by rw [beq_eq_false_iff_ne, LP.out]; omega
      have hn1 : 1000 < n := by rw [LP.out]; omega
      clear h0 h1 ho2
      go_wp2_with fail
      go_ret
      exact ⟨ret_bool (decide_eq_true (by omega)), B2.out⟩
    · have HX := Lib.hid (put_yes (b := []) h0 (by omega))
      have hok : ok p := ⟨by omega, by omega, HB.out.rd.1⟩
      rw [HX.out.1]
      rw [HX.out.2] at ho2 ⊢
      rw [List.nil_append] at ho2 ⊢
      have S2 := Lib.hid ho2.sls; clear ho2
      have GE : Hid (gE (fr p ++ r) = 0) := gE_fr hok
      have GP : Hid (gP (fr p ++ r) = p) := gP_fr hok
      have GN : Hid (gN (fr p ++ r) = (fr p).length) := by show _ = _; rw [gN_fr hok, fr_length]
      have FL : Hid ((fr p).length ≤ 1006) := by show _ ≤ _; rw [fr_length]; omega
      generalize fr p = f at *
      have O0 := Lib.hid (OwnB.none_ w2 w.heap.size)
      have HL1 : Hid (([] : List Nat).length + f.length ≤ 140737488355328) := by show _ ≤ _; have := FL.out; simp; omega
      have HL2 : Hid (([] ++ f).length + r.length ≤ 140737488355328) := by show _ ≤ _; have := FL.out; have := HP.out.len; simp; omega
      clear h0 h1 hok
      go_wp2_with (at_builtin; first
        | (refine wpList_append_own_rd rfl (.tmp 37) (.tmp 38) rfl w.heap.size _ [] rfl O0.out f.length c2 A2 f rfl S2.out HL1.out B2.out.size ?_; intro v3 w3 ho3 hb3; have O3 := Lib.hid ho3; have B3 := Lib.hid (B2.out.trans hb3); clear ho3 hb3)
        | (refine wpList_append_own_rd rfl (.tmp 40) (.tmp 41) rfl w.heap.size _ ([] ++ f) rfl O3.out m d D r rfl (HP.out.on B3.out) HL2.out B3.out.size ?_; intro v4 w4 ho4 hb4; have O4 := Lib.hid ho4; have B4 := Lib.hid (B3.out.trans hb4); clear ho4 hb4))
      rw [List.nil_append] at O4
      obtain ⟨q, hq⟩ : ∃ q, q = f ++ r := ⟨_, rfl⟩
      rw [← hq] at O4 GE GP GN
      have QL : Hid (q.length ≤ 3000) := by show _ ≤ _; rw [hq, List.length_append]; have := FL.out; have := HP.out.len; omega
      obtain ⟨A4, c4, rfl, hs4⟩ := O4.out.sl
      have S4 := Lib.hid hs4; clear hs4 hq
      have C5 := Lib.hid (fget_any q.length c4 A4 q w4 S4.out (by have := QL.out; omega))
      go_wp2_with fail
      (with_reducible refine C5.out.mono ?_)
      rintro e w5 ⟨A5, c5, rfl, ho5, hb5⟩
      rw [GP.out] at ho5 ⊢
      rw [GE.out, GN.out]
      have B5 := Lib.hid (B4.out.trans (hb5.mono B4.out.size)); clear hb5
      have hv1 := conv_rd (c := c5) ho5.sls.rd rfl
      have hv2 := conv_rd (c := c) (HB.out.on B5.out).rd LP.out
      have ht := txt_same p
      clear ho5 C5 S4 O4 B4 O3 B3
      generalize p.length = z at *
      generalize f.length = y at *
      go_wp2_with fail
      go_ret
      exact ⟨rfl, B5.out⟩
end Go.Proofs.Ytinebeonnhfebaa
