/-
  The walk of the statement FramePuts.
-/
import Derived.Test.YtinebeonnhfebaaFrLives
namespace Go.Proofs.Ytinebeonnhfebaa
open Go.RowKit Fr

theorem put_cases (b p : List Nat) : (putE p = 0 ∧ (putL b p).length = b.length + (p.length + 6) ∧ sizeN p.length = p.length + 6) ∨ (putE p ≠ 0 ∧ sizeN p.length = 0) := by
  by_cases h0 : p.length = 0
  · exact .inr ⟨by rw [(put_none (b := b) h0).1]; omega, sizeN_no (by omega)⟩
  · by_cases h1 : 1000 < p.length
    · exact .inr ⟨by rw [(put_over (b := b) h1).1]; omega, sizeN_no (by omega)⟩
    · have h := put_yes (b := b) h0 (by omega)
      exact .inl ⟨h.1, by rw [h.2, List.length_append, fr_length], sizeN_yes (by omega) (by omega)⟩
set_option maxRecDepth 100000 in
set_option maxHeartbeats 1600000 in
theorem puts_walk (n c m d : Nat) (A D : Option Addr) (b p : List Nat) (w : World) (h : Sl w A n c b) (h' : Sl w D m d p) :
    Calls Try.prog 3 #[.slice A n c, .slice D m d] w fun e w' => e = .returned (.bool true) ∧ Below w.heap.size w w' := by
  have hn := h.cap
  have hm := h.max
  have hn' := h'.cap
  have hm' := h'.max
  have HB := Lib.hid (h.take (k := min n 1100) (by omega)); clear h
  have HP := Lib.hid (h'.take (k := min m 1100) (by omega)); clear h'
  go_enter Try.func3, Try.ntmps3
  go_wp2_with fail
  (with_reducible refine (lives_at _ (Below.refl _ _)).mono ?_)
  rintro e w1 ⟨rfl, hb1⟩
  have B1 := Lib.hid hb1; clear hb1
  go_wp2_with fail
  (with_reducible refine (few_any n c A _ hn hm).mono ?_)
  rintro e w2 ⟨rfl, rfl⟩
  go_wp2_with fail
  (with_reducible refine (few_any m d D _ hn' hm').mono ?_)
  rintro e w2 ⟨rfl, rfl⟩
  clear hn hm hn' hm'
  have hn : min n 1100 ≤ 1100 := by omega
  have hm : min m 1100 ≤ 1100 := by omega
  generalize b.take (min n 1100) = b at *
  generalize p.take (min m 1100) = p at *
  generalize min n 1100 = n at *
  generalize min m 1100 = m at *
  have C2 := Lib.hid (fput_any n c m d A D b p w1 (HB.out.on B1.out) (HP.out.on B1.out) (by omega) (by omega))
  go_wp2_with fail
  (with_reducible refine C2.out.mono ?_)
  rintro e w2 ⟨A2, c2, rfl, ho2, hb2⟩
  have S2 := Lib.hid ho2.sls; clear ho2
  have B2 := Lib.hid (B1.out.trans (hb2.mono B1.out.size)); clear hb2
  have C3 := Lib.hid (frPut_any n c m d A D b p w2 (HB.out.on B2.out) (HP.out.on B2.out) (by omega) (by omega))
  obtain ⟨L, hL⟩ : ∃ L, L = putL b p := ⟨_, rfl⟩
  rw [← hL] at S2 ⊢
  obtain ⟨E, hE⟩ : ∃ E, E = putE p := ⟨_, rfl⟩
  rw [← hE]
  have HC := put_cases b p
  rw [← hL, ← hE, ← HB.out.len, ← HP.out.len] at HC
  have HL := Lib.hid hL; clear hL
  have HE := Lib.hid hE; clear hE
  have HC := Lib.hid HC
  clear C2
  go_wp2_with fail
  (with_reducible refine C3.out.mono ?_)
  rintro e w3 ⟨A3, c3, rfl, hs3, _, hb3⟩
  rw [← HL.out] at hs3 ⊢
  rw [← HE.out]
  have B3 := Lib.hid (B2.out.trans (hb3.mono B2.out.size))
  have hv1 := conv_rd (c := c2) (S2.out.on hb3).rd rfl
  have hv2 := conv_rd (c := c3) hs3.rd rfl
  have ht := txt_same L
  have CS : Hid (∀ W, Calls Try.prog 13 #[.int .i64 m] W fun e w' => e = .returned (.int .i64 ((sizeN m : Nat) : Int)) ∧ W = w') := fun W => fsize_any m W (by omega)
  clear hb3 hs3 S2 C3 HB HP
  have hLe : Hid (E = 0 → L.length ≤ 3000) := fun e => by rcases HC.out with h | h <;> omega
  rcases HC.out with ⟨h0, h1, h2⟩ | ⟨h0, h2⟩
  · subst h0
    have hx : ((m + 6 : Nat) : Int) = (L.length : Int) - (n : Int) := by omega
    rw [h2] at CS
    have HX := Lib.hid hx
    have h3 : L.length ≤ 3000 := hLe.out rfl
    have h4 : n ≤ L.length := by omega
    clear HC h1 h2 hx HL HE
    generalize L.length = k at *
    go_wp2_with fail
    (with_reducible refine (CS.out _).mono ?_)
    rintro e w4 ⟨rfl, rfl⟩
    rw [HX.out]
    go_wp2_with fail
    go_ret
    exact ⟨rfl, B3.out⟩
  · have h0' : (((E : Nat) : Int) == 0) = false := by rw [beq_eq_false_iff_ne]; omega
    rw [h2] at CS
    clear HC h2 HL HE h0 hLe
    go_wp2_with fail
    (with_reducible refine (CS.out _).mono ?_)
    rintro e w4 ⟨rfl, rfl⟩
    go_wp2_with fail
    go_ret
    exact ⟨rfl, B3.out⟩
end Go.Proofs.Ytinebeonnhfebaa
