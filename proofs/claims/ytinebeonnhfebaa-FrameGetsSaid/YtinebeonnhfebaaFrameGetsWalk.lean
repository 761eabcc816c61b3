/-
  The walk of the statement FrameGets.
-/
import Derived.Test.YtinebeonnhfebaaFrLives
namespace Go.Proofs.Ytinebeonnhfebaa
open Go.RowKit Fr

set_option maxRecDepth 100000 in
set_option maxHeartbeats 1600000 in
theorem gets_walk (n c : Nat) (A : Option Addr) (l : List Nat) (w : World) (h : Sl w A n c l) :
    Calls Try.prog 4 #[.slice A n c] w fun e w' => e = .returned (.bool true) ∧ Below w.heap.size w w' := by
  have hn := h.cap
  have hm := h.max
  have HB := Lib.hid (h.take (k := min n 1100) (by omega)); clear h
  go_enter Try.func4, Try.ntmps4
  go_wp2_with fail
  (with_reducible refine (lives_at _ (Below.refl _ _)).mono ?_)
  rintro e w1 ⟨rfl, hb1⟩
  have B1 := Lib.hid hb1; clear hb1
  go_wp2_with fail
  (with_reducible refine (few_any n c A _ hn hm).mono ?_)
  rintro e w2 ⟨rfl, rfl⟩
  clear hn hm
  have hn : min n 1100 ≤ 1100 := by omega
  generalize l.take (min n 1100) = l at *
  generalize min n 1100 = n at *
  have C2 := Lib.hid (fget_any n c A l w1 (HB.out.on B1.out) (by omega))
  go_wp2_with fail
  (with_reducible refine C2.out.mono ?_)
  rintro e w2 ⟨A2, c2, rfl, ho2, hb2⟩
  have S2 := Lib.hid ho2.sls; clear ho2 C2
  have B2 := Lib.hid (B1.out.trans (hb2.mono B1.out.size)); clear hb2 B1
  have C3 := Lib.hid (frGet_any n c A l w2 (HB.out.on B2.out) (by omega))
  obtain ⟨P, hP⟩ : ∃ P, P = gP l := ⟨_, rfl⟩
  rw [← hP] at S2 ⊢
  have HPe := Lib.hid hP; clear hP
  go_wp2_with fail
  (with_reducible refine C3.out.mono ?_)
  rintro e w3 ⟨A3, c3, rfl, hs3, _, hb3⟩
  rw [← HPe.out] at hs3 ⊢
  have S3 := Lib.hid hs3; clear hs3 C3
  have T3 := Lib.hid (S2.out.on hb3); clear S2
  have B3 := Lib.hid (B2.out.trans (hb3.mono B2.out.size)); clear hb3 B2
  have C4 := Lib.hid (fscan_any n c A l w3 (HB.out.on B3.out) (by omega))
  generalize gN l = x at *
  generalize gE l = y at *
  go_wp2_with fail
  (with_reducible refine C4.out.mono ?_)
  rintro e w4 ⟨A4, c4, rfl, ho4, hb4⟩
  obtain ⟨_, _, e4, hs4⟩ := ho4.sls
  injection e4 with e41 _ e43
  subst e41 e43
  have R4 := Lib.hid hs4; clear hs4 ho4 C4
  have S4 := Lib.hid (S3.out.on hb4); clear S3
  have T4 := Lib.hid (T3.out.on hb4); clear T3
  have B4 := Lib.hid (B3.out.trans (hb4.mono B3.out.size)); clear hb4 B3
  have C5 := Lib.hid (frScan_any n c A l w4 (HB.out.on B4.out) (by omega))
  obtain ⟨R, hR⟩ : ∃ R, R = (scan l).1 := ⟨_, rfl⟩
  rw [← hR] at R4 ⊢
  have HR := Lib.hid hR; clear hR
  go_wp2_with fail
  (with_reducible refine C5.out.mono ?_)
  rintro e w5 ⟨A5, c5, rfl, ho5, hb5⟩
  obtain ⟨_, _, e5, hs5⟩ := ho5.sls
  injection e5 with e51 _ e53
  subst e51 e53
  rw [← HR.out] at hs5 ⊢
  have Q5 := Lib.hid hs5; clear hs5 ho5 C5
  have R5 := Lib.hid (R4.out.on hb5); clear R4
  have S5 := Lib.hid (S4.out.on hb5); clear S4
  have T5 := Lib.hid (T4.out.on hb5); clear T4
  have B5 := Lib.hid (B4.out.trans (hb5.mono B4.out.size)); clear hb5 B4
  have C7 := Lib.hid (fun (W : World) (hb : Below w.heap.size w W) => fcount_any n c A l W (HB.out.on hb) (by omega))
  rw [← HR.out] at C7
  have hv1 := conv_rd (c := c2) T5.out.rd rfl
  have hv2 := conv_rd (c := c3) S5.out.rd rfl
  have ht := txt_same P
  have hRn : Hid (R.length ≤ 1000000000) := by
    show _ ≤ _
    have h1 := scan_count l
    rw [← HR.out, ← HB.out.len] at h1
    omega
  have C6 := Lib.hid (frSame_any R.length c4 c5 A4 A5 R w5 R5.out Q5.out hRn.out)
  generalize (scan l).2.1 = x2 at *
  generalize (scan l).2.2 = y2 at *
  generalize hz : R.length = z at *
  clear hz hRn R5 Q5
  go_wp2_with fail
  (with_reducible refine C6.out.mono ?_)
  rintro e w6 ⟨rfl, dd, rfl⟩
  have B6 := Lib.hid (below_drewN B5.out dd)
  generalize w5.drewN dd = w6 at *
  clear hv1 hv2
  go_wp2_with fail
  (with_reducible refine (C7.out _ B6.out).mono ?_)
  rintro e w7 ⟨rfl, hb7⟩
  have B7 := Lib.hid (B6.out.trans (hb7.mono B6.out.size)); clear hb7
  go_wp2_with fail
  go_ret
  exact ⟨rfl, B7.out⟩
end Go.Proofs.Ytinebeonnhfebaa
