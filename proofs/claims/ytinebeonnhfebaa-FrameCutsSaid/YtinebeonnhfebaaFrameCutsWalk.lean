/-
  The walk of the statement FrameCuts.
-/
import Derived.Test.YtinebeonnhfebaaFrLives
import Derived.Deep.Cut
namespace Go.Proofs.Ytinebeonnhfebaa
open Go.RowKit Fr

set_option maxRecDepth 100000 in
set_option maxHeartbeats 3200000 in
theorem cuts_walk (n c : Nat) (A : Option Addr) (xs : List (List Nat)) (at_ : Int) (w : World) (h : SlS w A n c xs) :
    Calls Try.prog 6 #[.slice A n c, .int .i64 at_] w fun e w' => e = .returned (.bool true) ∧ Below w.heap.size w w' := by
  have HX := Lib.hid h; clear h
  go_enter Try.func6, Try.ntmps6
  go_wp2_with fail
  (with_reducible refine (lives_at _ (Below.refl _ _)).mono ?_)
  rintro e w1 ⟨rfl, hb1⟩
  have B1 := Lib.hid hb1; clear hb1
  have C2 : Hid (Calls Try.prog 20 #[.slice A n c, .int .i64 8] w1 (FMPost 8 w1)) := frMake_any n c 8 A xs w1 (HX.out.on B1.out) (by omega)
  go_wp2_with fail
  (with_reducible refine C2.out.mono ?_)
  rintro e w2 ⟨A2, c2, own, rfl, ho2, hok2, hl2, hb2⟩
  obtain ⟨_, _, e2, hs2⟩ := ho2.sls
  injection e2 with e21 _ e23
  subst e21 e23
  have B2 := Lib.hid (B1.out.trans (hb2.mono B1.out.size)); clear hb2 B1 ho2 C2 HX
  have S2 := Lib.hid hs2; clear hs2
  have K2 := Lib.hid hok2; clear hok2
  have L2 := Lib.hid hl2; clear hl2
  have HA : Hid ((all own).length ≤ 288) := by show _ ≤ _; have := all_small (fun p hp => (K2.out p hp).2); have := L2.out; omega
  have C3 := Lib.hid (frAll_any own.length c2 A2 own w2 S2.out (fun p hp => (K2.out p hp).1) (by have := HA.out; omega))
  go_wp2_with fail
  (with_reducible refine C3.out.mono ?_)
  rintro e w3 ⟨A3, c3, rfl, ho3, hb3⟩
  have S3 := Lib.hid ho3.sls; clear ho3 C3
  have R3 := Lib.hid (S2.out.on hb3); clear S2
  have B3 := Lib.hid (B2.out.trans (hb3.mono B2.out.size)); clear hb3 B2
  have WH := Lib.hid (scan_whole (fun p hp => (K2.out p hp).1))
  have CA := Lib.hid (cut_any (fun p hp => (K2.out p hp).1))
  obtain ⟨q, hq⟩ : ∃ q, q = all own := ⟨_, rfl⟩
  rw [← hq] at S3 HA WH CA ⊢
  have Q := Lib.hid hq; clear hq
  have hql := HA.out
  generalize hz : q.length = z at *
  have ZL := Lib.hid hz; clear hz
  go_upto_region 6 with (fail)
  obtain ⟨k, hke, hkm⟩ := mod_at at_ (z + 1) (by omega) (by omega)
  rw [show ((z : Int) + 1) = ((z + 1 : Nat) : Int) from by omega, hke]
  clear hke
  generalize (IntKind.u64.wrap at_).tmod ((z + 1 : Nat) : Int) = q1
  generalize IntKind.u64.wrap at_ = q2
  generalize ((z + 1 : Nat) : Int) = q3
  obtain ⟨j, m, hj, hm, hmk, hsc, hnext⟩ := CA.out k (by omega)
  have SK := Lib.hid (S3.out.take (k := k) (by omega))
  have HSC := Lib.hid hsc; clear hsc
  have HJ : Hid ((own.take j).length = j) := by show _ = _; rw [List.length_take]; omega
  have HE : Hid (j = own.length → m = k) := fun e => by
    have h1 : all (own.take j) = q := by rw [e, List.take_length, Q.out]
    rw [h1, ZL.out] at hm
    omega
  have HM : Hid (∀ W, SlS W A2 own.length c2 own → SlS W A2 j c2 (own.take j)) := fun W hs => hs.take (by omega)
  have HNX := Lib.hid hnext
  have ZC := (S3.out.cap)
  have ZM := (S3.out.max)
  unfold maxLen at ZM
  clear hm hnext CA
  obtain ⟨G, hG⟩ : ∃ G, G = own.take j := ⟨_, rfl⟩
  rw [← hG] at HSC HJ HM
  have GE := Lib.hid hG; clear hG
  have C4 := Lib.hid (fscan_any k c3 A3 _ w3 SK.out (by omega))
  go_wp2_with fail
  (with_reducible refine C4.out.mono ?_)
  rintro e w4 ⟨A4, c4, rfl, ho4, hb4⟩
  rw [HSC.out] at ho4 ⊢
  obtain ⟨_, _, e4, hs4⟩ := ho4.sls
  injection e4 with e41 _ e43
  subst e41 e43
  simp only at hs4 ⊢
  rw [HJ.out] at hs4 ⊢
  have G4 := Lib.hid hs4; clear hs4 ho4 C4 SK
  have S4 := Lib.hid (S3.out.on hb4); clear S3
  have R4 := Lib.hid (R3.out.on hb4); clear R3
  have B4 := Lib.hid (B3.out.trans (hb4.mono B3.out.size)); clear hb4 B3
  have C5 := Lib.hid (fscan_any z c3 A3 q w4 S4.out (by omega))
  generalize hee : (if m = k then 0 else 2 : Nat) = ee at *
  have EE := Lib.hid hee; clear hee
  go_wp2_with fail
  (with_reducible refine C5.out.mono ?_)
  rintro e w5 ⟨A5, c5, rfl, ho5, hb5⟩
  rw [WH.out] at ho5 ⊢
  obtain ⟨_, _, e5, hs5⟩ := ho5.sls
  injection e5 with e51 _ e53
  subst e51 e53
  simp only at hs5 ⊢
  have G5 := Lib.hid hs5; clear hs5 ho5 C5
  have R5 := Lib.hid (R4.out.on hb5); clear R4
  have X5 := Lib.hid (G4.out.on hb5); clear G4
  have B5 := Lib.hid (B4.out.trans (hb5.mono B4.out.size)); clear hb5 B4 S4
  have hl8 := L2.out
  have C6 := Lib.hid (frSame_any own.length c5 c2 A5 A2 own w5 G5.out R5.out (by omega))
  have hcap2 := R5.out.cap
  have hmax2 := R5.out.max
  unfold maxLen at hmax2
  obtain ⟨y, hy⟩ : ∃ y, y = own.length := ⟨_, rfl⟩
  rw [← hy] at R5 C6 HM HE HNX hj hl8 hcap2 ⊢
  have YL := Lib.hid hy; clear hy G5
  have DX := Lib.hid (fun d => below_drewN (Below.refl w5.heap.size w5) d)
  go_wp2_with fail
  (with_reducible refine C6.out.mono ?_)
  rintro e w6 ⟨rfl, dd, rfl⟩
  have R6 := Lib.hid (R5.out.on (DX.out dd))
  have X6 := Lib.hid (X5.out.on (DX.out dd))
  have B6 := Lib.hid (below_drewN B5.out dd)
  clear R5 X5 B5 C6 DX
  generalize w5.drewN dd = w6 at *
  have C7 := Lib.hid (frSame_any j c4 c2 A4 A2 G w6 X6.out (HM.out w6 R6.out) (by omega))
  have hzz : ((z : Int) != (z : Int)) = false := by simp
  have hjy : decide ((y : Int) < (j : Int)) = false := decide_eq_false (by omega)
  have hmk2 : decide ((k : Int) < (m : Int)) = false := decide_eq_false (by omega)
  have jc : (j : Int) ≤ (c2 : Int) := by omega
  have hcase : (j < y ∧ m = k) ∨ (j < y ∧ m ≠ k) ∨ (j = y ∧ m = k) := by
    rcases Nat.lt_or_ge j y with h1 | h1
    · by_cases h2 : m = k
      · exact .inl ⟨h1, h2⟩
      · exact .inr (.inl ⟨h1, h2⟩)
    · have h3 : j = y := by omega
      exact .inr (.inr ⟨h3, HE.out h3⟩)
  have hcell : j < y → ∃ b o A' n' c', A2 = some ⟨b, o, none⟩ ∧ w6.cell? ⟨b, o + j, none⟩ = some (.slice A' n' c') ∧ k < m + (n' + 6) ∧ 1 ≤ n' ∧ n' ≤ 30 := fun h1 => by
    obtain ⟨b, o, hA2, _, hc⟩ := R6.out.rd (by rw [← YL.out]; omega)
    obtain ⟨A', n', c', hck, hs'⟩ := hc j (by rw [← YL.out]; exact h1)
    have hin : own.getD j [] ∈ own := by rw [getD_at (by rw [← YL.out]; exact h1)]; exact List.getElem_mem _
    have h2 := HNX.out h1
    have h3 := K2.out _ hin
    have h4 := h3.1.1
    rw [← hs'.len] at h2 h3 h4
    exact ⟨b, o, A', n', c', hA2, hck, h2, h4, h3.2⟩
  have CS : Hid (∀ (n' : Nat), 1 ≤ n' → n' ≤ 30 → ∀ W, Calls Try.prog 13 #[.int .i64 n'] W fun e w' => e = .returned (.int .i64 ((n' + 6 : Nat) : Int)) ∧ W = w') := fun n' g1 g2 W => by
    have := fsize_any n' W (by omega)
    rwa [sizeN_yes g1 (by omega)] at this
  clear hcap2 hmax2
  rcases hcase with ⟨h1, h2⟩ | ⟨h1, h2⟩ | ⟨h1, h2⟩
  · subst h2
    have he0 : ee = 0 := by rw [← EE.out, if_pos rfl]
    subst he0
    obtain ⟨b, o, A', n', c', rfl, hck, hlt, g1, g2⟩ := hcell h1
    have C8 := Lib.hid (CS.out n' g1 g2)
    have i1 : (0 : Int) ≤ (j : Int) := by omega
    have i2 : (j : Int) < (y : Int) := by omega
    have hjy2 : ((j : Int) == (y : Int)) = false := by rw [beq_eq_false_iff_ne]; omega
    have hk1 : decide ((m : Int) < (m : Int) + ((n' : Int) + 6)) = true := decide_eq_true (by omega)
    clear EE hcell CS hlt
    go_wp2_with fail
    (with_reducible refine C7.out.mono ?_)
    rintro e w7 ⟨rfl, dd2, rfl⟩
    have B7 := Lib.hid (below_drewN B6.out dd2)
    go_wp2_with fail
    (with_reducible refine (C8.out _).mono ?_)
    rintro e w8 ⟨rfl, rfl⟩
    go_wp2_with fail
    go_ret
    exact ⟨rfl, B7.out⟩
  · have he2 : ee = 2 := by rw [← EE.out, if_neg h2]
    subst he2
    have hmk3 : ((m : Int) == (k : Int)) = false := by rw [beq_eq_false_iff_ne]; omega
    obtain ⟨b, o, A', n', c', rfl, hck, hlt, g1, g2⟩ := hcell h1
    have C8 := Lib.hid (CS.out n' g1 g2)
    have i1 : (0 : Int) ≤ (j : Int) := by omega
    have i2 : (j : Int) < (y : Int) := by omega
    have hjy2 : ((j : Int) == (y : Int)) = false := by rw [beq_eq_false_iff_ne]; omega
    have hk1 : decide ((k : Int) < (m : Int) + ((n' : Int) + 6)) = true := decide_eq_true (by omega)
    clear EE hcell CS hlt h2
    go_wp2_with fail
    (with_reducible refine C7.out.mono ?_)
    rintro e w7 ⟨rfl, dd2, rfl⟩
    have B7 := Lib.hid (below_drewN B6.out dd2)
    go_wp2_with fail
    (with_reducible refine (C8.out _).mono ?_)
    rintro e w8 ⟨rfl, rfl⟩
    go_wp2_with fail
    go_ret
    exact ⟨rfl, B7.out⟩
  · subst h2
    subst h1
    have he0 : ee = 0 := by rw [← EE.out, if_pos rfl]
    subst he0
    clear EE hcell CS
    go_wp2_with fail
    (with_reducible refine C7.out.mono ?_)
    rintro e w7 ⟨rfl, dd2, rfl⟩
    have B7 := Lib.hid (below_drewN B6.out dd2)
    go_wp2_with fail
    go_ret
    exact ⟨rfl, B7.out⟩
end Go.Proofs.Ytinebeonnhfebaa
