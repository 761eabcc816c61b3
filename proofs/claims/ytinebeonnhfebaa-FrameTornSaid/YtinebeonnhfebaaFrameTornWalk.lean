/-
  The walk of the statement FrameTorn.
-/
import Derived.Test.YtinebeonnhfebaaFrLives
import Derived.Deep.Cut
namespace Go.Proofs.Ytinebeonnhfebaa
open Go.RowKit Fr

theorem turn_other {x b : Nat} (h : b ≠ 0) : x ^^^ b ≠ x := by
  intro e
  have h2 : x ^^^ (x ^^^ b) = x ^^^ x := by rw [e]
  rw [← Nat.xor_assoc, Nat.xor_self, Nat.zero_xor] at h2
  exact h h2

/-- How many bytes the first j frames have. -/
def fend (own : List (List Nat)) (j : Nat) : Nat := (all (own.take j)).length
theorem fend_zero (own : List (List Nat)) : fend own 0 = 0 := rfl
theorem fend_succ {own : List (List Nat)} {j : Nat} (h : j < own.length) : fend own (j + 1) = fend own j + ((own.getD j []).length + 6) := all_take_succ h
theorem fend_all (own : List (List Nat)) : fend own own.length = (all own).length := by unfold fend; rw [List.take_length]

set_option maxRecDepth 100000 in
set_option maxHeartbeats 3200000 in
theorem torn_walk (n c : Nat) (A : Option Addr) (xs : List (List Nat)) (at_ by_ : Int) (w : World) (h : SlS w A n c xs) (hby : (Lit.int .u8 by_).wf = true) :
    Calls Try.prog 7 #[.slice A n c, .int .i64 at_, .int .u8 by_] w fun e w' => e = .returned (.bool true) ∧ Below w.heap.size w w' := by
  obtain ⟨b0, rfl, hb0⟩ : ∃ b0 : Nat, by_ = (b0 : Int) ∧ b0 < 256 := by
    simp [Lit.wf, IntKind.min, IntKind.max, IntKind.signed, IntKind.bits] at hby
    exact ⟨by_.toNat, by omega, by omega⟩
  clear hby
  have HX := Lib.hid h; clear h
  go_enter Try.func7, Try.ntmps7
  go_wp2_with fail
  (with_reducible refine (lives_at _ (Below.refl _ _)).mono ?_)
  rintro e w1 ⟨rfl, hb1⟩
  have B1 := Lib.hid hb1; clear hb1
  have C2 : Hid (Calls Try.prog 20 #[.slice A n c, .int .i64 8] w1 (FMPost 8 w1)) := frMake_any n c 8 A xs w1 (HX.out.on B1.out) (by omega)
  go_wp2_with fail
  (with_reducible refine C2.out.mono ?_)
  rintro e w2 ⟨A2, c2, own, rfl, ho2, hok2, hl2, hb2⟩
  obtain ⟨_, _, e2, hs2⟩ := ho2.sls
  injection e2 with e21 _ e23
  subst e21 e23
  have B2 := Lib.hid (B1.out.trans (hb2.mono B1.out.size)); clear hb2 B1 ho2 C2 HX
  have S2 := Lib.hid hs2; clear hs2
  have K2 := Lib.hid hok2; clear hok2
  have L2 := Lib.hid hl2; clear hl2
  have HA : Hid ((all own).length ≤ 288) := by show _ ≤ _; have := all_small (fun p hp => (K2.out p hp).2); have := L2.out; omega
  have C3 := Lib.hid (frAll_any own.length c2 A2 own w2 S2.out (fun p hp => (K2.out p hp).1) (by have := HA.out; omega))
  go_wp2_with fail
  (with_reducible refine C3.out.mono ?_)
  rintro e w3 ⟨A3, c3, rfl, ho3, hb3⟩
  have O3 := Lib.hid ho3; clear ho3 C3
  have D3 := Lib.hid hb3
  have B3 := Lib.hid (B2.out.trans (hb3.mono B2.out.size)); clear hb3
  have WH := Lib.hid (scan_whole (fun p hp => (K2.out p hp).1))
  have TA := Lib.hid (fun (j k y : Nat) => torn_at (ps := own) (j := j) (k := k) (y := y) (fun p hp => (K2.out p hp).1))
  obtain ⟨q, hq⟩ : ∃ q, q = all own := ⟨_, rfl⟩
  rw [← hq] at O3 HA WH ⊢
  have hqa : (all own).length = q.length := by rw [← hq]
  have Q := Lib.hid hq; clear hq
  have QA := Lib.hid hqa; clear hqa
  have hql := HA.out
  generalize hz : q.length = z at *
  have ZL := Lib.hid hz; clear hz
  have C6 := Lib.hid (fcount_any z c3 A3 q w3 O3.out.sls (by omega))
  rw [WH.out] at C6
  by_cases hcase : z = 0 ∨ b0 = 0
  · have hcase2 : z = 0 ∨ (z ≠ 0 ∧ b0 = 0) := by omega
    clear hcase TA
    rcases hcase2 with h0 | ⟨h0, h1⟩
    · have hz0 : ((z : Int) == 0) = true := by rw [beq_iff_eq]; omega
      clear h0
      go_wp2_with fail
      (with_reducible refine C6.out.mono ?_)
      rintro e w4 ⟨rfl, hb4⟩
      have B4 := Lib.hid (B3.out.trans (hb4.mono B3.out.size)); clear hb4
      simp only
      generalize own.length = y at *
      go_wp2_with fail
      go_ret
      exact ⟨rfl, B4.out⟩
    · have hz0 : ((z : Int) == 0) = false := by rw [beq_eq_false_iff_ne]; omega
      subst h1
      clear h0
      go_wp2_with fail
      (with_reducible refine C6.out.mono ?_)
      rintro e w4 ⟨rfl, hb4⟩
      have B4 := Lib.hid (B3.out.trans (hb4.mono B3.out.size)); clear hb4
      simp only
      generalize own.length = y at *
      go_wp2_with fail
      go_ret
      exact ⟨rfl, B4.out⟩
  · have hz0 : ((z : Int) == 0) = false := by rw [beq_eq_false_iff_ne]; omega
    have hb00 : ((b0 : Int) == 0) = false := by rw [beq_eq_false_iff_ne]; omega
    have hz1 : 0 < z := by omega
    have hb1 : b0 ≠ 0 := by omega
    clear hcase C6
    have HB1 := Lib.hid hb1; clear hb1
    go_upto_region 8 with (fail)
    obtain ⟨k, hke, hkm⟩ := mod_at at_ z (by omega) hz1
    rw [hke]
    clear hke
    generalize (IntKind.u64.wrap at_).tmod (z : Int) = q1
    generalize IntKind.u64.wrap at_ = q2
    have hkq : k < q.length := by rw [ZL.out]; exact hkm
    obtain ⟨g, c', hv⟩ := own_form O3.out.1 (by omega)
    have hA3 : A3 = some ⟨g, 0, none⟩ := by injection hv
    subst hA3
    clear hv
    have hg := O3.out.from_ _ rfl
    have ho1 := O3.out.1
    rw [ZL.out] at ho1
    have hx := ho1.cellAt k (by omega)
    rw [vals_at hkq] at hx
    have hf := ho1.frozenAt k
    clear ho1
    have bx : q.getD k 0 < 256 := by rw [getD_at hkq]; exact O3.out.2 _ (List.getElem_mem hkq)
    have hxor : bits .xor .u8 ((q.getD k 0 : Nat) : Int) (b0 : Int) = ((q.getD k 0 ^^^ b0 : Nat) : Int) := u8_xor_nat _ _ bx hb0
    have hy : q.getD k 0 ^^^ b0 < 256 := Nat.xor_lt_two_pow (n := 8) bx hb0
    have HNE : Hid (q.getD k 0 ^^^ b0 ≠ q.getD k 0) := turn_other HB1.out
    have O4 := Lib.hid (O3.out.put k _ hy)
    have D4 := Lib.hid (D3.out.setCell (p := ⟨g, k, none⟩) hg (.int .u8 ((q.getD k 0 ^^^ b0 : Nat) : Int)))
    have B4 := Lib.hid (B2.out.trans (D4.out.mono B2.out.size))
    have i1 : (0 : Int) ≤ (k : Int) := by omega
    have i2 : (k : Int) < (z : Int) := by omega
    have HY := Lib.hid hy; clear hy
    have TB : Hid (∀ j, j < own.length → fend own j ≤ k → k < fend own j + ((own.getD j []).length + 6) → ∃ g' m' e', scan (q.set k (q.getD k 0 ^^^ b0)) = (own.take j ++ g', fend own j + m', e') ∧ (fend own j + 1 < k → g' = [] ∧ m' = 0 ∧ e' = 3)) := fun j h1 h2 h3 => by
      have := TA.out j k (q.getD k 0 ^^^ b0) h1 h2 h3 HY.out (by rw [← Q.out]; exact HNE.out)
      rw [← Q.out] at this
      exact this
    have FZ : Hid (fend own own.length = z) := by show _ = _; rw [fend_all, QA.out]
    clear TA HNE HB1
    generalize hyv : q.getD k 0 ^^^ b0 = yv at *
    generalize q.getD k 0 = xv at *
    clear hyv
    go_wp2_with fail
    have R4 := Lib.hid (S2.out.on D4.out)
    clear hx hf hxor bx
    generalize w3.setCell ⟨g, k, none⟩ (.int .u8 (yv : Int)) = w4 at *
    have hl8 := L2.out
    have CS : Hid (∀ (n' : Nat), 1 ≤ n' → n' ≤ 30 → ∀ W, Calls Try.prog 13 #[.int .i64 n'] W fun e w' => e = .returned (.int .i64 ((n' + 6 : Nat) : Int)) ∧ W = w') := fun n' g1 g2 W => by
      have := fsize_any n' W (by omega)
      rwa [sizeN_yes g1 (by omega)] at this
    have hcell : Hid (∀ j, j < own.length → ∃ b o A' n' c', A2 = some ⟨b, o, none⟩ ∧ w4.cell? ⟨b, o + j, none⟩ = some (.slice A' n' c') ∧ n' = (own.getD j []).length ∧ 1 ≤ n' ∧ n' ≤ 30) := fun j h1 => by
      obtain ⟨b, o, hA2, _, hc⟩ := R4.out.rd (by omega)
      obtain ⟨A', n', c', hck, hs'⟩ := hc j h1
      have hin : own.getD j [] ∈ own := by rw [getD_at h1]; exact List.getElem_mem _
      have h3 := K2.out _ hin
      have h4 := h3.1.1
      rw [← hs'.len] at h3 h4
      exact ⟨b, o, A', n', c', hA2, hck, hs'.len, h4, h3.2⟩
    have hcap2 := R4.out.cap
    have hmax2 := R4.out.max
    unfold maxLen at hmax2
    obtain ⟨y, hyl⟩ : ∃ y, y = own.length := ⟨_, rfl⟩
    rw [← hyl] at R4 hl8 hcap2 FZ hcell TB ⊢
    have YL := Lib.hid hyl; clear hyl
    go_loop [10, 11] (fun e i => ∃ j : Nat, j ≤ y ∧ i = .int .i64 j ∧ e = .int .i64 (fend own j : Nat) ∧ fend own j ≤ k) (fun _ i => y - (intOf i).toNat)
    case atStart => exact ⟨0, by omega, rfl, rfl, by rw [fend_zero]; omega⟩
    case round =>
      obtain ⟨j, hj, rfl, rfl, hjk⟩ := hrel
      have hjy : j < y := by
        rcases Nat.lt_or_ge j y with h1 | h1
        · exact h1
        · have h2 : j = y := by omega
          rw [h2, FZ.out] at hjk
          omega
      obtain ⟨b, o, A', n', c', hA2, hck, hn', g1, g2⟩ := hcell.out j hjy
      subst hA2
      have C8 := Lib.hid (CS.out n' g1 g2)
      have FS := Lib.hid (fend_succ (own := own) (j := j) (by rw [← YL.out]; exact hjy))
      have TC := Lib.hid (TB.out j hjy hjk)
      rw [← hn'] at FS TC
      clear hn'
      have j1 : (0 : Int) ≤ (j : Int) := by omega
      have j2 : (j : Int) < (y : Int) := by omega
      by_cases hle : fend own j + (n' + 6) ≤ k
      · generalize hfs : fend own (j + 1) = f2 at *
        have HF2 := Lib.hid hfs; clear hfs
        generalize fend own j = f1 at *
        have hd : decide ((f1 : Int) + ((n' : Int) + 6) ≤ (k : Int)) = true := decide_eq_true (by omega)
        have hf1 : f1 ≤ 288 := by omega
        clear TC
        go_wp2_with fail
        (with_reducible refine (C8.out _).mono ?_)
        rintro e w5 ⟨rfl, rfl⟩
        go_wp2_with fail
        (with_reducible refine (C8.out _).mono ?_)
        rintro e w5 ⟨rfl, rfl⟩
        go_wp2_with fail
        refine ⟨⟨j + 1, by omega, by go_num, ?_, ?_⟩, by simp [intOf]; omega⟩
        · rw [HF2.out, FS.out]; go_num
        · rw [HF2.out, FS.out]; omega
      · obtain ⟨g', m', e', hsc, himp⟩ := TC.out (by omega)
        have HSC := Lib.hid hsc; clear hsc TC FS
        have HIM := Lib.hid himp; clear himp
        generalize fend own j = f1 at *
        have hd : decide ((f1 : Int) + ((n' : Int) + 6) ≤ (k : Int)) = false := decide_eq_false (by omega)
        have hf1 : f1 ≤ 288 := by omega
        clear TB hcell
        go_wp2_with fail
        (with_reducible refine (C8.out _).mono ?_)
        rintro e w5 ⟨rfl, rfl⟩
        have QS : Hid ((q.set k yv).length = z) := by show _ = _; rw [List.length_set, ZL.out]
        have C10 := Lib.hid (fscan_any z c3 _ (q.set k yv) w4 O4.out.sls (by omega))
        go_wp2_with fail
        (with_reducible refine C10.out.mono ?_)
        rintro e w10 ⟨A10, c10, rfl, ho10, hb10⟩
        rw [HSC.out] at ho10 ⊢
        obtain ⟨_, _, e10, hs10⟩ := ho10.sls
        injection e10 with e101 _ e103
        subst e101 e103
        simp only at hs10 ⊢
        have R10 := Lib.hid ((R4.out.on hb10).take (k := j) (by omega))
        have B10 := Lib.hid (B4.out.trans (hb10.mono B4.out.size)); clear hb10 ho10 C10
        have HJ : Hid ((own.take j).length = j) := by show _ = _; rw [List.length_take, ← YL.out]; omega
        by_cases hk : f1 + 1 < k
        · obtain ⟨rfl, rfl, rfl⟩ := HIM.out hk
          rw [List.append_nil] at hs10 ⊢
          rw [HJ.out] at hs10 ⊢
          have C11 := Lib.hid (frSame_any j c10 c2 A10 _ (own.take j) w10 hs10 R10.out (by omega))
          have hk2 : (f1 : Int) + 1 < (k : Int) := by omega
          have jc : (j : Int) ≤ (c2 : Int) := by omega
          clear hs10 R10 HSC HIM hd
          go_wp2_with fail
          (with_reducible refine C11.out.mono ?_)
          rintro e w11 ⟨rfl, dd, rfl⟩
          have B11 := Lib.hid (below_drewN B10.out dd)
          go_wp2_with fail
          go_ret
          exact ⟨rfl, B11.out⟩
        · have hgl : j ≤ (own.take j ++ g').length := by rw [List.length_append, HJ.out]; omega
          have S10 := Lib.hid hs10
          have hcap10 := hs10.cap
          have hmax10 := hs10.max
          unfold maxLen at hmax10
          clear hs10
          have HT : Hid ((own.take j ++ g').take j = own.take j) := by
            show _ = _
            have := List.take_left (l₁ := own.take j) (l₂ := g')
            rwa [HJ.out] at this
          generalize (own.take j ++ g').length = gl at *
          have T10 := Lib.hid (S10.out.take (k := j) hgl)
          rw [HT.out] at T10
          have C12 := Lib.hid (fun d => frSame_any j c10 c2 A10 _ (own.take j) (w10.drewN d) (T10.out.on (below_drewN (Below.refl _ _) d)) (R10.out.on (below_drewN (Below.refl _ _) d)) (by omega))
          have hk2 : ¬ (f1 : Int) + 1 < (k : Int) := by omega
          have jc : (j : Int) ≤ (c2 : Int) := by omega
          have jc2 : (j : Int) ≤ (c10 : Int) := by omega
          have dg : decide ((j : Int) ≤ (gl : Int)) = true := decide_eq_true (by omega)
          have dg2 : decide (j ≤ gl) = true := decide_eq_true hgl
          have hmm : f1 ≤ f1 + m' := by omega
          generalize f1 + m' = mm at *
          have dm : decide ((f1 : Int) ≤ (mm : Int)) = true := decide_eq_true (by omega)
          have dm2 : decide (f1 ≤ mm) = true := decide_eq_true hmm
          clear R10 HSC HIM hd S10 T10 HT
          go_wp2_with fail
          go_quiet ((go_at_call 18; exact Calls.quiet_of (C12.out _)))
          go_wp2_with fail
          go_ret
          exact ⟨rfl, below_drewN B10.out _⟩
end Go.Proofs.Ytinebeonnhfebaa
