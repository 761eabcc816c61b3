/-
  The walk of LeaseMargin over any table that keeps the contracts.
-/
import Derived.Test.YtemnioijgkahcaaLsLaw2
namespace Go.Proofs.Ytemnioijgkahcaa
open Go.RowKit Go.Deep

theorem rem_nat (k : Int) (m : Nat) (hm : 0 < m) : ∃ q : Nat, q < m ∧ (IntKind.u64.wrap k).tmod (m : Int) = (q : Int) := by
  rw [IntKind.wrap_u64]
  have h0 : 0 ≤ k % 18446744073709551616 := Int.emod_nonneg _ (by omega)
  generalize k % 18446744073709551616 = x at h0
  rw [Int.tmod_eq_emod_of_nonneg h0]
  have h1 := Int.emod_nonneg x (show (m : Int) ≠ 0 by omega)
  have h2 := Int.emod_lt_of_pos x (show (0 : Int) < m by omega)
  exact ⟨(x % m).toNat, by omega, by omega⟩
set_option maxHeartbeats 3200000 in
theorem lmargin_walk {L : LPred} (hC : LC L) (margin now ttl : Int) (w : World) :
    Calls Try.prog 5 #[.int .i64 margin, .int .i64 now, .int .i64 ttl] w fun e w' => e = .returned (.bool true) ∧ Below w.heap.size w w' := by
  have L1 := Lib.hid (llives_any hC w)
  obtain ⟨m, hm, em⟩ := rem_nat margin 1048577 (by omega)
  obtain ⟨p, hp, ep⟩ := rem_nat now 1073741824 (by omega)
  obtain ⟨t, ht, et⟩ := rem_nat ttl 1048576 (by omega)
  have em : (IntKind.u64.wrap margin).tmod 1048577 = (m : Int) := em
  have ep : (IntKind.u64.wrap now).tmod 1073741824 = (p : Int) := ep
  have et : (IntKind.u64.wrap ttl).tmod 1048576 = (t : Int) := et
  go_enter Try.func5, Try.ntmps5
  go_upto_region 5 with (go_at_call 8; (with_reducible refine L1.out.mono ?_); rintro e w1 ⟨rfl, hb1⟩; have B1 := Lib.hid hb1; clear hb1)
  obtain ⟨x, hx⟩ : ∃ x : ByteArray, x = ⟨#[97]⟩ := ⟨_, rfl⟩
  have sx : x.size = 1 := by rw [hx]; rfl
  have hs : x.size ≤ maxLen := by unfold maxLen; omega
  have hm1 : (m : Int) ≤ 1048576 := by omega
  have hm0 : (0 : Int) ≤ (m : Int) := by omega
  have hp1 : (p : Int) < 1073741824 := by omega
  have hp0 : (0 : Int) ≤ (p : Int) := by omega
  have ht1 : 1 + (t : Int) ≤ 1048576 := by omega
  have ht0 : 1 ≤ 1 + (t : Int) := by omega
  generalize (m : Int) = M at *
  generalize (p : Int) = N at *
  generalize 1 + (t : Int) = Q at *
  clear em ep et hm hp ht
  have RR : ∀ h now ttl, 0 ≤ h → h ≤ 63 → 0 ≤ now → now ≤ 2000000000 → 1 ≤ ttl → ttl ≤ 1048576 → Ls.Right x h now ttl := fun h now ttl h1 h2 h3 h4 h5 h6 => ⟨by omega, by omega, h1, h2, ⟨h3, by omega⟩, h5, h6⟩
  have hmk : Ls.new M = ⟨M, []⟩ := by
    unfold Ls.new
    rw [show min (max M 0) 1048576 = M by omega]
  have N1 := Lib.hid (lat_make (F := fun _ => False) (w0 := w) (W := w1) hC (m := M) ⟨by omega, by omega⟩ B1.out (fun b hb => by cases hb))
  rw [hmk] at N1
  have C1 := Lib.hid (l1_first (w0 := w) (F := fun _ => False) (m := M) hC (RR 1 N Q (by omega) (by omega) (by omega) (by omega) (by omega) (by omega)) (T := N + Q) (by unfold Ls.late; omega))
  have C2 := Lib.hid (l1_held (w0 := w) (F := fun _ => False) (h := 1) (ep := 1) (t := N + Q) (m := M) hC (RR 2 (N + Q + M - 1) 1 (by omega) (by omega) (by omega) (by omega) (by omega) (by omega)) (by unfold Ls.late; omega) (by omega))
  have C3 := Lib.hid (l1_freeB (w0 := w) (F := fun _ => False) (k := x) (h := 1) (ep := 1) (t := N + Q) (m := M) (now := N + Q + M) (x := true) hC (by simp only [true_iff]; unfold Ls.late; omega) hs ⟨by omega, by omega⟩)
  have C4 := Lib.hid (l1_free (w0 := w) (F := fun _ => False) (h := 1) (ep := 1) (t := N + Q) (m := M) hC (RR 2 (N + Q + M) 1 (by omega) (by omega) (by omega) (by omega) (by omega) (by omega)) (by unfold Ls.late; omega) (by omega) (E := 2) (T := N + Q + M + 1) (by omega) (by unfold Ls.late; omega))
  have C5 := Lib.hid (l1_holds (w0 := w) (F := fun _ => False) (k := x) (h := 2) (ep := 2) (t := N + Q + M + 1) (m := M) (h' := 1) (ep' := 1) (now := N + Q) (x := false) hC (by simp) hs ⟨by omega, by omega⟩ ⟨by omega, by omega⟩ ⟨by omega, by omega⟩)
  rw [hx] at C1 C2 C3 C4 C5
  clear RR hs sx hx hmk
  go_upto_region 6 with (go_at_call 9; (with_reducible refine N1.out.mono ?_); rintro e w2 ⟨q, rfl, hk1, _⟩; have K1 := Lib.hid hk1; clear hk1)
  go_upto_region 7 with (go_at_call 12; (with_reducible refine (C1.out _ _ K1.out).mono ?_); rintro e w3 ⟨rfl, hk2, _⟩; have K2 := Lib.hid hk2; clear hk2)
  go_upto_region 9 with (go_at_call 12; (with_reducible refine (C2.out _ _ K2.out).mono ?_); rintro e w4 ⟨rfl, hk3, _⟩; have K3 := Lib.hid hk3; clear hk3)
  go_upto_region 10 with (go_at_call 17; (with_reducible refine (C3.out _ _ K3.out).mono ?_); rintro e w5 ⟨rfl, hb5⟩; have K4 := Lib.hid (K3.out.on hC hb5); clear hb5)
  go_upto_region 11 with (go_at_call 12; (with_reducible refine (C4.out _ _ K4.out).mono ?_); rintro e w6 ⟨rfl, hk5, _⟩; have K5 := Lib.hid hk5; clear hk5)
  by_cases hM : M = 0
  · subst hM
    by_cases hQ : Q = 1
    · subst hQ
      go_wp2_with (go_at_call 16; (with_reducible refine (C5.out _ _ K5.out).mono ?_); rintro e w7 ⟨rfl, hb7⟩; have K6 := Lib.hid (K5.out.on hC hb7); clear hb7)
      go_ret
      exact ⟨rfl, K6.out.below⟩
    · have hq1 : (Q == 1) = false := by rw [beq_eq_false_iff_ne]; exact hQ
      go_wp2_with (go_at_call 16; (with_reducible refine (C5.out _ _ K5.out).mono ?_); rintro e w7 ⟨rfl, hb7⟩; have K6 := Lib.hid (K5.out.on hC hb7); clear hb7)
      go_ret
      exact ⟨rfl, K6.out.below⟩
  · have hM1 : (M == 0) = false := by rw [beq_eq_false_iff_ne]; exact hM
    go_wp2_with (go_at_call 16; (with_reducible refine (C5.out _ _ K5.out).mono ?_); rintro e w7 ⟨rfl, hb7⟩; have K6 := Lib.hid (K5.out.on hC hb7); clear hb7)
    go_ret
    exact ⟨rfl, K6.out.below⟩
end Go.Proofs.Ytemnioijgkahcaa
