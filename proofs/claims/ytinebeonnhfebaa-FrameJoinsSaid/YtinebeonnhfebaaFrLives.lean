/-
  lives and few of the statements of layer 4.
-/
import Derived.Test.YtinebeonnhfebaaFrMake
namespace Go.Proofs.Ytinebeonnhfebaa
open Go.RowKit Fr

set_option maxHeartbeats 400000 in
theorem few_any (n c : Nat) (A : Option Addr) (w : World) (hn : n ≤ c) (hc : c ≤ maxLen) :
    Calls Try.prog 10 #[.slice A n c] w fun e w' => e = .returned (.slice A (min n 1100) c) ∧ w = w' := by
  unfold maxLen at hc
  by_cases h : n ≤ 1100
  · rw [Nat.min_eq_left h]
    have m1 : min (n : Int) 1100 = (n : Int) := by omega
    go_enter Try.func10, Try.ntmps10
    go_wp2_with fail
    go_ret
    exact ⟨rfl, rfl⟩
  · rw [Nat.min_eq_right (by omega)]
    have m1 : min (n : Int) 1100 = 1100 := by omega
    go_enter Try.func10, Try.ntmps10
    go_wp2_with fail
    go_ret
    exact ⟨rfl, rfl⟩
theorem ok_seven : ok [7] := ⟨by simp, by simp, by intro x hx; simp at hx; omega⟩
theorem txt_seven : ((txt [7]).toList == [7]) = true := by decide +kernel
set_option maxRecDepth 100000 in
set_option maxHeartbeats 1000000 in
theorem lives_any (w : World) :
    Calls Try.prog 9 #[] w fun e w' => e = .returned (.bool true) ∧ Below w.heap.size w w' := by
  have T := Lib.hid (sl_one w 7 (by omega) 7 rfl)
  have BX := Lib.hid ((Below.refl w.heap.size w).alloc (Nat.le_refl _) (.cells #[.int .u8 7] 5))
  have HP := Lib.hid (put_yes (b := []) (p := [7]) (by simp) (by simp))
  have HG : Hid (gE (fr [7]) = 0 ∧ gN (fr [7]) = 7 ∧ gP (fr [7]) = [7]) := by
    have h1 := gE_fr (r := []) ok_seven
    have h2 := gN_fr (r := []) ok_seven
    have h3 := gP_fr (r := []) ok_seven
    rw [List.append_nil] at h1 h2 h3
    exact ⟨h1, h2, h3⟩
  have CS : Hid (∀ W, Calls Try.prog 13 #[.int .i64 1] W fun e w' => e = .returned (.int .i64 7) ∧ W = w') := fun W =>
    (fsize_any 1 W (by omega)).mono fun _ _ ⟨he, hw⟩ => ⟨by rw [he, sizeN_yes (by omega) (by omega)]; rfl, hw⟩
  go_enter Try.func9, Try.ntmps9
  go_wp2_with fail
  (with_reducible refine (fput_any 0 0 1 1 none _ [] [7] _ (Sl.none_ _) T.out (by omega) (by omega)).mono ?_)
  rintro e w1 ⟨A1, c1, rfl, ho1, hb1⟩
  rw [HP.out.1]
  rw [HP.out.2] at ho1 ⊢
  rw [List.nil_append] at ho1 ⊢
  have hl7 : (fr [7]).length = 7 := fr_length _
  rw [hl7] at ho1 ⊢
  have S1 := Lib.hid ho1.sls; clear ho1
  have B1 := Lib.hid (BX.out.trans (hb1.mono (by simp))); clear hb1 hl7
  have F0 : Hid ((fr [7]).getD 0 0 = 0 ∧ (fr [7]).getD 1 0 = 1 ∧ (fr [7]).getD 2 0 = 7) := by show _ ∧ _ ∧ _; rw [fr_parts]; exact ⟨rfl, rfl, rfl⟩
  have hcells : ∃ b o, A1 = some ⟨b, o, none⟩ ∧ b < w1.heap.size ∧ w1.cell? ⟨b, o, none⟩ = some (.int .u8 0) ∧ w1.cell? ⟨b, o + 1, none⟩ = some (.int .u8 1) ∧ w1.cell? ⟨b, o + 2, none⟩ = some (.int .u8 7) := by
    obtain ⟨b, o, e, hb, hc⟩ := S1.out.rd.2 (by rw [← S1.out.len]; omega)
    have c0 := hc 0 (by rw [← S1.out.len]; omega)
    have c1 := hc 1 (by rw [← S1.out.len]; omega)
    have c2 := hc 2 (by rw [← S1.out.len]; omega)
    rw [F0.out.1, Nat.add_zero] at c0
    rw [F0.out.2.1] at c1
    rw [F0.out.2.2] at c2
    exact ⟨b, o, e, hb, c0, c1, c2⟩
  obtain ⟨b, o, rfl, hbw, d0, d1, d2⟩ := hcells
  have D0 := Lib.hid d0; clear d0
  have D1 := Lib.hid d1; clear d1
  have D2 := Lib.hid d2; clear d2
  have C := Lib.hid (fget_any 7 c1 _ _ w1 S1.out (by omega))
  go_wp2_with fail
  (with_reducible refine C.out.mono ?_)
  rintro e w2 ⟨A2, c2, rfl, ho2, hb2⟩
  rw [HG.out.1, HG.out.2.1]
  rw [HG.out.2.2] at ho2 ⊢
  have d0 : w2.cell? ⟨b, o, none⟩ = some (.int .u8 0) := (hb2.cell (p := ⟨b, o, none⟩) hbw).trans D0.out
  have d1 : w2.cell? ⟨b, o + 1, none⟩ = some (.int .u8 1) := (hb2.cell (p := ⟨b, o + 1, none⟩) hbw).trans D1.out
  have d2 : w2.cell? ⟨b, o + 2, none⟩ = some (.int .u8 7) := (hb2.cell (p := ⟨b, o + 2, none⟩) hbw).trans D2.out
  have hcv := conv_rd (c := c2) ho2.sls.rd rfl
  have B2 := Lib.hid (B1.out.trans (hb2.mono B1.out.size)); clear hb2 ho2
  have ht := txt_seven
  simp only [List.length_cons, List.length_nil, Nat.zero_add] at hcv ⊢
  clear C D0 D1 D2
  go_wp2_with fail
  (with_reducible refine (CS.out _).mono ?_)
  rintro e w3 ⟨rfl, rfl⟩
  go_wp2_with fail
  go_ret
  exact ⟨rfl, B2.out⟩
theorem lives_at {w0 : World} (W : World) (hb : Below w0.heap.size w0 W) :
    Calls Try.prog 9 #[] W fun e w' => e = .returned (.bool true) ∧ Below w0.heap.size w0 w' :=
  (lives_any W).mono fun _ _ ⟨he, h2⟩ => ⟨he, hb.trans (h2.mono hb.size)⟩
end Go.Proofs.Ytinebeonnhfebaa
