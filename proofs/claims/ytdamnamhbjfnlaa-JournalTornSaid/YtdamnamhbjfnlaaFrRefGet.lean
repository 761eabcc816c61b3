/-
  The document's own Get of layer 4.
-/
import Derived.Test.YtdamnamhbjfnlaaFrRef
namespace Go.Proofs.Ytdamnamhbjfnlaa
open Go.RowKit Fr

/-- What the document's Get answers: its payload lies in what was handed in. -/
def FRGPost (A0 : Option Addr) (l : List Nat) (w : World) (e : Ending) (w' : World) : Prop :=
  ∃ A c, e = .returned (.tuple #[.slice A (gP l).length c, .int .i64 ((gN l : Nat) : Int), .int .i64 ((gE l : Nat) : Int)]) ∧ Sl w' A (gP l).length c (gP l) ∧ (∀ a, A = some a → ∃ a0, A0 = some a0 ∧ a.block = a0.block) ∧ Below w.heap.size w w'
theorem FRGPost.no {A0 : Option Addr} {l : List Nat} {w w' : World} {k : Nat} (hk : gE l = k) (h : k ≠ 0) (hb : Below w.heap.size w w') : FRGPost A0 l w (.returned (.tuple #[.slice none 0 0, .int .i64 0, .int .i64 (k : Int)])) w' := by
  have hX := get_no (l := l) (by omega)
  unfold FRGPost
  rw [hX.1, hX.2, hk]
  exact ⟨none, 0, rfl, Sl.none_ _, (fun a h => by cases h), hb⟩
theorem whole_two {l : List Nat} (h : 2 ≤ l.length) : (whole l = 0 ∧ (num2 l < 1 ∨ 1000 < num2 l ∨ l.length < num2 l + 6)) ∨ (whole l = num2 l + 6 ∧ 1 ≤ num2 l ∧ num2 l ≤ 1000 ∧ num2 l + 6 ≤ l.length) := by
  have h1 : whole l = if l.length < sizeN (num2 l) then 0 else sizeN (num2 l) := by unfold whole; rw [if_neg (by omega)]
  rw [h1]
  by_cases hn : 1 ≤ num2 l ∧ num2 l ≤ 1000
  · rw [sizeN_yes hn.1 hn.2]
    by_cases hl : l.length < num2 l + 6
    · rw [if_pos hl]; exact .inl ⟨rfl, .inr (.inr hl)⟩
    · rw [if_neg hl]; exact .inr ⟨rfl, hn.1, hn.2, by omega⟩
  · rw [sizeN_no (by omega)]
    exact .inl ⟨by split <;> rfl, by omega⟩

set_option maxHeartbeats 1000000 in
theorem frGet_any (n c : Nat) (A : Option Addr) (l : List Nat) (w : World) (h : Sl w A n c l) (hn : n ≤ 1000000000) :
    Calls Try.prog 59 #[.slice A n c] w (FRGPost A l w) := by
  have H := Lib.hid h
  have hlen := h.len
  have hcap := h.cap
  have hmax := h.max
  unfold maxLen at hmax
  by_cases h2 : n < 2
  · have HE : Hid (gE l = 2) := gE_two (by unfold whole; rw [if_pos (by rw [← hlen]; omega)])
    clear h hlen
    go_enter Try.func59, Try.ntmps59
    go_wp2_with fail
    go_ret3
    exact FRGPost.no (k := 2) HE.out (by omega) (Below.refl _ _)
  · have x0 := h.rd.byte 0
    have x1 := h.rd.byte 1
    have W2 := whole_two (l := l) (by omega)
    rw [← hlen] at W2
    have W3 := Lib.hid W2; clear W2
    obtain ⟨b, o, rfl, _, hc⟩ := h.rd.2 (by omega)
    have c0 := hc 0 (by omega)
    rw [Nat.add_zero] at c0
    have c1 := hc 1 (by omega)
    have HN : Hid (num2 l = l.getD 0 0 * 256 + l.getD 1 0) := rfl
    have LE := Lib.hid hlen
    clear hc h hlen
    generalize l.getD 0 0 = p at *
    generalize l.getD 1 0 = q at *
    have hs1 : IntKind.i64.wrap ((p : Int) * 256) = (p : Int) * 256 := IntWalk.i64_in _ (by omega)
    have hs2 : IntKind.i64.wrap ((p : Int) * 256 + (q : Int)) = (p : Int) * 256 + (q : Int) := IntWalk.i64_in _ (by omega)
    go_enter Try.func59, Try.ntmps59
    go_wp2_with fail
    go_quiet (fail)
    have hm : (p : Int) * 256 + (q : Int) = ((num2 l : Nat) : Int) := by rw [HN.out]; omega
    rw [hm]
    clear hs1 hs2 c0 c1 hm HN x0 x1
    have B1 := Lib.hid (below_drewN (Below.refl w.heap.size w) nq)
    generalize w.drewN nq = w1 at *
    rcases W3.out with ⟨hw, hno⟩ | ⟨hw, hm1, hm2, hm3⟩
    · have HE : Hid (gE l = 2) := gE_two hw
      have hcases : num2 l < 1 ∨ (1 ≤ num2 l ∧ 1000 < num2 l) ∨ (1 ≤ num2 l ∧ num2 l ≤ 1000 ∧ n < num2 l + 6) := by omega
      clear W3 hno hw
      generalize num2 l = m at *
      rcases hcases with h3 | ⟨h3, h4⟩ | ⟨h3, h4, h5⟩
      · obtain rfl : m = 0 := by omega
        go_wp2_with fail
        go_ret3
        exact FRGPost.no (k := 2) HE.out (by omega) B1.out
      · have h3' : ¬ (m : Int) < 1 := by omega
        go_wp2_with fail
        go_ret3
        exact FRGPost.no (k := 2) HE.out (by omega) B1.out
      · have h3' : ¬ (m : Int) < 1 := by omega
        have h4' : ¬ 1000 < (m : Int) := by omega
        go_wp2_with fail
        go_ret3
        exact FRGPost.no (k := 2) HE.out (by omega) B1.out
    · have SF := Lib.hid (same_fr H.out.rd.1 (by omega))
      have TL := Lib.hid (H.out.take (k := whole l) (by omega))
      have TP := Lib.hid ((H.out.take (k := whole l - 4) (by omega)).drop (k := 2) (by omega) (by omega))
      have EY : Hid (good (l.take (whole l)) = true → gE l = 0) := fun hg => gE_yes (by omega) hg
      have EN : Hid (good (l.take (whole l)) = false → gE l = 3) := fun hg => gE_three (by omega) hg
      have PV : Hid (gE l = 0 → gP l = (l.take (whole l - 4)).drop 2 ∧ gN l = whole l) := get_yes
      rw [hw] at SF TL TP EY EN PV
      clear W3 hw
      generalize num2 l = m at *
      rw [show m + 6 - 4 = m + 2 from by omega] at SF TP PV
      rw [show m + 2 - 2 = m from by omega] at TP
      simp only [Option.map_some] at TP
      rw [show (⟨b, o, none⟩ : Addr).add 2 = ⟨b, o + 2, none⟩ from by simp [Addr.add]] at TP
      obtain ⟨P, hP⟩ : ∃ P, P = (l.take (m + 2)).drop 2 := ⟨_, rfl⟩
      rw [← hP] at SF TP PV
      clear hP
      generalize l.take (m + 6) = t at *
      have hcv : ∀ W, Below w.heap.size w W → (convert 33 9 (.slice (some ⟨b, o, none⟩) (m + 6) c)).run Try.prog W = .ok (.string (txt t)) W := fun W hb => conv_rd (TL.out.rd.on hb) TL.out.len
      have hdr : ∀ W, Below w.heap.size w W → Below w.heap.size w W.drew := fun W hb => hb.drew
      have hb0 := B1.out
      have h3' : ¬ (m : Int) < 1 := by omega
      have h4' : ¬ 1000 < (m : Int) := by omega
      have hc2 : ¬ c = 2 := by omega
      have b1 : (0 : Int) ≤ 2 + (m : Int) := by omega
      have b2 : 2 + (m : Int) ≤ (c : Int) := by omega
      have b3 : max (2 + (m : Int)) 0 = 2 + (m : Int) := by omega
      have b4 : (2 + (m : Int)).toNat - 2 = m := by omega
      have b5 : (2 : Int) ≤ 2 + (m : Int) := by omega
      have b6 : (0 : Int) ≤ (m : Int) + 6 := by omega
      have b7 : (m : Int) + 6 ≤ (c : Int) := by omega
      have b8 : ((m : Int) + 6).toNat = m + 6 := by omega
      go_wp2_with fail
      have e1 : IntKind.i64.wrap (2 + (m : Int)) = 2 + (m : Int) := IntWalk.i64_in _ (by omega)
      have e2 : IntKind.i64.wrap ((m : Int) + 6) = (m : Int) + 6 := IntWalk.i64_in _ (by omega)
      refine wp_region_held_drew (S := fun W => Below w.heap.size w W) (by kernel_rfl) (hdr _ hb0) (fun hS => ?_)
      refine tkYes 0 (v := ?_) rfl (by kernel_rfl) (fun _ _ _ h => h) rfl ?_ hS ?_
      rotate_left
      · intro W hW; go_simp; (try with_reducible rfl)
      simp only [Act.put, List.setIfInBounds_toArray, List.set_cons_zero, List.set_cons_succ]
      refine tkYes 1 (v := ?_) rfl (by kernel_rfl) (fun _ _ _ h => h) rfl ?_ hS ?_
      rotate_left
      · intro W hW; go_simp; (try with_reducible rfl)
      simp only [Act.put, List.setIfInBounds_toArray, List.set_cons_zero, List.set_cons_succ]
      refine tkYes 2 (v := ?_) rfl (by kernel_rfl) (fun _ _ _ h => h) rfl ?_ hS ?_
      rotate_left
      · intro W hW; go_simp; (try with_reducible rfl)
      simp only [Act.put, List.setIfInBounds_toArray, List.set_cons_zero, List.set_cons_succ]
      refine tkYes 3 (v := ?_) rfl (by kernel_rfl) (fun _ _ _ h => h) rfl ?_ hS ?_
      rotate_left
      · intro W hW; go_simp; (try with_reducible rfl)
      simp only [Act.put, List.setIfInBounds_toArray, List.set_cons_zero, List.set_cons_succ]
      refine tkYes 6 (v := ?_) rfl (by kernel_rfl) (fun _ _ _ h => h) rfl ?_ hS ?_
      rotate_left
      · intro W hW; go_simp; (try with_reducible rfl)
      simp only [Act.put, List.setIfInBounds_toArray, List.set_cons_zero, List.set_cons_succ]
      refine tkYes 7 (v := ?_) rfl (by kernel_rfl) (fun _ _ _ h => h) rfl ?_ hS ?_
      rotate_left
      · intro W hW; go_simp; (try with_reducible rfl)
      simp only [Act.put, List.setIfInBounds_toArray, List.set_cons_zero, List.set_cons_succ]
      refine tkYes 8 (v := ?_) rfl (by kernel_rfl) (fun _ _ _ h => h) rfl ?_ hS ?_
      rotate_left
      · intro W hW; go_simp; (try with_reducible rfl)
      simp only [Act.put, List.setIfInBounds_toArray, List.set_cons_zero, List.set_cons_succ]
      refine tkYes 9 (v := ?_) rfl (by kernel_rfl) (fun _ _ _ h => h) rfl ?_ hS ?_
      rotate_left
      · intro W hW; go_simp; (try with_reducible rfl)
      simp only [Act.put, List.setIfInBounds_toArray, List.set_cons_zero, List.set_cons_succ]
      refine tkYes 10 (v := ?_) rfl (by kernel_rfl) (fun _ _ _ h => h) rfl ?_ hS ?_
      rotate_left
      · intro W hW; have hcv1 := hcv W hW; go_simp; (try with_reducible rfl)
      simp only [Act.put, List.setIfInBounds_toArray, List.set_cons_zero, List.set_cons_succ]
      refine rnOne 4 rfl (by kernel_rfl) rfl (fun K hK => ?_)
      go_simp
      refine (frOf_any m (c - 2) (some ⟨b, o + 2, none⟩) P _ (TP.out.on hS) hm2).mono ?_
      rintro e w' ⟨A2, c2, rfl, ho, hb⟩
      have hb1 : Below w.heap.size w w' := hS.trans (hb.mono hS.size)
      have hcv2 := conv_rd (c := c2) ho.sls.rd rfl
      clear ho hb hS
      have hS := hb1
      refine hK.out _ _ hS (fun _ => ?_)
      clear hK K
      try simp only [Act.put, List.setIfInBounds_toArray, List.set_cons_zero, List.set_cons_succ]
      refine rnOne 5 rfl (by kernel_rfl) rfl (fun K hK => ?_)
      go_simp
      refine hK.out _ _ hS (fun _ => ?_)
      clear hK K
      try simp only [Act.put, List.setIfInBounds_toArray, List.set_cons_zero, List.set_cons_succ]
      refine tkYes 11 (v := ?_) rfl (by kernel_rfl) (fun _ _ _ h => h) rfl ?_ hS ?_
      rotate_left
      · intro W hW; go_simp; (try with_reducible rfl)
      simp only [Act.put, List.setIfInBounds_toArray, List.set_cons_zero, List.set_cons_succ]
      clear e1 e2 b3 b4 b8
      refine wpAnyH_done (by kernel_rfl) ?_ _
      by_cases hg : good t = true
      · have HE := Lib.hid (EY.out hg)
        have HX := Lib.hid (PV.out HE.out)
        have heq := SF.out.2 hg
        have hne : (!((txt (fr P)).toList == (txt t).toList)) = false := by rw [heq]; simp
        rw [hne]
        clear heq hg hcv2 hne
        go_wp2_with fail
        go_ret3
        rw [show 2 + m - 2 = m from by omega]
        unfold FRGPost
        rw [HX.out.1, HX.out.2, HE.out]
        have hPl := TP.out.len
        refine ⟨some ⟨b, o + 2, none⟩, c - 2, ?_, ?_, ?_, hS⟩
        · rw [← hPl]; rfl
        · rw [← hPl]; exact TP.out.on hS
        · intro a ha; injection ha with ha; subst ha; exact ⟨_, rfl, rfl⟩
      · have hg : good t = false := by simpa using hg
        have HE := Lib.hid (EN.out hg)
        have hne : (!((txt (fr P)).toList == (txt t).toList)) = true := by
          rw [txt_eq (fr_byte TP.out.rd.1) TL.out.rd.1, decide_eq_false (fun e => by have := SF.out.1 e; rw [hg] at this; cases this)]
          rfl
        rw [hne]
        clear hg hcv2 hne
        go_wp2_with fail
        go_ret3
        exact FRGPost.no (k := 3) HE.out (by omega) hS
end Go.Proofs.Ytdamnamhbjfnlaa
