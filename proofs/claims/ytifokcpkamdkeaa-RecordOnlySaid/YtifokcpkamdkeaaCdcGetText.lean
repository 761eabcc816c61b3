/-
  The document's own answers for what is read (GetText): what they are, from any world.
-/
import Derived.Test.YtifokcpkamdkeaaCdcGet
namespace Go.Proofs.Ytifokcpkamdkeaa
open Go.RowKit Cdc

theorem text_bad {s : St} (h : (num s).e ≠ 0 ∨ 64 < numV s ∨ (num s).l.length < numV s) : text s = badS (num s) ∧ textV s = [] := by
  by_cases he : (num s).e = 0
  · by_cases hm : numV s ≤ 64
    · have h3 : (num s).l.length < numV s := by rcases h with h | h | h <;> omega
      unfold text textV cnt cntV badS tk tkV
      simp only [if_pos hm, if_pos he, if_neg (show ¬ numV s ≤ (num s).l.length by omega), and_self]
    · unfold text textV cnt cntV badS tk tkV lost
      simp only [if_neg hm, if_pos he]
      simp
  · have hv : numV s = 0 := by
      unfold num at he
      by_cases hs : s.e = 0
      · rw [if_pos hs] at he
        by_cases hk : dk s.l = 0
        · unfold numV; rw [if_pos hs, dn_none hk]
        · rw [if_neg hk] at he; exact absurd rfl he
      · exact numV_err hs
    unfold text textV cnt cntV badS tk tkV
    rw [hv]
    simp only [if_pos, if_neg he, Nat.zero_le, and_self]
theorem text_good {s : St} (h1 : (num s).e = 0) (h2 : numV s ≤ 64) (h3 : numV s ≤ (num s).l.length) : text s = ⟨(num s).l.drop (numV s), 0⟩ ∧ textV s = (num s).l.take (numV s) := by
  unfold text textV cnt cntV tk tkV
  simp only [if_pos h1, if_pos h2, if_pos h3, and_self]

set_option maxRecDepth 100000 in
set_option maxHeartbeats 1600000 in
theorem refText_get (w0 : World) (A : Option Addr) (c : Nat) (s : St) (w : World) (h0 : Sl w0 A s.l.length c s.l) (hb0 : Below w0.heap.size w0 w) (ho : Okay s) (hl : s.l.length ≤ 1000000) :
    Calls Try.prog 21 #[.agg #[.slice A s.l.length c, .int .i64 s.e]] w (GPost w0 (text s) (.string (txt (textV s))) w) := by
  have NB := Lib.hid (fun WX hb => refNum_any w0 A c s WX h0 hb ho hl)
  have TB := Lib.hid (text_bad (s := s))
  have TG := Lib.hid (text_good (s := s))
  have hN := Nat.le_trans (num_len s) hl
  have B0 := Lib.hid (((Below.refl w.heap.size w).alloc (Nat.le_refl _) (.cells #[.slice A s.l.length c, .int .i64 s.e] 53)).alloc (by simp) (.cells #[.slice none 0 0, .int .i64 0] 53))
  have HB := Lib.hid hb0
  have HNV := Lib.hid (numV_lt s)
  have hv63 : (numV s : Int) ≤ 4611686018427387903 := by have := HNV.out; omega
  clear h0 hb0 ho hl
  generalize s.l.length = n0 at *
  generalize s.e = e0 at *
  generalize num s = N at *
  generalize numV s = m at *
  go_enter Try.func21, Try.ntmps21
  go_wp2_with fail
  (with_reducible refine (NB.out _ (HB.out.trans (B0.out.mono HB.out.size))).mono ?_)
  rintro e w1 ⟨A1, c1, rfl, hs1, hb1⟩
  have S1 := Lib.hid hs1
  have hc1 := hs1.cap
  clear hs1
  have Z1 : Hid (w.heap.size + 2 ≤ w1.heap.size) := by show _ ≤ _; have := hb1.size; simp at this; omega
  obtain ⟨hc, hf⟩ := bcell hb1
  have B1 := Lib.hid hb1; clear hb1
  have z1 : w.heap.size + 1 < w1.heap.size := by have := Z1.out; omega
  by_cases hbad : N.e ≠ 0 ∨ 64 < m ∨ N.l.length < m
  · have P := Lib.hid (TB.out hbad)
    have BAD := Lib.hid (fun WX => bad_any w0 A1 N.l.length c1 N WX S1.out)
    have hcase : N.e ≠ 0 ∨ (N.e = 0 ∧ 64 < m) ∨ (N.e = 0 ∧ m ≤ 64 ∧ N.l.length < m) := by
      by_cases h1 : N.e = 0
      · by_cases h2 : m ≤ 64
        · exact .inr (.inr ⟨h1, h2, by rcases hbad with h | h | h <;> omega⟩)
        · exact .inr (.inl ⟨h1, by omega⟩)
      · exact .inl h1
    clear hbad TB TG NB
    obtain ⟨ee, hee⟩ : ∃ ee, ee = N.e := ⟨_, rfl⟩
    have EE := Lib.hid hee; clear hee
    rw [← EE.out] at BAD hcase ⊢
    obtain ⟨nl, hnl⟩ : ∃ nl, nl = N.l.length := ⟨_, rfl⟩
    have NL := Lib.hid hnl; clear hnl
    rw [← NL.out] at BAD hcase hN hc1 ⊢
    rcases hcase with hx | ⟨hx, hy⟩ | ⟨hx, hy, hz⟩
    · have hne : (ee != 0) = true := by rw [bne_iff_ne]; exact hx
      clear hx
      go_wp2_with fail
      (with_reducible refine (BAD.out _).mono ?_)
      rintro e w2 ⟨A2, c2, rfl, hs2, hb2⟩
      have T2 := Lib.hid hs2; clear hs2
      have B2 := Lib.hid (B1.out.trans ((((Below.refl w1.heap.size w1).alloc (Nat.le_refl _) _).trans (hb2.mono (by simp))).mono B1.out.size)); clear hb2 hc hf
      obtain ⟨hc, hf⟩ := bcell B2.out
      have z2 : w.heap.size + 1 < w2.heap.size := by have := B2.out.size; simp at this; omega
      go_wp2_with fail
      exact bodyPost_ret (v := .tuple #[.agg #[.slice A2 (badS N).l.length c2, .int .i64 (badS N).e], .string ⟨#[]⟩]) (by simp [results, Try.results21, go_sem, hc]) rfl (by
        rw [P.out.1, P.out.2]
        exact ⟨A2, c2, rfl, T2.out, ((B0.out.trans (B2.out.mono (by simp; omega))).setCell (by simp) _).setCell (by simp) _⟩)
    · subst hx
      go_wp2_with fail
      (with_reducible refine (BAD.out _).mono ?_)
      rintro e w2 ⟨A2, c2, rfl, hs2, hb2⟩
      have T2 := Lib.hid hs2; clear hs2
      have B2 := Lib.hid (B1.out.trans ((((Below.refl w1.heap.size w1).alloc (Nat.le_refl _) _).trans (hb2.mono (by simp))).mono B1.out.size)); clear hb2 hc hf
      obtain ⟨hc, hf⟩ := bcell B2.out
      have z2 : w.heap.size + 1 < w2.heap.size := by have := B2.out.size; simp at this; omega
      go_wp2_with fail
      exact bodyPost_ret (v := .tuple #[.agg #[.slice A2 (badS N).l.length c2, .int .i64 (badS N).e], .string ⟨#[]⟩]) (by simp [results, Try.results21, go_sem, hc]) rfl (by
        rw [P.out.1, P.out.2]
        exact ⟨A2, c2, rfl, T2.out, ((B0.out.trans (B2.out.mono (by simp; omega))).setCell (by simp) _).setCell (by simp) _⟩)
    · subst hx
      go_wp2_with fail
      (with_reducible refine (BAD.out _).mono ?_)
      rintro e w2 ⟨A2, c2, rfl, hs2, hb2⟩
      have T2 := Lib.hid hs2; clear hs2
      have B2 := Lib.hid (B1.out.trans ((((Below.refl w1.heap.size w1).alloc (Nat.le_refl _) _).trans (hb2.mono (by simp))).mono B1.out.size)); clear hb2 hc hf
      obtain ⟨hc, hf⟩ := bcell B2.out
      have z2 : w.heap.size + 1 < w2.heap.size := by have := B2.out.size; simp at this; omega
      go_wp2_with fail
      exact bodyPost_ret (v := .tuple #[.agg #[.slice A2 (badS N).l.length c2, .int .i64 (badS N).e], .string ⟨#[]⟩]) (by simp [results, Try.results21, go_sem, hc]) rfl (by
        rw [P.out.1, P.out.2]
        exact ⟨A2, c2, rfl, T2.out, ((B0.out.trans (B2.out.mono (by simp; omega))).setCell (by simp) _).setCell (by simp) _⟩)
  · have h1 : N.e = 0 := by
      by_cases h : N.e = 0
      · exact h
      · exact absurd (.inl h) hbad
    have h2 : m ≤ 64 := by omega
    have h3 : m ≤ N.l.length := by omega
    have P := Lib.hid (TG.out h1 h2 h3)
    rw [h1]
    clear hbad TB TG NB h1
    obtain ⟨nl, hnl⟩ : ∃ nl, nl = N.l.length := ⟨_, rfl⟩
    have NL := Lib.hid hnl; clear hnl
    rw [← NL.out] at h3 hN hc1 S1 ⊢
    have SLD : Hid (Sl w0 (if c1 = m then A1 else A1.map fun x => x.add m) (nl - m) (c1 - m) (N.l.drop m)) := by
      show Sl _ _ _ _ _
      by_cases hck : c1 = m
      · rw [if_pos hck]; exact S1.out.dropAll h3 hck
      · rw [if_neg hck]; exact S1.out.drop h3 hck
    have hsl : ∀ W, (Instr.slice 22 (.slice A1 nl c1) (some (.int .i64 (m : Int))) none none).run Try.prog W = .ok (.slice (if c1 = m then A1 else A1.map fun x => x.add m) (nl - m) (c1 - m)) W := cut_run A1 nl c1 m h3
    generalize (if c1 = m then A1 else A1.map fun x => x.add m) = A' at *
    have CV : Hid (∀ W, Below w0.heap.size w0 W → (convert 22 9 (.slice A1 m c1)).run Try.prog W = .ok (.string (txt (N.l.take m))) W) := fun W hW =>
      conv_rd ((S1.out.rd.take m).below hW) (by rw [List.length_take, ← NL.out]; omega)
    have BW : Hid (Below w0.heap.size w0 (w1.alloc (.cells #[.slice A1 nl c1, .int .i64 0] 53))) := by
      have hx := HB.out.trans (B0.out.mono HB.out.size)
      have hy := hx.trans (B1.out.mono hx.size)
      exact hy.alloc hy.size _
    have HS0 : Hid (Below w0.heap.size w0 (w1.alloc (.cells #[.slice A1 nl c1, .int .i64 0] 53)).drew ∧ (w1.alloc (.cells #[.slice A1 nl c1, .int .i64 0] 53)).drew.cell? ⟨w1.heap.size, 0, none⟩ = some (.slice A1 nl c1)) :=
      ⟨BW.out.drew, World.cell?_alloc_at _ _ _ _ rfl⟩
    have BV : Hid (Below w.heap.size w (((w1.setCell ⟨w.heap.size + 1, 0, none⟩ (.slice A' (nl - m) (c1 - m))).setCell ⟨w.heap.size + 1, 1, none⟩ (.int .i64 0)).alloc (.cells #[.slice A1 nl c1, .int .i64 0] 53))) := by
      have hx := B0.out.trans (B1.out.mono (by simp; omega))
      have hy := (hx.setCell (p := ⟨w.heap.size + 1, 0, none⟩) (by simp) (.slice A' (nl - m) (c1 - m))).setCell (p := ⟨w.heap.size + 1, 1, none⟩) (by simp) (.int .i64 0)
      exact hy.alloc hy.size _
    have BY := Lib.hid BV.out.drew
    have HS2 : Hid (Below w0.heap.size w0 (((w1.setCell ⟨w.heap.size + 1, 0, none⟩ (.slice A' (nl - m) (c1 - m))).setCell ⟨w.heap.size + 1, 1, none⟩ (.int .i64 0)).alloc (.cells #[.slice A1 nl c1, .int .i64 0] 53)).drew ∧ (((w1.setCell ⟨w.heap.size + 1, 0, none⟩ (.slice A' (nl - m) (c1 - m))).setCell ⟨w.heap.size + 1, 1, none⟩ (.int .i64 0)).alloc (.cells #[.slice A1 nl c1, .int .i64 0] 53)).drew.cell? ⟨w1.heap.size, 0, none⟩ = some (.slice A1 nl c1)) :=
      ⟨HB.out.trans (BY.out.mono HB.out.size), World.cell?_alloc_at _ _ _ _ (by simp [World.setCell])⟩
    have i1 : (0 : Int) ≤ (m : Int) := by omega
    have i2 : (m : Int) ≤ (c1 : Int) := by omega
    go_wp2_with fail
    refine wp_region_held_drew (S := fun W => Below w0.heap.size w0 W ∧ W.cell? ⟨w1.heap.size, 0, none⟩ = some (.slice A1 nl c1)) (by kernel_rfl) HS0.out (fun hS => ?_)
    refine tkYes 0 (v := ?_) rfl (by kernel_rfl) (fun _ _ _ h => h) rfl ?_ hS ?_
    rotate_left
    · intro W hW; go_simp; (try with_reducible rfl)
    simp only [Act.put, List.setIfInBounds_toArray, List.set_cons_zero, List.set_cons_succ]
    refine tkYes 1 (v := ?_) rfl (by kernel_rfl) (fun _ _ _ h => h) rfl ?_ hS ?_
    rotate_left
    · intro W hW; have hw2 : W.cell? ⟨w1.heap.size, 0, none⟩ = some (.slice A1 nl c1) := hW.2; go_simp; (try with_reducible rfl)
    simp only [Act.put, List.setIfInBounds_toArray, List.set_cons_zero, List.set_cons_succ]
    refine tkYes 2 (v := ?_) rfl (by kernel_rfl) (fun _ _ _ h => h) rfl ?_ hS ?_
    rotate_left
    · intro W hW; go_simp; (try with_reducible rfl)
    simp only [Act.put, List.setIfInBounds_toArray, List.set_cons_zero, List.set_cons_succ]
    refine tkYes 3 (v := ?_) rfl (by kernel_rfl) (fun _ _ _ h => h) rfl ?_ hS ?_
    rotate_left
    · intro W hW; go_simp; (try with_reducible rfl)
    simp only [Act.put, List.setIfInBounds_toArray, List.set_cons_zero, List.set_cons_succ]
    refine tkYes 4 (v := ?_) rfl (by kernel_rfl) (fun _ _ _ h => h) rfl ?_ hS ?_
    rotate_left
    · intro W hW; go_simp; (try with_reducible rfl)
    simp only [Act.put, List.setIfInBounds_toArray, List.set_cons_zero, List.set_cons_succ]
    refine tkYes 5 (v := ?_) rfl (by kernel_rfl) (fun _ _ _ h => h) rfl ?_ hS ?_
    rotate_left
    · intro W hW; go_simp; (try with_reducible rfl)
    simp only [Act.put, List.setIfInBounds_toArray, List.set_cons_zero, List.set_cons_succ]
    refine tkYes 6 (v := ?_) rfl (by kernel_rfl) (fun _ _ _ h => h) rfl ?_ hS ?_
    rotate_left
    · intro W hW; have hw2 : W.cell? ⟨w1.heap.size, 0, none⟩ = some (.slice A1 nl c1) := hW.2; go_simp; (try with_reducible rfl)
    simp only [Act.put, List.setIfInBounds_toArray, List.set_cons_zero, List.set_cons_succ]
    refine tkYes 7 (v := ?_) rfl (by kernel_rfl) (fun _ _ _ h => h) rfl ?_ hS ?_
    rotate_left
    · intro W hW; go_simp; (try with_reducible rfl)
    simp only [Act.put, List.setIfInBounds_toArray, List.set_cons_zero, List.set_cons_succ]
    refine tkYes 8 (v := ?_) rfl (by kernel_rfl) (fun _ _ _ h => h) rfl ?_ hS ?_
    rotate_left
    · intro W hW; go_simp; (try with_reducible rfl)
    simp only [Act.put, List.setIfInBounds_toArray, List.set_cons_zero, List.set_cons_succ]
    refine tkYes 9 (v := ?_) rfl (by kernel_rfl) (fun _ _ _ h => h) rfl ?_ hS ?_
    rotate_left
    · intro W hW; have hcv := CV.out W hW.1; go_simp; (try with_reducible rfl)
    simp only [Act.put, List.setIfInBounds_toArray, List.set_cons_zero, List.set_cons_succ]
    refine rnOne 10 rfl (by kernel_rfl) rfl (fun K hK => ?_)
    go_simp
    have hS2 := HS2.out
    refine hK.out _ _ hS2 (fun _ => ?_)
    clear hK K hS
    have hS := hS2
    try simp only [Act.put, List.setIfInBounds_toArray, List.set_cons_zero, List.set_cons_succ]
    refine tkYes 11 (v := ?_) rfl (by kernel_rfl) (fun _ _ _ h => h) rfl ?_ hS ?_
    rotate_left
    · intro W hW; go_simp; (try with_reducible rfl)
    simp only [Act.put, List.setIfInBounds_toArray, List.set_cons_zero, List.set_cons_succ]
    refine wpAnyH_done (by kernel_rfl) ?_ _
    clear hS hS2 hsl
    go_wp2_with fail
    exact bodyPost_ret (v := .tuple #[.agg #[.slice A' (nl - m) (c1 - m), .int .i64 0], .string (txt (N.l.take m))]) (by simp [results, Try.results21, go_sem, hc, z1]) rfl (by
      have hll : (N.l.drop m).length = nl - m := by rw [List.length_drop, ← NL.out]
      rw [P.out.1, P.out.2]
      refine ⟨A', c1 - m, ?_, ?_, BY.out⟩
      · show _ = Ending.returned (.tuple #[.agg #[.slice A' (N.l.drop m).length _, _], _])
        rw [hll]
      · show Sl _ A' (N.l.drop m).length _ _
        rw [hll]; exact SLD.out)
end Go.Proofs.Ytifokcpkamdkeaa
