/-
  Package record: a record's words. No condition.
-/
import Derived.Test.YtifokcpkamdkeaaDoorRkW
import Derived.Test.YtifokcpkamdkeaaDoorRcTxt
import Derived.Test.YtifokcpkamdkeaaDoorRcWds
import Derived.Test.YtifokcpkamdkeaaDoorTexts
namespace Go.Proofs.YtifokcpkamdkeaaDoor
open Go.RowKit Cdc
set_option linter.unusedSimpArgs false
set_option linter.unusedVariables false

theorem rptrs_cells (g : Nat) : (rptrs g).all (·.oneCell') = true := by simp [rptrs, Value.oneCell']
/-- A row of one text, new. -/
theorem ownT_one (w : World) (B : Nat) (hB : B ≤ w.heap.size) (X : ByteArray) (l : List Nat) (h : X = txt l) : OwnT (w.alloc (.cells #[.string X] 9)) B (.slice (some ⟨w.heap.size, 0, none⟩) 1 1) [l] := by
  subst h
  exact ⟨rfl, .inr ⟨w.heap.size, 1, #[.string (txt l)], rfl, hB, heap_alloc_new w _, Nat.le_refl _, (by unfold maxLen; omega : 1 ≤ maxLen), rfl, rfl⟩⟩
namespace Rc
theorem w5_take (r : R) (k : Nat) (h : k < 4) : (w5 r).take (k + 2) = (w5 r).take (k + 1) ++ [Spc.digs ((nums r).getD (k + 1) 0)] := by
  rcases k with _ | _ | _ | _ | k <;> first | rfl | omega
theorem wl_len {r : R} (hin : In r) (ht : r.text.size ≤ 64) : (Spc.join (wl r)).length ≤ 2000 := by
  have h5 := w5_len hin
  have hs := rc_text_short r.sp hin.sp
  have h6 : (Spc.join (wt r)).length ≤ 200 := by
    unfold wt
    split
    · omega
    · rw [join_more (w5_ne r), List.length_append, List.length_append, sb_length, List.length_singleton]; omega
  unfold wl
  split
  · rw [join_more (wt_ne r), List.length_append, List.length_append, List.length_singleton]; omega
  · omega
theorem wl_ne (r : R) : wl r ≠ [] := by unfold wl; split <;> simp [wt_ne]
theorem wl_few (r : R) : (wl r).length ≤ 1000 := by
  unfold wl wt
  split <;> split <;> simp [w5]
end Rc
theorem kjoin {B : Nat} {v : Value} {ws : List (List Nat)} {w : World} (h : OwnT w B v ws) (hne : ws ≠ []) (hf : ws.length ≤ 1000) (hl : (Spc.join ws).length ≤ 1000000) : Calls Tryd.prog 32 #[v, .string ⟨#[32]⟩] w (APos w (.string (txt (Spc.join ws)))) := by
  have h0 : 0 < ws.length := by rcases ws with _ | ⟨a, b⟩; exact absurd rfl hne; simp
  obtain ⟨g, c, rfl, _, hg, hc, _, _, hcell⟩ := h.form h0
  exact join_any g ws.length c ws hne rfl hf hl w hcell hg hc
set_option maxRecDepth 100000 in
set_option maxHeartbeats 6400000 in
theorem kwords_any (r : Rc.R) (hin : Rc.In r) (w : World) (ht : Tb w) : Calls Tryd.prog 11 #[.agg (Rc.cells r)] w (APos w (.string (Rc.words r))) := by
  have HI := Lib.hid hin
  have TB := Lib.hid ht
  have RA := Lib.hid (RcAt.new w r)
  have B1 := Lib.hid ((Below.refl w.heap.size w).alloc (Nat.le_refl _) (.cells (Rc.cells r) 26))
  have CR := Lib.hid (fun W => kright_any r hin W)
  have HN : Hid (∀ k, k < 5 → Spc.i64 ((Rc.nums r).getD k 0)) := fun k hk => hin.nums _ (by rw [getD_at (l := Rc.nums r) hk]; exact List.getElem_mem _)
  clear hin ht
  cases hr : Rc.right r with
  | false =>
    rw [hr] at CR
    have E : Hid (Rc.words r = ⟨#[]⟩) := by show _ = _; unfold Rc.words; rw [if_neg (by rw [hr]; simp)]
    rw [E.out]
    clear hr
    go_enter Tryd.func11, Tryd.ntmps11
    go_upto_region 1 with fail
    obtain ⟨g, hg⟩ : ∃ g, g = w.heap.size := ⟨_, rfl⟩
    rw [← hg] at RA ⊢
    clear hg
    generalize w.alloc (.cells (Rc.cells r) 26) = ws at *
    go_wp2_with (first
      | ((with_reducible show wpList _ _ _ ({ dst := some 7, op := .load _ _, type := _, pos := _, after := _, guard := _ } :: _) _ _); refine wpList_load_row rfl 26 (.tmp 1) rfl g rfl 26 _ (0, 0) _ RA.out.row rec_fields rfl (rec_size r) ?_)
      | (go_at_call 9; (with_reducible refine (CR.out _).mono ?_); rintro e w1 ⟨rfl, hb⟩; have B1 := Lib.hid (B1.out.trans (hb.mono B1.out.size)); clear hb))
    go_ret
    exact ⟨rfl, B1.out⟩
  | true =>
    rw [hr] at CR
    have LT : Hid (r.text.size ≤ 64) := (Rc.ok_of hr).text
    have E : Hid (Rc.words r = txt (Spc.join (Rc.wl r))) := by show _ = _; unfold Rc.words; rw [if_pos hr]
    rw [E.out]
    obtain ⟨ans, hans⟩ : ∃ a, a = Spc.join (Rc.wl r) := ⟨_, rfl⟩
    rw [← hans]
    have HA := Lib.hid hans
    have CNB := Lib.hid (fun g W => rnumbers_any g W)
    have CNM := Lib.hid (fun W => kname_any r.kind (HN.out 0 (by omega)) W)
    have EN : Hid (Rc.nameB r.kind = txt (Rc.nm r.kind)) := (Rc.nm_txt r.kind).symm
    rw [EN.out] at CNM
    have hsz := rptrs_size
    clear hr hans EN
    go_enter Tryd.func11, Tryd.ntmps11
    go_upto_region 1 with fail
    obtain ⟨g, hg⟩ : ∃ g, g = w.heap.size := ⟨_, rfl⟩
    rw [← hg] at RA ⊢
    clear hg
    generalize w.alloc (.cells (Rc.cells r) 26) = ws at *
    go_upto_region 4 with (first
      | ((with_reducible show wpList _ _ _ ({ dst := some 7, op := .load _ _, type := _, pos := _, after := _, guard := _ } :: _) _ _); refine wpList_load_row rfl 26 (.tmp 1) rfl g rfl 26 _ (0, 0) _ RA.out.row rec_fields rfl (rec_size r) ?_)
      | (go_at_call 9; (with_reducible refine (CR.out _).mono ?_); rintro e w1 ⟨rfl, hb⟩; have RA := Lib.hid (RA.out.on hb); have B1 := Lib.hid (B1.out.trans (hb.mono B1.out.size)); clear hb)
      | (go_at_call 16; (with_reducible refine (CNB.out _ _).mono ?_); rintro e w3 ⟨rfl, hb⟩; have RA := Lib.hid (RA.out.on hb); have B1 := Lib.hid (B1.out.trans (hb.mono B1.out.size)); clear hb; have hst := run_storeAt_new (P := Tryd.prog) w3 38 #[.pointer none, .pointer none, .pointer none, .pointer none, .pointer none] (rptrs g) (by kernel_rfl) rfl (rptrs_cells g); have hst2 := run_storeCells_new (P := Tryd.prog) w3 38 #[.pointer none, .pointer none, .pointer none, .pointer none, .pointer none] (rptrs g) (by kernel_rfl) rfl (rptrs_cells g)))
    clear hst hst2 hsz
    have QR := Lib.hid (heap_alloc_new w3 (.cells (rptrs g) 38))
    have BN := (Below.refl w3.heap.size w3).alloc (Nat.le_refl _) (.cells (rptrs g) 38)
    have RA := Lib.hid (RA.out.on BN)
    have B1 := Lib.hid (B1.out.trans (BN.mono B1.out.size))
    obtain ⟨q, hq⟩ : ∃ q, q = w3.heap.size := ⟨_, rfl⟩
    rw [← hq] at QR ⊢
    clear hq BN
    generalize w3.alloc (.cells (rptrs g) 38) = w4 at *
    obtain ⟨B, hB⟩ : ∃ B, B = w4.heap.size := ⟨_, rfl⟩
    have HB := Lib.hid hB
    clear hB
    have HQ : Hid (∀ wx, Below w4.heap.size w4 wx → wx.heap[q]? = some (.cells (rptrs g) 38 (0, 0))) := fun wx hb => blk_at QR.out hb
    have HR : Hid (∀ wx, Below w4.heap.size w4 wx → RcAt wx g r) := fun wx hb => RA.out.on hb
    obtain ⟨c0, c1, c2, c3, c4, c5, c6, c7, c8, c9, c10, c11, c12, c13, c14, c15, c16, c17, clt⟩ := RA.out.cs
    go_upto_region 5 with (go_at_call 13; (with_reducible refine (CNM.out _).mono ?_); rintro e w5 ⟨rfl, hb⟩; have B5 := Lib.hid hb; clear hb)
    clear c0 c1 c2 c3 c4 c5 c6 c7 c8 c9 c10 c11 c12 c13 c14 c15 c16 c17 clt
    have O6 := Lib.hid (ownT_one w5 B (by rw [HB.out]; exact B5.out.size) (txt (Rc.nm r.kind)) (Rc.nm r.kind) rfl)
    have B6 := Lib.hid (B5.out.alloc (by exact B5.out.size) (.cells #[.string (txt (Rc.nm r.kind))] 9))
    clear B5
    generalize w5.alloc (.cells #[.string (txt (Rc.nm r.kind))] 9) = w6 at *
    go_wp2_with fail
    go_loopw [4, 17] (fun v i wr => ∃ (k : Nat) (ws : List (List Nat)), k ≤ 4 ∧ i = .int .i64 k ∧ ws = (Rc.w5 r).take (k + 1) ∧ OwnT wr B v ws ∧ Below w4.heap.size w4 wr) (fun _ i _ => 4 - (intOf i).toNat)
    case atStart => exact ⟨0, _, by omega, rfl, rfl, O6.out, B6.out⟩
    case round =>
      obtain ⟨k, ws, hk, rfl, hws, ho, hbr⟩ := hrel
      have HWS := Lib.hid hws
      have O := Lib.hid ho
      have BR := Lib.hid hbr
      have BW := Lib.hid (B1.out.trans (hbr.mono B1.out.size))
      have HBR : Hid (B ≤ wr.heap.size) := by rw [HB.out]; exact hbr.size
      have LW : Hid (ws.length ≤ 3000000) := by rw [hws, List.length_take]; show _ ≤ _; simp [Rc.w5]; omega
      clear hws ho hbr O6 B6
      by_cases hlt : k < 4
      · have hqc : wr.cell? ⟨q, 1 + k, none⟩ = some (.pointer (some ⟨g, k + 1, none⟩)) := by
          rw [cell_of_row wr q (1 + k) _ _ _ (HQ.out wr BR.out), rptrs_at g (1 + k) (by omega), Nat.add_comm]
        have hcj := rc_at (HR.out wr BR.out) (j := k + 1) (by omega)
        have CI := Lib.hid (itoa_any ((Rc.nums r).getD (k + 1) 0) (HN.out (k + 1) (by omega)) wr (TB.out.on BW.out))
        have HN2 := Lib.hid (Rc.w5_take r k hlt)
        generalize (Rc.nums r).getD (k + 1) 0 = x at *
        obtain ⟨u, hu⟩ : ∃ u, u = Spc.digs x := ⟨_, rfl⟩
        rw [← hu] at CI HN2
        clear hu
        have i1 : (0 : Int) ≤ (k : Int) := by omega
        have i2 : (k : Int) < 4 := by omega
        go_wp2_with (first
          | (go_at_call 30; (with_reducible refine CI.out.mono ?_); rintro e w7 ⟨rfl, hb⟩; have O7 := Lib.hid (O.out.below hb); have B7 := Lib.hid (BR.out.trans (hb.mono BR.out.size)); have HB7 : Hid (B ≤ w7.heap.size) := Nat.le_trans HBR.out hb.size; clear hb)
          | (at_builtin; refine wpList_append_text rfl (.tmp 21) (.tmp 26) rfl B _ ws rfl O7.out _ u rfl rfl LW.out HB7.out ?_; intro v8 w8 ho8 hg8; have O8 := Lib.hid ho8; have B8 := Lib.hid (B7.out.grown hg8 B7.out.size (fun i hi => by have := own_base O7.out i hi; rw [HB.out] at this; exact this)); clear ho8 hg8))
        exact ⟨⟨k + 1, ws ++ [u], by omega, by go_num, by rw [HN2.out, HWS.out], O8.out, B8.out⟩, by simp [intOf]; omega⟩
      · obtain rfl : k = 4 := by omega
        have EW : Hid (ws = Rc.w5 r) := HWS.out
        clear hlt hk HWS CNB CNM CR
        have RX := Lib.hid (HR.out wr BR.out)
        obtain ⟨c0, c1, c2, c3, c4, c5, c6, c7, c8, c9, c10, c11, c12, c13, c14, c15, c16, c17, clt⟩ := RX.out.cs
        have he := text_empty r.text
        have CT := Lib.hid (fun W h => stext_any r.sp HI.out.sp W h)
        unfold Spc.val Spc.cells at CT
        have TW := Lib.hid (TB.out.on BW.out)
        have HTS : Hid (r.text = txt (sb r.text)) := (txt_sb _).symm
        by_cases h0 : r.text.size = 0
        · rw [decide_eq_true h0] at he
          have ET : Hid (Rc.wt r = ws) := by show _ = _; unfold Rc.wt; rw [if_pos h0, EW.out]
          clear h0
          by_cases hk : r.kind = 3
          · have hke : (r.kind == 3) = true := by rw [beq_iff_eq]; exact hk
            have EL : Hid (Rc.wl r = (ws) ++ [Spc.text r.sp]) := by show _ = _; unfold Rc.wl; rw [if_pos hk, ET.out]
            clear hk
            have LW5 : Hid (ws.length ≤ 5) := by rw [EW.out]; exact Nat.le_refl 5
            have HJ := Lib.hid (Rc.wl_len HI.out LT.out)
            have HF := Lib.hid (Rc.wl_few r)
            have HNE := Lib.hid (Rc.wl_ne r)
            rw [EL.out] at HJ HF HNE
            go_wp2_with (first
              | (go_at_call 31; (with_reducible refine (CT.out _ TW.out).mono ?_); rintro e w9 ⟨rfl, hb⟩; have O9 := Lib.hid (O.out.below hb); have B9 := Lib.hid (BR.out.trans (hb.mono BR.out.size)); have HB9 : Hid (B ≤ w9.heap.size) := Nat.le_trans HBR.out hb.size; clear hb)
              | (at_builtin; refine wpList_append_text rfl (.tmp 40) (.tmp 44) rfl B _ (ws) rfl O9.out _ (Spc.text r.sp) rfl rfl (by have := LW5.out; simp; omega) HB9.out ?_; intro v10 w10 ho10 hg10; have O10 := Lib.hid ho10; have B10 := Lib.hid (B9.out.grown hg10 B9.out.size (fun i hi => by have := own_base O9.out i hi; rw [HB.out] at this; exact this)); clear ho10 hg10)
              | (go_at_call 32; (with_reducible refine (kjoin O10.out HNE.out HF.out (Nat.le_trans HJ.out (by omega))).mono ?_); rintro e w11 ⟨rfl, hb⟩; have B11 := Lib.hid (B1.out.trans ((B10.out.trans (hb.mono B10.out.size)).mono B1.out.size)); clear hb))
            go_ret
            exact ⟨by rw [HA.out, EL.out]; rfl, B11.out⟩
          · have hke : (r.kind == 3) = false := by rw [beq_eq_false_iff_ne]; exact hk
            have EL : Hid (Rc.wl r = ws) := by show _ = _; unfold Rc.wl; rw [if_neg hk, ET.out]
            clear hk
            have HJ := Lib.hid (Rc.wl_len HI.out LT.out)
            have HF := Lib.hid (Rc.wl_few r)
            have HNE := Lib.hid (Rc.wl_ne r)
            rw [EL.out] at HJ HF HNE
            go_wp2_with (first
              | (go_at_call 32; (with_reducible refine (kjoin O.out HNE.out HF.out (Nat.le_trans HJ.out (by omega))).mono ?_); rintro e w11 ⟨rfl, hb⟩; have B11 := Lib.hid (B1.out.trans ((BR.out.trans (hb.mono BR.out.size)).mono B1.out.size)); clear hb))
            go_ret
            exact ⟨by rw [HA.out, EL.out]; rfl, B11.out⟩
        · rw [decide_eq_false h0] at he
          have ET : Hid (Rc.wt r = ws ++ [sb r.text]) := by show _ = _; unfold Rc.wt; rw [if_neg h0, EW.out]
          clear h0
          by_cases hk : r.kind = 3
          · have hke : (r.kind == 3) = true := by rw [beq_iff_eq]; exact hk
            have EL : Hid (Rc.wl r = (ws ++ [sb r.text]) ++ [Spc.text r.sp]) := by show _ = _; unfold Rc.wl; rw [if_pos hk, ET.out]
            clear hk
            have LW5 : Hid (ws.length ≤ 5) := by rw [EW.out]; exact Nat.le_refl 5
            have HJ := Lib.hid (Rc.wl_len HI.out LT.out)
            have HF := Lib.hid (Rc.wl_few r)
            have HNE := Lib.hid (Rc.wl_ne r)
            rw [EL.out] at HJ HF HNE
            go_wp2_with (first
              | (at_builtin; refine wpList_append_text rfl (.tmp 32) (.tmp 35) rfl B _ ws rfl O.out _ (sb r.text) HTS.out rfl LW.out HBR.out ?_; intro v8 w8 ho8 hg8; have O8 := Lib.hid ho8; have B8 := Lib.hid (BR.out.grown hg8 BR.out.size (fun i hi => by have := own_base O.out i hi; rw [HB.out] at this; exact this)); have BW8 := Lib.hid (B1.out.trans (B8.out.mono B1.out.size)); have TW8 := Lib.hid (TB.out.on BW8.out); have HB8 : Hid (B ≤ w8.heap.size) := Nat.le_trans (Nat.le_of_eq HB.out) B8.out.size; clear ho8 hg8 c0 c1 c2 c3 c4 c5 c6 c7 c8 c9 c10 c11 c12 c13 c14 c15 c16 c17 clt; have RX := Lib.hid (HR.out w8 B8.out); obtain ⟨c0, c1, c2, c3, c4, c5, c6, c7, c8, c9, c10, c11, c12, c13, c14, c15, c16, c17, clt⟩ := RX.out.cs)
              | (go_at_call 31; (with_reducible refine (CT.out _ TW8.out).mono ?_); rintro e w9 ⟨rfl, hb⟩; have O9 := Lib.hid (O8.out.below hb); have B9 := Lib.hid (B8.out.trans (hb.mono B8.out.size)); have HB9 : Hid (B ≤ w9.heap.size) := Nat.le_trans HB8.out hb.size; clear hb)
              | (at_builtin; refine wpList_append_text rfl (.tmp 40) (.tmp 44) rfl B _ (ws ++ [sb r.text]) rfl O9.out _ (Spc.text r.sp) rfl rfl (by have := LW5.out; simp; omega) HB9.out ?_; intro v10 w10 ho10 hg10; have O10 := Lib.hid ho10; have B10 := Lib.hid (B9.out.grown hg10 B9.out.size (fun i hi => by have := own_base O9.out i hi; rw [HB.out] at this; exact this)); clear ho10 hg10)
              | (go_at_call 32; (with_reducible refine (kjoin O10.out HNE.out HF.out (Nat.le_trans HJ.out (by omega))).mono ?_); rintro e w11 ⟨rfl, hb⟩; have B11 := Lib.hid (B1.out.trans ((B10.out.trans (hb.mono B10.out.size)).mono B1.out.size)); clear hb))
            go_ret
            exact ⟨by rw [HA.out, EL.out, List.append_assoc]; rfl, B11.out⟩
          · have hke : (r.kind == 3) = false := by rw [beq_eq_false_iff_ne]; exact hk
            have EL : Hid (Rc.wl r = ws ++ [sb r.text]) := by show _ = _; unfold Rc.wl; rw [if_neg hk, ET.out]
            clear hk
            have HJ := Lib.hid (Rc.wl_len HI.out LT.out)
            have HF := Lib.hid (Rc.wl_few r)
            have HNE := Lib.hid (Rc.wl_ne r)
            rw [EL.out] at HJ HF HNE
            go_wp2_with (first
              | (at_builtin; refine wpList_append_text rfl (.tmp 32) (.tmp 35) rfl B _ ws rfl O.out _ (sb r.text) HTS.out rfl LW.out HBR.out ?_; intro v8 w8 ho8 hg8; have O8 := Lib.hid ho8; have B8 := Lib.hid (BR.out.grown hg8 BR.out.size (fun i hi => by have := own_base O.out i hi; rw [HB.out] at this; exact this)); have BW8 := Lib.hid (B1.out.trans (B8.out.mono B1.out.size)); have TW8 := Lib.hid (TB.out.on BW8.out); have HB8 : Hid (B ≤ w8.heap.size) := Nat.le_trans (Nat.le_of_eq HB.out) B8.out.size; clear ho8 hg8 c0 c1 c2 c3 c4 c5 c6 c7 c8 c9 c10 c11 c12 c13 c14 c15 c16 c17 clt; have RX := Lib.hid (HR.out w8 B8.out); obtain ⟨c0, c1, c2, c3, c4, c5, c6, c7, c8, c9, c10, c11, c12, c13, c14, c15, c16, c17, clt⟩ := RX.out.cs)
              | (go_at_call 32; (with_reducible refine (kjoin O8.out HNE.out HF.out (Nat.le_trans HJ.out (by omega))).mono ?_); rintro e w11 ⟨rfl, hb⟩; have B11 := Lib.hid (B1.out.trans ((B8.out.trans (hb.mono B8.out.size)).mono B1.out.size)); clear hb))
            go_ret
            exact ⟨by rw [HA.out, EL.out]; rfl, B11.out⟩
end Go.Proofs.YtifokcpkamdkeaaDoor
