/-
  The document's own journal of layer 6: Swap and Torn.
-/
import Derived.Test.YtdamnamhbjfnlaaJrnRef
import Derived.Deep.Cut
import Derived.Deep.DeepCutAuto
namespace Go.Proofs.Ytdamnamhbjfnlaa
open Go.RowKit Fr
set_option linter.unusedSimpArgs false

set_option maxRecDepth 100000 in
set_option maxHeartbeats 1600000 in
theorem jqSwap {d : Dk.St} (n c : Nat) (A : Option Addr) (ls : List (List Nat)) (w : World) (hs : SlS w A n c ls) (hl : ls.length ≤ 1000) (hpl : ∀ p ∈ ls, p.length ≤ 900000000) :
    Calls Try.prog 25 #[.agg #[.int .i64 (d.room : Nat), .string (tA d), .string (tB d)], .slice A n c] w (QPost (Jn.swap d ls) (Jn.swapE d ls) w) := by
  obtain ⟨D1, E1⟩ := two_blocks w (.cells #[.int .i64 (d.room : Nat), .string (tA d), .string (tB d)] 30) (.cells #[.int .i64 0, .string ⟨#[]⟩, .string ⟨#[]⟩] 30)
  have HB1 := Lib.hid (below_two w (.cells #[.int .i64 (d.room : Nat), .string (tA d), .string (tB d)] 30) (.cells #[.int .i64 0, .string ⟨#[]⟩, .string ⟨#[]⟩] 30))
  have HD1 := Lib.hid D1
  have HE1 := Lib.hid E1
  have H := Lib.hid hs
  have hnl : n = ls.length := hs.len
  have hn1000 : n ≤ 1000 := by omega
  have HN := Lib.hid hnl
  have HPL := Lib.hid hpl
  obtain ⟨g1, hg1⟩ : ∃ g1, g1 = w.heap.size + 1 := ⟨_, rfl⟩
  have GW : Hid (w.heap.size ≤ g1) := by show _ ≤ _; omega
  rw [← hg1] at HE1
  have HG1 := Lib.hid hg1
  clear D1 E1 hs hl hnl hpl hg1
  go_enter Try.func25, Try.ntmps25
  go_wp2_with fail
  rw [← HG1.out]
  obtain ⟨W1, hW1⟩ : ∃ W1, W1 = (w.alloc (.cells #[.int .i64 (d.room : Nat), .string (tA d), .string (tB d)] 30)).alloc (.cells #[.int .i64 0, .string ⟨#[]⟩, .string ⟨#[]⟩] 30) := ⟨_, rfl⟩
  rw [← hW1] at HB1 HD1 HE1 ⊢
  clear hW1
  go_loopw [6, 7] (fun v i wr => ∃ (m : Nat) (A' : Option Addr) (c' q : Nat), m ≤ n ∧ i = .int .i64 m ∧ (∀ j, j < m → putE (ls.getD j []) = 0) ∧ v = .slice A' q c' ∧ Sl wr A' q c' (all (ls.take m)) ∧ Below W1.heap.size W1 wr) (fun _ i _ => n - (intOf i).toNat)
  case atStart => exact ⟨0, none, 0, 0, by omega, rfl, fun j hj => absurd hj (by omega), rfl, Sl.none_ _, Below.refl _ _⟩
  case round =>
    obtain ⟨m, A', c', q, hm, rfl, hput, rfl, hsl, hb⟩ := hrel
    have S := Lib.hid hsl
    have B := Lib.hid hb
    have P := Lib.hid hput
    have BW := Lib.hid (HB1.out.trans (hb.mono HB1.out.size))
    have hq : q ≤ 1006 * m := by rw [hsl.len]; exact Jn.all_len (by rw [← HN.out]; exact hm) hput
    clear hsl hb hput
    by_cases hlt : m < n
    · have hml : m < ls.length := by rw [← HN.out]; exact hlt
      obtain ⟨b, o, rfl, hbb, hc⟩ := H.out.rd (by omega)
      obtain ⟨A2, n2, c2, hcell, hs2⟩ := hc m hml
      have c0 := (BW.out.cell (p := ⟨b, o + m, none⟩) hbb).trans hcell
      have hp9 : n2 ≤ 900000000 := by rw [hs2.len, getD_at hml]; exact HPL.out _ (List.getElem_mem hml)
      have C2 := Lib.hid (frPut_any q c' n2 c2 A' A2 (all (ls.take m)) (ls.getD m []) wr S.out (hs2.on BW.out) (by omega) hp9)
      have SN := Lib.hid (all_take_snoc hml)
      have D3 := Lib.hid (blk_on HD1.out B.out)
      have E3 := Lib.hid (blk_on HE1.out B.out)
      have PM := Lib.hid (fun he => Jn.bad_at P.out hml he)
      clear hc hcell hs2 hq hp9
      unfold FRPost at C2
      generalize all (ls.take m) = x at *
      by_cases he : putE (ls.getD m []) = 0
      · have HE := Lib.hid he
        have hpo := Jn.put_ok he
        have hL : putL x (ls.getD m []) = x ++ fr (ls.getD m []) := (put_yes hpo.1 hpo.2).2
        rw [hL, he] at C2
        have i1 : (0 : Int) ≤ (m : Int) := by omega
        have i2 : (m : Int) < (n : Int) := by omega
        obtain ⟨y, hy⟩ : ∃ y, y = (x ++ fr (ls.getD m [])).length := ⟨_, rfl⟩
        rw [← hy] at C2
        clear he hpo hL hy
        go_wp2_with fail
        (with_reducible refine C2.out.mono ?_)
        rintro e w4 ⟨A4, c4, rfl, hs4, _, hb4⟩
        have S4 := Lib.hid hs4
        have B4 := Lib.hid (B.out.trans (hb4.mono B.out.size))
        clear hs4 hb4
        go_wp2_with fail
        go_roundw
        case rel => exact ⟨m + 1, A4, c4, y, by omega, by go_num, (fun j hj => by rcases Nat.lt_or_ge j m with h | h; exact P.out j h; rw [show j = m from by omega]; exact HE.out), rfl, by rw [SN.out]; exact S4.out, B4.out⟩
        case measure => simp [intOf]; omega
      · have HBD := Lib.hid (PM.out he)
        have hne : (((putE (ls.getD m []) : Nat) : Int) != 0) = true := by rw [bne_iff_ne]; omega
        have HX : Hid (Jn.swap d ls = d ∧ Jn.swapE d ls = (putE (ls.getD m []) : Nat)) := by
          show _ ∧ _
          unfold Jn.swap Jn.swapE
          rw [HBD.out, if_pos he, if_pos he]; exact ⟨rfl, rfl⟩
        have i1 : (0 : Int) ≤ (m : Int) := by omega
        have i2 : (m : Int) < (n : Int) := by omega
        obtain ⟨y, hy⟩ : ∃ y, y = (putL x (ls.getD m [])).length := ⟨_, rfl⟩
        rw [← hy] at C2
        clear he hy HBD
        generalize putE (ls.getD m []) = z at *
        go_wp2_with fail
        (with_reducible refine C2.out.mono ?_)
        rintro e w4 ⟨A4, c4, rfl, _, _, hb4⟩
        have B4 := Lib.hid (BW.out.trans (hb4.mono BW.out.size))
        have E4 := Lib.hid (blk_on E3.out hb4)
        obtain ⟨f0, f1, f2, _, _, _⟩ := s_facts6 (blk_on D3.out hb4)
        obtain ⟨r0, r1, r2, r3, r4, r5⟩ := s_facts6 E4.out
        have E7 := Lib.hid (put3_heap E4.out (.int .i64 (d.room : Nat)) (.string (tA d)) (.string (tB d)))
        obtain ⟨t0, t1, t2⟩ := s_facts0 E7.out
        have B7 := Lib.hid (B4.out.grown (put3_grown _ g1 (.int .i64 (d.room : Nat)) (.string (tA d)) (.string (tB d))) B4.out.size (fun i hi => by injection hi with hi; rw [← hi]; exact GW.out))
        clear hb4
        go_wp2_with fail
        exact bodyPost_ret (v := .tuple #[.agg #[.int .i64 (d.room : Nat), .string (tA d), .string (tB d)], .int .i64 (z : Nat)]) (by simp [results, Try.results25, go_sem, t0, t1, t2]) rfl ⟨by rw [HX.out.1, HX.out.2], B7.out⟩
    · obtain rfl : m = n := by omega
      have HT : Hid (ls.take m = ls) := by show _ = _; rw [HN.out, List.take_length]
      have h0 := Jn.bad_none (fun j hj => P.out j (by rw [HN.out]; exact hj))
      have HX : Hid (Jn.swap d ls = Dk.swap d (all ls) ∧ Jn.swapE d ls = Dk.swapE d (all ls)) := by
        show _ ∧ _
        unfold Jn.swap Jn.swapE
        rw [h0, if_neg (by omega), if_neg (by omega)]; exact ⟨rfl, rfl⟩
      rw [HT.out] at S
      have CW := Lib.hid (fun W => qSwap (d := d) (all ls) W)
      obtain ⟨d', hd'⟩ : ∃ d', d' = Dk.swap d (all ls) := ⟨_, rfl⟩
      obtain ⟨E, hE⟩ : ∃ E, E = Dk.swapE d (all ls) := ⟨_, rfl⟩
      rw [← hd', ← hE] at CW
      have HD' := Lib.hid hd'
      have HE' := Lib.hid hE
      have hcv := conv_rd (c := c') S.out.rd S.out.len
      have E4 := Lib.hid (blk_on HE1.out B.out)
      obtain ⟨f0, f1, f2, _, _, _⟩ := s_facts6 (blk_on HD1.out B.out)
      clear hd' hE h0 hq HT
      generalize all ls = f at *
      go_wp2_with fail
      (with_reducible refine (CW.out _).mono ?_)
      rintro e w5 ⟨rfl, hb5⟩
      have B5 := Lib.hid (BW.out.trans (hb5.mono BW.out.size))
      have E5 := Lib.hid (blk_on E4.out hb5)
      obtain ⟨r0, r1, r2, r3, r4, r5⟩ := s_facts6 E5.out
      have E7 := Lib.hid (put3_heap E5.out (.int .i64 (d'.room : Nat)) (.string (tA d')) (.string (tB d')))
      obtain ⟨t0, t1, t2⟩ := s_facts0 E7.out
      have B7 := Lib.hid (B5.out.grown (put3_grown _ g1 (.int .i64 (d'.room : Nat)) (.string (tA d')) (.string (tB d'))) B5.out.size (fun i hi => by injection hi with hi; rw [← hi]; exact GW.out))
      clear hb5 f0 f1 f2 hcv
      go_wp2_with fail
      exact bodyPost_ret (v := .tuple #[.agg #[.int .i64 (d'.room : Nat), .string (tA d'), .string (tB d')], .int .i64 E]) (by simp [results, Try.results25, go_sem, t0, t1, t2]) rfl ⟨by rw [HX.out.1, HX.out.2, ← HD'.out, ← HE'.out], B7.out⟩
set_option maxRecDepth 100000 in
set_option maxHeartbeats 3200000 in
theorem jqTorn {d : Dk.St} (h : Dk.Okay d) (hb : Jn.Byt d) (n c : Nat) (A : Option Addr) (p : List Nat) (keep : Int) (w : World) (hs : Sl w A n c p) (hn : n ≤ 900000000) :
    Calls Try.prog 23 #[.agg #[.int .i64 (d.room : Nat), .string (tA d), .string (tB d)], .slice A n c, .int .i64 keep] w (QPost (Jn.torn d p keep) (Jn.tornE d p) w) := by
  have HS := Lib.hid hs
  have CA := Lib.hid (fun W (hW : Sl W A n c p) => jqAppend h n c A p W hW hn)
  have CP := Lib.hid (fun W (hW : Sl W A n c p) => frPut_any 0 0 n c none A [] p W (Sl.none_ _) hW (by omega) hn)
  obtain ⟨D1, E1⟩ := two_blocks w (.cells #[.int .i64 (d.room : Nat), .string (tA d), .string (tB d)] 30) (.cells #[.int .i64 0, .string ⟨#[]⟩, .string ⟨#[]⟩] 30)
  have HB1 := Lib.hid (below_two w (.cells #[.int .i64 (d.room : Nat), .string (tA d), .string (tB d)] 30) (.cells #[.int .i64 0, .string ⟨#[]⟩, .string ⟨#[]⟩] 30))
  obtain ⟨g1, hg1⟩ : ∃ g1, g1 = w.heap.size + 1 := ⟨_, rfl⟩
  have GW : Hid (w.heap.size ≤ g1) := by show _ ≤ _; omega
  rw [← hg1] at E1
  have HG1 := Lib.hid hg1
  have HD1 := Lib.hid D1
  have HE1 := Lib.hid E1
  have HX : Hid (Jn.torn d p keep = if Jn.appE d p ≠ 0 then d else Jn.opened (Dk.sync (Dk.write d ((fr p).take (Jn.keptN p keep))))) := rfl
  have HY : Hid (Jn.tornE d p = if Jn.appE d p ≠ 0 then Jn.appE d p else 13) := rfl
  clear D1 E1 hg1 hs
  by_cases he : Jn.appE d p = 0
  · rw [if_neg (fun hne => hne he)] at HX HY
    rw [HX.out, HY.out]
    have hpe : putE p = 0 := by
      unfold Jn.appE at he
      by_cases h0 : putE p = 0
      · exact h0
      · rw [if_pos h0] at he; omega
    have hpo := Jn.put_ok hpe
    have hL : putL [] p = fr p := by rw [(put_yes hpo.1 hpo.2).2]; rfl
    rw [he] at CA
    unfold FRPost at CP
    rw [hL, hpe] at CP
    have hfb : ∀ x ∈ fr p, x < 256 := fr_byte HS.out.rd.1
    have hfl : (fr p).length ≤ 1006 := by rw [fr_length]; omega
    have hk : min (max keep 0) ((fr p).length : Int) = (Jn.keptN p keep : Nat) := by unfold Jn.keptN; omega
    have hkl : Jn.keptN p keep ≤ (fr p).length := by unfold Jn.keptN; omega
    obtain ⟨f, hf⟩ : ∃ f, f = fr p := ⟨_, rfl⟩
    rw [← hf] at CP hfb hfl hk hkl ⊢
    obtain ⟨k, hkk⟩ : ∃ k, k = Jn.keptN p keep := ⟨_, rfl⟩
    rw [← hkk] at hk hkl ⊢
    have hkb : ∀ x ∈ f.take k, x < 256 := fun x hx => hfb x (List.mem_of_mem_take hx)
    have ok1 := h.write (f.take k)
    have by1 : Jn.Byt (Dk.write d (f.take k)) := hb.write hkb
    have CW := Lib.hid (fun W => qWrite h (f.take k) (by rw [List.length_take]; omega) W)
    have CS := Lib.hid (fun W => qSync ok1 W)
    have CO := Lib.hid (fun W => jqOpen ok1.sync by1.sync W)
    obtain ⟨d1, hd1⟩ : ∃ d1, d1 = Dk.write d (f.take k) := ⟨_, rfl⟩
    rw [← hd1] at CW CS CO ⊢
    obtain ⟨d2, hd2⟩ : ∃ d2, d2 = Dk.sync d1 := ⟨_, rfl⟩
    rw [← hd2] at CS CO ⊢
    obtain ⟨d3, hd3⟩ : ∃ d3, d3 = Jn.opened d2 := ⟨_, rfl⟩
    rw [← hd3] at CO ⊢
    obtain ⟨E1, hE1⟩ : ∃ E1, E1 = Dk.writeE d (f.take k) := ⟨_, rfl⟩
    rw [← hE1] at CW
    generalize Dk.opens d1 = E2 at *
    generalize ((d2.l.length : Nat) : Int) - (Jn.cutN d2 : Nat) = E3 at *
    obtain ⟨da, hda⟩ : ∃ da, da = Jn.app d p := ⟨_, rfl⟩
    rw [← hda] at CA
    have HK := Lib.hid hkl
    have HF := Lib.hid hfb
    have hkk2 : (k : Int) ≤ ((f.length : Nat) : Int) := by omega
    clear he hpe hpo hL hfb hf hkk hkb ok1 by1 hd1 hd2 hd3 hE1 hda h hb HX HY
    go_enter Try.func23, Try.ntmps23
    go_wp2_with fail
    rw [← HG1.out]
    (with_reducible refine (CA.out _ (HS.out.on HB1.out)).mono ?_)
    rintro e w2 ⟨rfl, hb2⟩
    have hb2a := hb2.trans ((alloc_below w2 (.cells #[.int .i64 (da.room : Nat), .string (tA da), .string (tB da)] 30)).mono hb2.size)
    have B2 := Lib.hid (HB1.out.trans (hb2a.mono HB1.out.size))
    have D2 := Lib.hid (blk_on HD1.out hb2a)
    have E2b := Lib.hid (blk_on HE1.out hb2a)
    clear hb2 hb2a
    go_wp2_with fail
    (with_reducible refine (CP.out _ (HS.out.on B2.out)).mono ?_)
    rintro e w3 ⟨A3, c3, rfl, hs3, _, hb3⟩
    have B3 := Lib.hid (B2.out.trans (hb3.mono B2.out.size))
    have D3 := Lib.hid (blk_on D2.out hb3)
    have E3b := Lib.hid (blk_on E2b.out hb3)
    have S3 := Lib.hid hs3
    have hkc : k ≤ c3 := Nat.le_trans HK.out hs3.cap
    clear hb3 hs3
    go_upto_region 6 with fail
    obtain ⟨W6, hW6⟩ : ∃ W6, W6 = w3 := ⟨_, rfl⟩
    rw [← hW6] at B3 D3 E3b S3 ⊢
    clear hW6
    go_cut [13, 14] (fun s13 s14 wx => ∃ g6, s13 = .pointer (some ⟨g6, 0, none⟩) ∧ s14 = .int .i64 E1 ∧ wx.heap[g6]? = some (.cells #[.int .i64 (d1.room : Nat), .string (tA d1), .string (tB d1)] 30) ∧ Below W6.heap.size W6 wx)
    case first =>
      refine wp_region_held_drew (S := fun W => Below W6.heap.size W6 W) (by kernel_rfl) (Below.refl W6.heap.size W6).drew (fun hS => ?_)
      refine tkYes 0 (v := ?_) rfl (by kernel_rfl) (fun _ _ _ h => h) rfl ?_ hS ?_
      rotate_left
      · intro W hW; have hW1 : Below W6.heap.size W6 W := hW; obtain ⟨q0, q1, q2⟩ := s_facts0 (blk_on D3.out hW1); go_simp; (try with_reducible rfl)
      simp only [Act.put, List.setIfInBounds_toArray, List.set_cons_zero, List.set_cons_succ]
      refine tkYes 1 (v := ?_) rfl (by kernel_rfl) (fun _ _ _ h => h) rfl ?_ hS ?_
      rotate_left
      · intro W hW; go_simp; (try with_reducible rfl)
      simp only [Act.put, List.setIfInBounds_toArray, List.set_cons_zero, List.set_cons_succ]
      refine tkYes 2 (v := ?_) rfl (by kernel_rfl) (fun _ _ _ h => h) rfl ?_ hS ?_
      rotate_left
      · intro W hW; go_simp; (try with_reducible rfl)
      simp only [Act.put, List.setIfInBounds_toArray, List.set_cons_zero, List.set_cons_succ]
      refine tkYes 3 (v := ?_) rfl (by kernel_rfl) (fun _ _ _ h => h) rfl ?_ hS ?_
      rotate_left
      · intro W hW; go_simp; (try with_reducible rfl)
      simp only [Act.put, List.setIfInBounds_toArray, List.set_cons_zero, List.set_cons_succ]
      refine tkYes 4 (v := ?_) rfl (by kernel_rfl) (fun _ _ _ h => h) rfl ?_ hS ?_
      rotate_left
      · intro W hW; have hW1 : Below W6.heap.size W6 W := hW; have hcvk := conv_rd (c := c3) ((S3.out.take (k := k) HK.out).on hW1).rd ((S3.out.take (k := k) HK.out).len); go_simp; (try with_reducible rfl)
      simp only [Act.put, List.setIfInBounds_toArray, List.set_cons_zero, List.set_cons_succ]
      refine rnTwo 5 9 rfl rfl (by kernel_rfl) rfl rfl (fun K hK => ?_) (fun K hK => ?_)
      · go_simp
        (with_reducible refine (CW.out _).mono ?_)
        rintro e w7 ⟨rfl, hb7⟩
        have hS2 := hS.trans (hb7.mono hS.size)
        have BS := Lib.hid hS2
        clear hb7
        clear hS
        have hS := hS2
        clear hS2
        refine hK.out _ _ hS (fun _ => ?_)
        clear hK K
        try simp only [Act.put, List.setIfInBounds_toArray, List.set_cons_zero, List.set_cons_succ]
        refine tkYes 6 (v := ?_) rfl (by kernel_rfl) (fun _ _ _ h => h) rfl ?_ hS ?_
        rotate_left
        · intro W hW; go_simp; (try with_reducible rfl)
        simp only [Act.put, List.setIfInBounds_toArray, List.set_cons_zero, List.set_cons_succ]
        refine tkYes 7 (v := ?_) rfl (by kernel_rfl) (fun _ _ _ h => h) rfl ?_ hS ?_
        rotate_left
        · intro W hW; go_simp; (try with_reducible rfl)
        simp only [Act.put, List.setIfInBounds_toArray, List.set_cons_zero, List.set_cons_succ]
        refine tkYes 8 (v := ?_) rfl (by kernel_rfl) (fun _ _ _ h => h) rfl ?_ hS ?_
        rotate_left
        · intro W hW; go_simp; (try with_reducible rfl)
        simp only [Act.put, List.setIfInBounds_toArray, List.set_cons_zero, List.set_cons_succ]
        refine rnOne 9 rfl (by kernel_rfl) rfl (fun K hK => ?_)
        go_simp
        have hS2 := BS.out.alloc BS.out.size (.cells #[.int .i64 0, .string ⟨#[]⟩, .string ⟨#[]⟩] 30)
        clear hS
        have hS := hS2
        clear hS2
        refine hK.out _ _ hS (fun _ => ?_)
        clear hK K
        try simp only [Act.put, List.setIfInBounds_toArray, List.set_cons_zero, List.set_cons_succ]
        refine rnOne 10 rfl (by kernel_rfl) rfl (fun K hK => ?_)
        go_simp
        have hS2 := BS.out.alloc BS.out.size (.cells #[.int .i64 (d1.room : Nat), .string (tA d1), .string (tB d1)] 30)
        clear hS
        have hS := hS2
        clear hS2
        refine hK.out _ _ hS (fun _ => ?_)
        clear hK K
        try simp only [Act.put, List.setIfInBounds_toArray, List.set_cons_zero, List.set_cons_succ]
        refine tkYes 11 (v := ?_) rfl (by kernel_rfl) (fun _ _ _ h => h) rfl ?_ hS ?_
        rotate_left
        · intro W hW; go_simp; (try with_reducible rfl)
        simp only [Act.put, List.setIfInBounds_toArray, List.set_cons_zero, List.set_cons_succ]
        refine wpAnyH_done (by kernel_rfl) ?_ _
        go_wp2_with fail
        go_meet
        case rel => exact ⟨_, rfl, rfl, heap_alloc_new w7 _, hS⟩
      · go_simp
        have hS2 := hS.alloc hS.size (.cells #[.int .i64 0, .string ⟨#[]⟩, .string ⟨#[]⟩] 30)
        have G0 := Lib.hid hS.size
        have N0 : (W6.drew.alloc (.cells #[.int .i64 0, .string ⟨#[]⟩, .string ⟨#[]⟩] 30)).heap[W6.heap.size]? = some (.cells #[.int .i64 0, .string ⟨#[]⟩, .string ⟨#[]⟩] 30) := heap_alloc_new W6.drew _
        have HN0 := Lib.hid N0
        clear N0
        clear hS
        have hS := hS2
        clear hS2
        refine hK.out _ _ hS (fun _ => ?_)
        clear hK K
        try simp only [Act.put, List.setIfInBounds_toArray, List.set_cons_zero, List.set_cons_succ]
        refine rnOne 5 rfl (by kernel_rfl) rfl (fun K hK => ?_)
        go_simp
        (with_reducible refine (CW.out _).mono ?_)
        rintro e w7 ⟨rfl, hb7⟩
        have hS2 := hS.trans (hb7.mono hS.size)
        have BS := Lib.hid hS2
        have N1 := Lib.hid (blk_on HN0.out hb7)
        obtain ⟨r0, r1, r2, r3, r4, r5⟩ := s_facts6 N1.out
        clear hb7
        clear hS
        have hS := hS2
        clear hS2
        refine hK.out _ _ hS (fun _ => ?_)
        clear hK K
        try simp only [Act.put, List.setIfInBounds_toArray, List.set_cons_zero, List.set_cons_succ]
        refine tkYes 6 (v := ?_) rfl (by kernel_rfl) (fun _ _ _ h => h) rfl ?_ hS ?_
        rotate_left
        · intro W hW; go_simp; (try with_reducible rfl)
        simp only [Act.put, List.setIfInBounds_toArray, List.set_cons_zero, List.set_cons_succ]
        refine tkYes 7 (v := ?_) rfl (by kernel_rfl) (fun _ _ _ h => h) rfl ?_ hS ?_
        rotate_left
        · intro W hW; go_simp; (try with_reducible rfl)
        simp only [Act.put, List.setIfInBounds_toArray, List.set_cons_zero, List.set_cons_succ]
        refine tkYes 8 (v := ?_) rfl (by kernel_rfl) (fun _ _ _ h => h) rfl ?_ hS ?_
        rotate_left
        · intro W hW; go_simp; (try with_reducible rfl)
        simp only [Act.put, List.setIfInBounds_toArray, List.set_cons_zero, List.set_cons_succ]
        refine rnOne 10 rfl (by kernel_rfl) rfl (fun K hK => ?_)
        go_simp
        have hS2 := BS.out.grown (put3_grown _ W6.heap.size (.int .i64 (d1.room : Nat)) (.string (tA d1)) (.string (tB d1))) BS.out.size (fun i hi => by injection hi with hi; rw [← hi]; exact G0.out)
        have N2 := Lib.hid (put3_heap N1.out (.int .i64 (d1.room : Nat)) (.string (tA d1)) (.string (tB d1)))
        clear hS
        have hS := hS2
        clear hS2
        refine hK.out _ _ hS (fun _ => ?_)
        clear hK K
        try simp only [Act.put, List.setIfInBounds_toArray, List.set_cons_zero, List.set_cons_succ]
        refine tkYes 11 (v := ?_) rfl (by kernel_rfl) (fun _ _ _ h => h) rfl ?_ hS ?_
        rotate_left
        · intro W hW; go_simp; (try with_reducible rfl)
        simp only [Act.put, List.setIfInBounds_toArray, List.set_cons_zero, List.set_cons_succ]
        refine wpAnyH_done (by kernel_rfl) ?_ _
        go_wp2_with fail
        go_meet
        case rel => exact ⟨_, rfl, rfl, N2.out, hS⟩
    case rest =>
      obtain ⟨g6, rfl, rfl, hn6, hb6⟩ := hcut
      have B6 := Lib.hid (B3.out.trans (hb6.mono B3.out.size))
      have E6 := Lib.hid (blk_on E3b.out hb6)
      obtain ⟨f0, f1, f2, _, _, _⟩ := s_facts6 hn6
      clear hb6 hn6
      go_wp2_with fail
      (with_reducible refine (CS.out _).mono ?_)
      rintro e w7 ⟨rfl, hb7⟩
      have hb7a := hb7.trans ((alloc_below w7 (.cells #[.int .i64 (d2.room : Nat), .string (tA d2), .string (tB d2)] 30)).mono hb7.size)
      have B7 := Lib.hid (B6.out.trans (hb7a.mono B6.out.size))
      have E7 := Lib.hid (blk_on E6.out hb7a)
      clear hb7 hb7a f0 f1 f2
      go_wp2_with fail
      (with_reducible refine (CO.out _).mono ?_)
      rintro e w8 ⟨rfl, hb8⟩
      have hb8a := hb8.trans ((alloc_below w8 (.cells #[.int .i64 (d3.room : Nat), .string (tA d3), .string (tB d3)] 30)).mono hb8.size)
      have B8 := Lib.hid (B7.out.trans (hb8a.mono B7.out.size))
      have E8 := Lib.hid (blk_on E7.out hb8a)
      obtain ⟨r0, r1, r2, r3, r4, r5⟩ := s_facts6 E8.out
      have E9 := Lib.hid (put3_heap E8.out (.int .i64 (d3.room : Nat)) (.string (tA d3)) (.string (tB d3)))
      obtain ⟨t0, t1, t2⟩ := s_facts0 E9.out
      have B9 := Lib.hid (B8.out.grown (put3_grown _ g1 (.int .i64 (d3.room : Nat)) (.string (tA d3)) (.string (tB d3))) B8.out.size (fun i hi => by injection hi with hi; rw [← hi]; exact GW.out))
      clear hb8 hb8a
      go_wp2_with fail
      exact bodyPost_ret (v := .tuple #[.agg #[.int .i64 (d3.room : Nat), .string (tA d3), .string (tB d3)], .int .i64 13]) (by simp [results, Try.results23, go_sem, t0, t1, t2]) rfl ⟨rfl, B9.out⟩
  · rw [if_pos he] at HX HY
    rw [HX.out, HY.out]
    have hne : (Jn.appE d p != 0) = true := by rw [bne_iff_ne]; exact he
    obtain ⟨da, hda⟩ : ∃ da, da = Jn.app d p := ⟨_, rfl⟩
    rw [← hda] at CA
    clear hda he h hb CP HX HY
    generalize Jn.appE d p = x at *
    go_enter Try.func23, Try.ntmps23
    go_wp2_with fail
    rw [← HG1.out]
    (with_reducible refine (CA.out _ (HS.out.on HB1.out)).mono ?_)
    rintro e w2 ⟨rfl, hb2⟩
    have hb2a := hb2.trans ((alloc_below w2 (.cells #[.int .i64 (da.room : Nat), .string (tA da), .string (tB da)] 30)).mono hb2.size)
    have B2 := Lib.hid (HB1.out.trans (hb2a.mono HB1.out.size))
    have E2 := Lib.hid (blk_on HE1.out hb2a)
    obtain ⟨f0, f1, f2, _, _, _⟩ := s_facts6 (blk_on HD1.out hb2a)
    obtain ⟨r0, r1, r2, r3, r4, r5⟩ := s_facts6 E2.out
    have E9 := Lib.hid (put3_heap E2.out (.int .i64 (d.room : Nat)) (.string (tA d)) (.string (tB d)))
    obtain ⟨t0, t1, t2⟩ := s_facts0 E9.out
    have B9 := Lib.hid (B2.out.grown (put3_grown _ g1 (.int .i64 (d.room : Nat)) (.string (tA d)) (.string (tB d))) B2.out.size (fun i hi => by injection hi with hi; rw [← hi]; exact GW.out))
    clear hb2 hb2a
    go_wp2_with fail
    exact bodyPost_ret (v := .tuple #[.agg #[.int .i64 (d.room : Nat), .string (tA d), .string (tB d)], .int .i64 x]) (by simp [results, Try.results23, go_sem, t0, t1, t2]) rfl ⟨rfl, B9.out⟩
end Go.Proofs.Ytdamnamhbjfnlaa
