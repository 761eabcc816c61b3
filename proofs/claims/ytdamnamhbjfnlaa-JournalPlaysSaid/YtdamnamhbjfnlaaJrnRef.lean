/-
  The document's own journal of layer 6: what each of its calls answers.
-/
import Derived.Test.YtdamnamhbjfnlaaDskRef
import Derived.Test.YtdamnamhbjfnlaaJnMath
import Derived.Test.YtdamnamhbjfnlaaFrRefScan
import Derived.Test.YtdamnamhbjfnlaaRegion
namespace Go.Proofs.Ytdamnamhbjfnlaa
open Go.RowKit Fr

theorem fs_post {l : List Nat} {w : World} {e : Ending} {w' : World} (h : FSPost l w e w') : ∃ A c, e = .returned (.tuple #[.slice A (scan l).1.length c, .int .i64 (((scan l).2.1 : Nat) : Int), .int .i64 (((scan l).2.2 : Nat) : Int)]) ∧ OwnS w' w.heap.size (.slice A (scan l).1.length c) (scan l).1 ∧ Below w.heap.size w w' := h
set_option maxHeartbeats 800000 in
theorem jqAll {d : Dk.St} (h : Dk.Okay d) (hb : Jn.Byt d) (w : World) :
    Calls Try.prog 17 #[.agg #[.int .i64 (d.room : Nat), .string (tA d), .string (tB d)]] w
      fun e w' => ∃ A c, e = .returned (.slice A (Jn.ents d).length c) ∧ OwnS w' w.heap.size (.slice A (Jn.ents d).length c) (Jn.ents d) ∧ Below w.heap.size w w' := by
  obtain ⟨hz1, hz2⟩ := t_sizes h
  have hlen : d.l.length ≤ 1048576 := Nat.le_trans h.2.1 h.2.2
  have hz : (tA d).size + (tB d).size ≤ 9223372036854775807 := by omega
  have hab := tAB d
  obtain ⟨A3, c3, W3, hcv, h3, hb3⟩ := conv_txt d.l hb (w.alloc (.cells #[.int .i64 (d.room : Nat), .string (tA d), .string (tB d)] 30)) (by omega)
  have B1 := (Below.refl w.heap.size w).alloc (Nat.le_refl _) (.cells #[.int .i64 (d.room : Nat), .string (tA d), .string (tB d)] 30)
  have B3 := Lib.hid (B1.trans (hb3.mono B1.size))
  have C4 := Lib.hid (frScan_any d.l.length c3 A3 d.l W3 h3 (by omega))
  have EN : Hid ((Jn.ents d) = (scan d.l).1) := rfl
  obtain ⟨q, hq⟩ : ∃ q, q = (scan d.l).1.length := ⟨_, rfl⟩
  have HQ := Lib.hid hq
  clear h3 hb3 B1 hlen hz1 hz2 hq
  go_enter Try.func17, Try.ntmps17
  go_wp2_with fail
  (with_reducible refine C4.out.mono ?_)
  rintro e w4 hp
  obtain ⟨A4, c4, rfl, ho4, hb4⟩ := fs_post hp
  have O4 := Lib.hid ho4
  have B4 := Lib.hid (B3.out.trans (hb4.mono B3.out.size))
  rw [← HQ.out]
  clear hp ho4 hb4 hcv
  go_wp2_with fail
  go_ret
  rw [EN.out]
  exact ⟨A4, c4, by rw [← HQ.out]; rfl, by have := O4.out.lower B3.out.size; exact this, B4.out⟩
set_option maxHeartbeats 800000 in
theorem jqSafe {d : Dk.St} (h : Dk.Okay d) (hb : Jn.Byt d) (w : World) :
    Calls Try.prog 18 #[.agg #[.int .i64 (d.room : Nat), .string (tA d), .string (tB d)]] w fun e w' => e = .returned (.int .i64 (Jn.safeN d : Nat)) ∧ Below w.heap.size w w' := by
  obtain ⟨l, hl⟩ : ∃ l, l = d.l.take d.safe := ⟨_, rfl⟩
  have hlen : l.length ≤ 1048576 := by rw [hl, List.length_take]; have := h.2.1; have := h.2.2; omega
  have hbl : ∀ x ∈ l, x < 256 := fun x hx => hb x (List.mem_of_mem_take (by rw [← hl]; exact hx))
  have hA : tA d = txt l := by rw [hl]; rfl
  have SN : Hid (Jn.safeN d = (scan l).1.length) := by show _ = _; rw [hl]; rfl
  rw [hA]
  obtain ⟨A3, c3, W3, hcv, h3, hb3⟩ := conv_txt l hbl (w.alloc (.cells #[.int .i64 (d.room : Nat), .string (txt l), .string (tB d)] 30)) (by omega)
  have B1 := (Below.refl w.heap.size w).alloc (Nat.le_refl _) (.cells #[.int .i64 (d.room : Nat), .string (txt l), .string (tB d)] 30)
  have B3 := Lib.hid (B1.trans (hb3.mono B1.size))
  have C4 := Lib.hid (frScan_any l.length c3 A3 l W3 h3 (by omega))
  obtain ⟨q, hq⟩ : ∃ q, q = (scan l).1.length := ⟨_, rfl⟩
  have HQ := Lib.hid hq
  clear h3 hb3 B1 hlen hq hA hl
  go_enter Try.func18, Try.ntmps18
  go_wp2_with fail
  (with_reducible refine C4.out.mono ?_)
  rintro e w4 hp
  obtain ⟨A4, c4, rfl, ho4, hb4⟩ := fs_post hp
  have B4 := Lib.hid (B3.out.trans (hb4.mono B3.out.size))
  rw [← HQ.out]
  clear hp ho4 hb4 hcv
  go_wp2_with fail
  go_ret
  rw [SN.out, ← HQ.out]
  exact ⟨rfl, B4.out⟩
set_option maxHeartbeats 1600000 in
theorem jqOpen {d : Dk.St} (h : Dk.Okay d) (hb : Jn.Byt d) (w : World) :
    Calls Try.prog 34 #[.agg #[.int .i64 (d.room : Nat), .string (tA d), .string (tB d)]] w (QPost (Jn.opened d) ((d.l.length : Nat) - (Jn.cutN d : Nat)) w) := by
  obtain ⟨hz1, hz2⟩ := t_sizes h
  have hlen : d.l.length ≤ 1048576 := Nat.le_trans h.2.1 h.2.2
  have hz : (tA d).size + (tB d).size ≤ 9223372036854775807 := by omega
  have hab := tAB d
  have hts : (txt d.l).size = d.l.length := txt_size _
  have hcl := Jn.cutN_le d hb
  obtain ⟨hc1, hc2⟩ := Jn.cut_opened d hb
  have CC := Lib.hid (fun W => qCut h (Jn.cutN d : Nat) W)
  rw [hc1, hc2] at CC
  obtain ⟨A3, c3, W3, hcv, h3, hb3⟩ := conv_txt d.l hb ((w.alloc (.cells #[.int .i64 (d.room : Nat), .string (tA d), .string (tB d)] 30)).alloc (.cells #[.int .i64 0, .string ⟨#[]⟩, .string ⟨#[]⟩] 30)) (by omega)
  have B1 := below_two w (.cells #[.int .i64 (d.room : Nat), .string (tA d), .string (tB d)] 30) (.cells #[.int .i64 0, .string ⟨#[]⟩, .string ⟨#[]⟩] 30)
  have D1 := blk_on (heap_alloc_new w (.cells #[.int .i64 (d.room : Nat), .string (tA d), .string (tB d)] 30)) (alloc_below _ (.cells #[.int .i64 0, .string ⟨#[]⟩, .string ⟨#[]⟩] 30))
  have E1 := heap_alloc_new (w.alloc (.cells #[.int .i64 (d.room : Nat), .string (tA d), .string (tB d)] 30)) (.cells #[.int .i64 0, .string ⟨#[]⟩, .string ⟨#[]⟩] 30)
  rw [show (w.alloc (.cells #[.int .i64 (d.room : Nat), .string (tA d), .string (tB d)] 30)).heap.size = w.heap.size + 1 from by simp] at E1
  have D3 := Lib.hid (blk_on D1 hb3)
  have E3 := Lib.hid (blk_on E1 hb3)
  have B3 := Lib.hid (B1.trans (hb3.mono B1.size))
  have C4 := Lib.hid (frScan_any d.l.length c3 A3 d.l W3 h3 (by omega))
  have SN : Hid ((scan d.l).2.1 = Jn.cutN d) := rfl
  clear h3 hb3 B1 hz1 hz2 D1 E1 hc1 hc2
  obtain ⟨d', hd'⟩ : ∃ d', d' = Jn.opened d := ⟨_, rfl⟩
  rw [← hd'] at CC ⊢
  clear hd'
  generalize Jn.cutN d = k at *
  go_enter Try.func34, Try.ntmps34
  go_wp2_with fail
  (with_reducible refine C4.out.mono ?_)
  rintro e w4 hp
  obtain ⟨A4, c4, rfl, ho4, hb4⟩ := fs_post hp
  rw [SN.out]
  have B4 := Lib.hid (B3.out.trans (hb4.mono B3.out.size))
  have D4 := Lib.hid (blk_on D3.out hb4)
  have E4 := Lib.hid (blk_on E3.out hb4)
  obtain ⟨f0, f1, f2, _, _, _⟩ := s_facts6 D4.out
  obtain ⟨q, hq⟩ : ∃ q, q = (scan d.l).1.length := ⟨_, rfl⟩
  rw [← hq]
  generalize (scan d.l).2.2 = z at *
  clear hp ho4 hb4 hcv D3 E3 hq
  go_wp2_with fail
  (with_reducible refine (CC.out _).mono ?_)
  rintro e w5 ⟨rfl, hb5⟩
  have hb6 := alloc_below w5 (.cells #[.int .i64 (d'.room : Nat), .string (tA d'), .string (tB d')] 30)
  have B6 := Lib.hid ((B4.out.trans (hb5.mono B4.out.size)).trans (hb6.mono (Nat.le_trans B4.out.size hb5.size)))
  have E6 := Lib.hid (blk_on (blk_on E4.out hb5) hb6)
  obtain ⟨r0, r1, r2, r3, r4, r5⟩ := s_facts6 E6.out
  have E7 := Lib.hid (put3_heap E6.out (.int .i64 (d'.room : Nat)) (.string (tA d')) (.string (tB d')))
  obtain ⟨t0, t1, t2⟩ := s_facts0 E7.out
  have B7 := Lib.hid (B6.out.grown (put3_grown _ (w.heap.size + 1) (.int .i64 (d'.room : Nat)) (.string (tA d')) (.string (tB d'))) B6.out.size (fun i hi => by injection hi with hi; omega))
  clear hb5 hb6 f0 f1 f2
  go_wp2_with fail
  exact bodyPost_ret (v := .tuple #[.agg #[.int .i64 (d'.room : Nat), .string (tA d'), .string (tB d')], .int .i64 ((d.l.length : Nat) - (k : Nat))]) (by simp [results, Try.results34, go_sem, t0, t1, t2]) rfl ⟨rfl, B7.out⟩
/-- The two blocks that a call of the document's journal begins with: its argument, and its result. -/
theorem two_blocks (w : World) (o1 o2 : Obj) : ((w.alloc o1).alloc o2).heap[w.heap.size]? = some o1 ∧ ((w.alloc o1).alloc o2).heap[w.heap.size + 1]? = some o2 := by
  refine ⟨blk_on (heap_alloc_new w o1) (alloc_below _ o2), ?_⟩
  have := heap_alloc_new (w.alloc o1) o2
  rwa [show (w.alloc o1).heap.size = w.heap.size + 1 from by simp] at this
set_option maxHeartbeats 1600000 in
theorem jqAppend {d : Dk.St} (h : Dk.Okay d) (n c : Nat) (A : Option Addr) (p : List Nat) (w : World) (hs : Sl w A n c p) (hn : n ≤ 900000000) :
    Calls Try.prog 15 #[.agg #[.int .i64 (d.room : Nat), .string (tA d), .string (tB d)], .slice A n c] w (QPost (Jn.app d p) (Jn.appE d p) w) := by
  obtain ⟨o1, ho1⟩ : ∃ o1, o1 = Obj.cells #[.int .i64 (d.room : Nat), .string (tA d), .string (tB d)] 30 := ⟨_, rfl⟩
  obtain ⟨o2, ho2⟩ : ∃ o2, o2 = Obj.cells #[.int .i64 0, .string ⟨#[]⟩, .string ⟨#[]⟩] 30 := ⟨_, rfl⟩
  obtain ⟨D1, E1⟩ := two_blocks w o1 o2
  have B1 := below_two w o1 o2
  have C2 := Lib.hid (frPut_any 0 0 n c none A [] p ((w.alloc o1).alloc o2) (Sl.none_ _) (hs.on B1) (by omega) (by omega))
  rw [ho1, ho2] at C2 D1 E1 B1
  have HD1 := Lib.hid D1
  have HE1 := Lib.hid E1
  have HB1 := Lib.hid B1
  clear D1 E1 B1 ho1 ho2 o1 o2 hs hn
  by_cases he : putE p = 0
  · have hL : putL [] p = fr p := by
      unfold putE at he
      split at he
      · omega
      · split at he
        · omega
        · unfold putL; rw [if_neg (by omega)]; simp
    have hA : Jn.app d p = Dk.write d (fr p) ∧ Jn.appE d p = Dk.writeE d (fr p) := by
      unfold Jn.app Jn.appE
      rw [if_neg (by omega), if_neg (by omega)]; exact ⟨rfl, rfl⟩
    have hfl : (fr p).length ≤ 1000000000 := by
      rw [fr_length]
      unfold putE at he
      split at he
      · omega
      · split at he
        · omega
        · omega
    rw [hA.1, hA.2]
    have CW := Lib.hid (fun W => qWrite h (fr p) hfl W)
    obtain ⟨d', hd'⟩ : ∃ d', d' = Dk.write d (fr p) := ⟨_, rfl⟩
    obtain ⟨E, hE⟩ : ∃ E, E = Dk.writeE d (fr p) := ⟨_, rfl⟩
    rw [← hd', ← hE] at CW ⊢
    clear hd' hE hA hfl h
    unfold FRPost at C2
    rw [hL, he] at C2
    clear hL he
    generalize fr p = f at *
    go_enter Try.func15, Try.ntmps15
    go_wp2_with fail
    (with_reducible refine C2.out.mono ?_)
    rintro e w4 ⟨A4, c4, rfl, hs4, _, hb4⟩
    have B4 := Lib.hid (HB1.out.trans (hb4.mono HB1.out.size))
    have E4 := Lib.hid (blk_on HE1.out hb4)
    obtain ⟨f0, f1, f2, _, _, _⟩ := s_facts6 (blk_on HD1.out hb4)
    have hcv := conv_rd (c := c4) hs4.rd rfl
    clear hs4 hb4
    go_wp2_with fail
    (with_reducible refine (CW.out _).mono ?_)
    rintro e w5 ⟨rfl, hb5⟩
    have B5 := Lib.hid (B4.out.trans (hb5.mono B4.out.size))
    have E5 := Lib.hid (blk_on E4.out hb5)
    obtain ⟨r0, r1, r2, r3, r4, r5⟩ := s_facts6 E5.out
    have E7 := Lib.hid (put3_heap E5.out (.int .i64 (d'.room : Nat)) (.string (tA d')) (.string (tB d')))
    obtain ⟨t0, t1, t2⟩ := s_facts0 E7.out
    have B7 := Lib.hid (B5.out.grown (put3_grown _ (w.heap.size + 1) (.int .i64 (d'.room : Nat)) (.string (tA d')) (.string (tB d'))) B5.out.size (fun i hi => by injection hi with hi; omega))
    clear hb5 f0 f1 f2 hcv
    go_wp2_with fail
    exact bodyPost_ret (v := .tuple #[.agg #[.int .i64 (d'.room : Nat), .string (tA d'), .string (tB d')], .int .i64 E]) (by simp [results, Try.results15, go_sem, t0, t1, t2]) rfl ⟨rfl, B7.out⟩
  · have hA : Jn.app d p = d ∧ Jn.appE d p = (putE p : Nat) := by
      unfold Jn.app Jn.appE
      rw [if_pos he, if_pos he]; exact ⟨rfl, rfl⟩
    rw [hA.1, hA.2]
    have hne : (((putE p : Nat) : Int) != 0) = true := by rw [bne_iff_ne]; omega
    clear hA he h
    unfold FRPost at C2
    obtain ⟨q, hq⟩ : ∃ q, q = (putL [] p).length := ⟨_, rfl⟩
    rw [← hq] at C2
    generalize putE p = x at *
    clear hq
    go_enter Try.func15, Try.ntmps15
    go_wp2_with fail
    (with_reducible refine C2.out.mono ?_)
    rintro e w4 ⟨A4, c4, rfl, _, _, hb4⟩
    have B4 := Lib.hid (HB1.out.trans (hb4.mono HB1.out.size))
    have E4 := Lib.hid (blk_on HE1.out hb4)
    obtain ⟨f0, f1, f2, _, _, _⟩ := s_facts6 (blk_on HD1.out hb4)
    obtain ⟨r0, r1, r2, r3, r4, r5⟩ := s_facts6 E4.out
    have E7 := Lib.hid (put3_heap E4.out (.int .i64 (d.room : Nat)) (.string (tA d)) (.string (tB d)))
    obtain ⟨t0, t1, t2⟩ := s_facts0 E7.out
    have B7 := Lib.hid (B4.out.grown (put3_grown _ (w.heap.size + 1) (.int .i64 (d.room : Nat)) (.string (tA d)) (.string (tB d))) B4.out.size (fun i hi => by injection hi with hi; omega))
    clear hb4
    go_wp2_with fail
    exact bodyPost_ret (v := .tuple #[.agg #[.int .i64 (d.room : Nat), .string (tA d), .string (tB d)], .int .i64 (x : Nat)]) (by simp [results, Try.results15, go_sem, t0, t1, t2]) rfl ⟨rfl, B7.out⟩
set_option maxRecDepth 100000 in
set_option maxHeartbeats 1600000 in
theorem jqCrash {d : Dk.St} (h : Dk.Okay d) (hb : Jn.Byt d) (keep : Int) (w : World) :
    Calls Try.prog 21 #[.agg #[.int .i64 (d.room : Nat), .string (tA d), .string (tB d)], .int .i64 keep] w (QPost (Jn.crash d keep) (Jn.lost d keep) w) := by
  have CA := Lib.hid (fun W => jqAll h hb W)
  have CC := Lib.hid (fun W => qCrash h keep W)
  have CO := Lib.hid (fun W => jqOpen (h.crash keep) (hb.crash keep) W)
  have CB := Lib.hid (fun W => jqAll (Jn.okay_opened (h.crash keep) (hb.crash keep)) (hb.crash keep).opened W)
  have HX : Hid (Jn.lost d keep = ((Jn.ents d).length : Nat) - ((Jn.ents (Jn.opened (Dk.crash d keep))).length : Nat)) := rfl
  have HY : Hid (Jn.crash d keep = Jn.opened (Dk.crash d keep)) := rfl
  rw [HX.out, HY.out]
  have hc1 := Jn.scan_small h
  have hc2 := Jn.scan_small (Jn.okay_opened (h.crash keep) (hb.crash keep))
  obtain ⟨D1, E1⟩ := two_blocks w (.cells #[.int .i64 (d.room : Nat), .string (tA d), .string (tB d)] 30) (.cells #[.int .i64 0, .string ⟨#[]⟩, .string ⟨#[]⟩] 30)
  have HB1 := Lib.hid (below_two w (.cells #[.int .i64 (d.room : Nat), .string (tA d), .string (tB d)] 30) (.cells #[.int .i64 0, .string ⟨#[]⟩, .string ⟨#[]⟩] 30))
  have HD1 := Lib.hid D1
  have HE1 := Lib.hid E1
  obtain ⟨d2, hd2⟩ : ∃ d2, d2 = Jn.opened (Dk.crash d keep) := ⟨_, rfl⟩
  rw [← hd2] at CO CB hc2 ⊢
  obtain ⟨x2, hx2⟩ : ∃ x, x = (Jn.ents d2).length := ⟨_, rfl⟩
  rw [← hx2] at CB hc2 ⊢
  obtain ⟨d1, hd1⟩ : ∃ d1, d1 = Dk.crash d keep := ⟨_, rfl⟩
  rw [← hd1] at CC CO
  obtain ⟨x1, hx1⟩ : ∃ x, x = (Jn.ents d).length := ⟨_, rfl⟩
  rw [← hx1] at CA hc1 ⊢
  generalize Dk.lost d keep = y at *
  generalize (d1.l.length : Int) - (Jn.cutN d1 : Nat) = z at *
  clear D1 E1 hd2 hx2 hd1 hx1 HX HY h hb
  go_enter Try.func21, Try.ntmps21
  go_wp2_with fail
  (with_reducible refine (CA.out _).mono ?_)
  rintro e w2 ⟨A2, c2, rfl, _, hb2⟩
  have B2 := Lib.hid (HB1.out.trans (hb2.mono HB1.out.size))
  have E2 := Lib.hid (blk_on HE1.out hb2)
  obtain ⟨f0, f1, f2, _, _, _⟩ := s_facts6 (blk_on HD1.out hb2)
  clear hb2
  go_wp2_with fail
  (with_reducible refine (CC.out _).mono ?_)
  rintro e w3 ⟨rfl, hb3⟩
  have hb3a := hb3.trans ((alloc_below w3 (.cells #[.int .i64 (d1.room : Nat), .string (tA d1), .string (tB d1)] 30)).mono hb3.size)
  have B3 := Lib.hid (B2.out.trans (hb3a.mono B2.out.size))
  have E3 := Lib.hid (blk_on E2.out hb3a)
  clear f0 f1 f2 hb3 hb3a
  go_wp2_with fail
  (with_reducible refine (CO.out _).mono ?_)
  rintro e w4 ⟨rfl, hb4⟩
  have B4 := Lib.hid (B3.out.trans (hb4.mono B3.out.size))
  have E4 := Lib.hid (blk_on E3.out hb4)
  have B5 := Lib.hid (B4.out.trans ((alloc_below w4 (.cells #[.int .i64 (d2.room : Nat), .string (tA d2), .string (tB d2)] 30)).mono B4.out.size))
  have E5 := Lib.hid (blk_on E4.out (alloc_below w4 (.cells #[.int .i64 (d2.room : Nat), .string (tA d2), .string (tB d2)] 30)))
  have D5 := Lib.hid (heap_alloc_new w4 (.cells #[.int .i64 (d2.room : Nat), .string (tA d2), .string (tB d2)] 30))
  clear hb4
  go_wp2_with fail
  obtain ⟨W5, hW5⟩ : ∃ W5, W5 = w4.alloc (.cells #[.int .i64 (d2.room : Nat), .string (tA d2), .string (tB d2)] 30) := ⟨_, rfl⟩
  obtain ⟨g5, hg5⟩ : ∃ g5, g5 = w4.heap.size := ⟨_, rfl⟩
  rw [← hW5, ← hg5] at D5
  rw [← hW5] at B5 E5
  have HR : Hid (g5 ≠ w.heap.size + 1) := by show _ ≠ _; rw [hg5]; have := (Array.getElem?_eq_some_iff.1 E4.out).1; omega
  rw [← hW5, ← hg5]
  clear hW5 hg5
  have B5d := Lib.hid B5.out.drew
  have E5d := Lib.hid (blk_on E5.out (Below.refl _ _).drew)
  have hwx : IntKind.i64.wrap ((x1 : Int) - (x2 : Int)) = (x1 : Int) - (x2 : Int) := IntWalk.i64_in _ (by omega)
  refine wp_region_held_drew (S := fun W => W.heap[g5]? = some (.cells #[.int .i64 (d2.room : Nat), .string (tA d2), .string (tB d2)] 30)) (by kernel_rfl) (blk_on D5.out (Below.refl _ _).drew) (fun hS => ?_)
  refine tkYes 0 (v := ?_) rfl (by kernel_rfl) (fun _ _ _ h => h) rfl ?_ hS ?_
  rotate_left
  · intro W hW; obtain ⟨q0, q1, q2⟩ := s_facts0 (show W.heap[g5]? = some (.cells #[.int .i64 (d2.room : Nat), .string (tA d2), .string (tB d2)] 30) from hW); go_simp; (try with_reducible rfl)
  simp only [Act.put, List.setIfInBounds_toArray, List.set_cons_zero, List.set_cons_succ]
  refine tkYes 1 (v := ?_) rfl (by kernel_rfl) (fun _ _ _ h => h) rfl ?_ hS ?_
  rotate_left
  · intro W hW; go_simp; (try with_reducible rfl)
  simp only [Act.put, List.setIfInBounds_toArray, List.set_cons_zero, List.set_cons_succ]
  refine tkYes 2 (v := ?_) rfl (by kernel_rfl) (fun _ _ _ h => h) rfl ?_ hS ?_
  rotate_left
  · intro W hW; obtain ⟨q0, q1, q2⟩ := s_facts0 (show W.heap[g5]? = some (.cells #[.int .i64 (d2.room : Nat), .string (tA d2), .string (tB d2)] 30) from hW); go_simp; (try with_reducible rfl)
  simp only [Act.put, List.setIfInBounds_toArray, List.set_cons_zero, List.set_cons_succ]
  refine rnOne 3 rfl (by kernel_rfl) rfl (fun K hK => ?_)
  go_simp
  (with_reducible refine (CB.out _).mono ?_)
  rintro e w6 ⟨A6, c6, rfl, _, hb6⟩
  have hS2 := blk_on hS hb6
  have B6 := Lib.hid (B5d.out.trans (hb6.mono B5d.out.size))
  have E6 := Lib.hid (blk_on E5d.out hb6)
  clear hS hb6
  have hS := hS2
  clear hS2
  obtain ⟨r0, r1, r2, r3, r4, r5⟩ := s_facts6 E6.out
  refine hK.out _ _ hS (fun _ => ?_)
  clear hK K
  try simp only [Act.put, List.setIfInBounds_toArray, List.set_cons_zero, List.set_cons_succ]
  refine tkYes 4 (v := ?_) rfl (by kernel_rfl) (fun _ _ _ h => h) rfl ?_ hS ?_
  rotate_left
  · intro W hW; go_simp; (try with_reducible rfl)
  simp only [Act.put, List.setIfInBounds_toArray, List.set_cons_zero, List.set_cons_succ]
  refine tkYes 5 (v := ?_) rfl (by kernel_rfl) (fun _ _ _ h => h) rfl ?_ hS ?_
  rotate_left
  · intro W hW; go_simp; (try with_reducible rfl)
  simp only [Act.put, List.setIfInBounds_toArray, List.set_cons_zero, List.set_cons_succ]
  refine rnOne 6 rfl (by kernel_rfl) rfl (fun K hK => ?_)
  go_simp
  have E7 := Lib.hid (put3_heap E6.out (.int .i64 (d2.room : Nat)) (.string (tA d2)) (.string (tB d2)))
  have B7 := Lib.hid (B6.out.grown (put3_grown _ (w.heap.size + 1) (.int .i64 (d2.room : Nat)) (.string (tA d2)) (.string (tB d2))) B6.out.size (fun i hi => by injection hi with hi; omega))
  have hS2 := blk_other hS (put3_grown _ (w.heap.size + 1) (.int .i64 (d2.room : Nat)) (.string (tA d2)) (.string (tB d2))) HR.out
  clear hS
  have hS := hS2
  clear hS2
  refine hK.out _ _ hS (fun _ => ?_)
  clear hK K
  try simp only [Act.put, List.setIfInBounds_toArray, List.set_cons_zero, List.set_cons_succ]
  refine tkYes 7 (v := ?_) rfl (by kernel_rfl) (fun _ _ _ h => h) rfl ?_ hS ?_
  rotate_left
  · intro W hW; go_simp; (try with_reducible rfl)
  simp only [Act.put, List.setIfInBounds_toArray, List.set_cons_zero, List.set_cons_succ]
  refine wpAnyH_done (by kernel_rfl) ?_ _
  obtain ⟨t0, t1, t2⟩ := s_facts0 E7.out
  go_wp2_with fail
  exact bodyPost_ret (v := .tuple #[.agg #[.int .i64 (d2.room : Nat), .string (tA d2), .string (tB d2)], .int .i64 ((x1 : Nat) - (x2 : Nat))]) (by simp [results, Try.results21, go_sem, t0, t1, t2]) rfl ⟨rfl, B7.out⟩
end Go.Proofs.Ytdamnamhbjfnlaa
