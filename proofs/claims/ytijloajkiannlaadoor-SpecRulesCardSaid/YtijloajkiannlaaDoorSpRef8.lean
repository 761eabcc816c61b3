/-
  The document's package of layer 7: the spec of a text.
-/
import Derived.Test.YtijloajkiannlaaDoorSpRef4
import Derived.Test.YtijloajkiannlaaDoorSpRef6
namespace Go.Proofs.YtijloajkiannlaaDoor
open Go.RowKit

/-- What is read. -/
def RPost (t : List Nat) (w : World) (e : Ending) (w' : World) : Prop := e = .returned (.tuple #[Spc.val (Spc.rdV t), .int .i64 (Spc.rdE t)]) ∧ Below w.heap.size w w'
theorem rd_no {t : List Nat} (h : Spc.rdE t ≠ 0) : Spc.rdV t = Spc.zero := by unfold Spc.rdV; rw [if_neg h]
theorem rd_yes {t : List Nat} (h : Spc.rdE t = 0) : Spc.rdV t = Spc.rdS t := by unfold Spc.rdV; rw [if_pos h]
theorem rd_form {t : List Nat} (h : (Spc.words t).length ≠ 12 ∨ ∃ j, j < (Spc.words t).length ∧ Spc.numB ((Spc.words t).getD j []) = false) : Spc.rdE t = 2 := by
  unfold Spc.rdE
  rw [if_pos]
  rcases h with h | ⟨j, h1, h2⟩
  · exact .inl h
  · refine .inr fun hall => ?_
    have := hall ((Spc.words t).getD j []) (by rw [getD_at h1]; exact List.getElem_mem h1)
    rw [h2] at this
    cases this
theorem rd_spec {t : List Nat} (h : (Spc.words t).length = 12) (hall : ∀ j, j < 12 → Spc.numB ((Spc.words t).getD j []) = true) : Spc.rdE t = Spc.chkE (Spc.rdS t) := by
  unfold Spc.rdE
  rw [if_neg]
  rintro (h1 | h1)
  · exact h1 h
  · refine h1 fun u hu => ?_
    obtain ⟨j, hj, rfl⟩ := List.mem_iff_getElem.1 hu
    have := hall j (by omega)
    rwa [getD_at hj] at this
theorem zero_val : Spc.val Spc.zero = .agg #[.int .i64 0, .int .i64 0, .int .i64 0, .int .i64 0, .int .i64 0, .int .i64 0, .int .i64 0, .int .i64 0, .int .i64 0, .int .i64 0, .int .i64 0, .int .i64 0] := rfl
theorem rdS_in {t : List Nat} (hb : ∀ x ∈ t, x < 256) : Spc.In (Spc.rdS t) := by
  intro n hn
  have key : ∀ j, Spc.i64 (((Spc.words t).map Spc.numV).getD j 0) := by
    intro j
    by_cases hj : j < ((Spc.words t).map Spc.numV).length
    · rw [getD_at hj, List.getElem_map]
      have := Spc.numV_in _ (Spc.words_byte t (fun x => x < 256) hb _ (List.getElem_mem (by rw [List.length_map] at hj; exact hj)))
      unfold Spc.i64
      omega
    · rw [getD_off (by omega)]; unfold Spc.i64; omega
  simp only [Spc.rdS, Spc.of, Spc.flds, List.mem_cons, List.not_mem_nil, or_false] at hn
  rcases hn with rfl | rfl | rfl | rfl | rfl | rfl | rfl | rfl | rfl | rfl | rfl | rfl <;> exact key _
set_option maxRecDepth 100000 in
set_option maxHeartbeats 3200000 in
theorem rread_any (t : List Nat) (hb : ∀ x ∈ t, x < 256) (hl : t.length ≤ 1000) (w : World) : Calls Tryd.prog 9 #[.string (txt t)] w (RPost t w) := by
  have CW := Lib.hid (fun W => rwords_any t hb hl W)
  have CN : Hid (∀ u, (∀ x ∈ u, x < 256) → u.length ≤ 1000 → ∀ W, Calls Tryd.prog 21 #[.string (txt u)] W (NPost7 u W)) := fun u h1 h2 W => rnumber_any u h1 h2 W
  have WB := Lib.hid (Spc.words_byte t (fun x => x < 256) hb)
  have WL := Lib.hid (words_long t)
  have RIN := Lib.hid (rdS_in hb)
  have hbb := (Below.refl w.heap.size w).alloc (Nat.le_refl _) (.cells #[.int .i64 0, .int .i64 0, .int .i64 0, .int .i64 0, .int .i64 0, .int .i64 0, .int .i64 0, .int .i64 0, .int .i64 0, .int .i64 0, .int .i64 0, .int .i64 0] 25)
  have HG0 : Hid ((w.alloc (.cells #[.int .i64 0, .int .i64 0, .int .i64 0, .int .i64 0, .int .i64 0, .int .i64 0, .int .i64 0, .int .i64 0, .int .i64 0, .int .i64 0, .int .i64 0, .int .i64 0] 25)).heap[w.heap.size]? = some (.cells (Spc.cells Spc.zero) 25 (0, 0))) := heap_alloc_new w (.cells #[.int .i64 0, .int .i64 0, .int .i64 0, .int .i64 0, .int .i64 0, .int .i64 0, .int .i64 0, .int .i64 0, .int .i64 0, .int .i64 0, .int .i64 0, .int .i64 0] 25)
  have Z1 : Hid (w.heap.size < (w.alloc (.cells #[.int .i64 0, .int .i64 0, .int .i64 0, .int .i64 0, .int .i64 0, .int .i64 0, .int .i64 0, .int .i64 0, .int .i64 0, .int .i64 0, .int .i64 0, .int .i64 0] 25)).heap.size) := by show _ < _; simp
  have B1 := Lib.hid hbb
  clear hb hbb
  go_enter Tryd.func9, Tryd.ntmps9
  go_wp2_with fail
  generalize w.alloc (.cells #[.int .i64 0, .int .i64 0, .int .i64 0, .int .i64 0, .int .i64 0, .int .i64 0, .int .i64 0, .int .i64 0, .int .i64 0, .int .i64 0, .int .i64 0, .int .i64 0] 25) = w1 at *
  refine (CW.out w1).mono ?_
  rintro e w2 ⟨g, c, rfl, ho2, hb2⟩
  have O2 := Lib.hid ho2
  have B2 := Lib.hid (B1.out.trans (hb2.mono B1.out.size))
  have HG2 := Lib.hid ((hb2.block _ Z1.out).trans HG0.out)
  have Z2 : Hid (w.heap.size < w2.heap.size) := Nat.lt_of_lt_of_le Z1.out hb2.size
  clear ho2 hb2 HG0 Z1 B1
  by_cases h12 : (Spc.words t).length = 12
  · obtain ⟨g', c', ev, hgB, hglt, hnc, hcm, _, hcell⟩ := O2.out.form (by omega)
    injection ev with e1 e2 e3
    injection e1 with e1
    injection e1 with e1
    subst e1 e3
    have HC : Hid (∀ W, Below w2.heap.size w2 W → ∀ j, j < 12 → W.cell? ⟨g, j, none⟩ = some (.string (txt ((Spc.words t).getD j [])))) := fun W hW j hj => (hW.cell (p := ⟨g, j, none⟩) hglt).trans (hcell j (by omega))
    have H12 := Lib.hid h12
    have hnc12 : 12 ≤ c := by omega
    clear e2 hcell hnc
    rw [h12]
    go_wp2_with fail
    clear h12
    go_loopw [5, 6] (fun v i wr => ∃ (j : Nat) (l : List Int), j ≤ 12 ∧ i = .int .i64 (j : Nat) ∧ l = ((Spc.words t).map Spc.numV).take j ∧ (∀ m, m < j → Spc.numB ((Spc.words t).getD m []) = true) ∧ OwnI wr w2.heap.size v l ∧ Below w2.heap.size w2 wr) (fun _ i _ => 12 - (intOf i).toNat)
    case atStart => exact ⟨0, [], by omega, rfl, rfl, fun m hm => absurd hm (by omega), World.ownsRow_nil _ _ _ _, Below.refl _ _⟩
    case round =>
      obtain ⟨j, l, hj, rfl, hll, hnum, ho, hbr⟩ := hrel
      have O := Lib.hid ho
      have B := Lib.hid hbr
      have LL := Lib.hid hll
      have NM := Lib.hid hnum
      have BW := Lib.hid (B2.out.trans (hbr.mono B2.out.size))
      have hG := Lib.hid ((hbr.block _ Z2.out).trans HG2.out)
      have hlen : l.length ≤ 12 := by rw [hll, List.length_take]; omega
      have hbase := hbr.size
      clear ho hbr hll hnum
      by_cases hlt : j < 12
      · have hcj := HC.out wr B.out j hlt
        have hjw : j < (Spc.words t).length := by rw [H12.out]; exact hlt
        have hu : (Spc.words t).getD j [] ∈ Spc.words t := by rw [getD_at hjw]; exact List.getElem_mem hjw
        have C := Lib.hid (CN.out _ (WB.out _ hu) (Nat.le_trans (WL.out _ hu) hl) wr)
        have LN : Hid (((Spc.words t).map Spc.numV).take (j + 1) = l ++ [Spc.numV ((Spc.words t).getD j [])]) := by
          show _ = _
          rw [LL.out, List.take_succ_eq_append_getElem (by rw [List.length_map]; exact hjw), List.getElem_map, getD_at hjw]
        have FM : Hid (Spc.numB ((Spc.words t).getD j []) = false → Spc.rdE t = 2) := fun h => rd_form (.inr ⟨j, hjw, h⟩)
        have NX : Hid (Spc.numB ((Spc.words t).getD j []) = true → ∀ m, m < j + 1 → Spc.numB ((Spc.words t).getD m []) = true) := fun h m hm => by
          rcases Nat.lt_or_ge m j with h2 | h2
          · exact NM.out m h2
          · rw [show m = j by omega]; exact h
        unfold NPost7 at C
        generalize Spc.numV ((Spc.words t).getD j []) = nv at *
        cases hnb : Spc.numB ((Spc.words t).getD j [])
        case false =>
          rw [hnb] at C
          have E2 := Lib.hid (FM.out hnb)
          clear hjw hu hnb
          generalize (Spc.words t).getD j [] = u at *
          have i1 : (0 : Int) ≤ (j : Int) := by omega
          have i2 : (j : Int) < 12 := by omega
          obtain ⟨f0, f1, f2, f3, f4, f5, f6, f7, f8, f9, f10, f11⟩ := spAt_of (s := Spc.zero) hG.out
          obtain ⟨z0, z1, z2, z3, z4, z5, z6, z7, z8, z9, z10, z11⟩ := spFz_of hG.out
          simp only [Spc.zero] at f0  f1  f2  f3  f4  f5  f6  f7  f8  f9  f10  f11
          go_wp2_with fail
          refine C.out.mono ?_
          rintro e w4 ⟨rfl, rfl⟩
          go_wp2_with fail
          clear f0  f1  f2  f3  f4  f5  f6  f7  f8  f9  f10  f11 z0  z1  z2  z3  z4  z5  z6  z7  z8  z9  z10  z11
          change bodyPost _ _ _ _ _ (puts w4 w.heap.size 0 (Spc.cells Spc.zero).toList)
          have hG2 := puts_sp (s := Spc.zero) hG.out
          have B2 : Below w.heap.size w (puts w4 w.heap.size 0 (Spc.cells Spc.zero).toList) := BW.out.grown (puts_grown w.heap.size (Spc.cells Spc.zero).toList 0 w4) BW.out.size (fun i hi => by injection hi with hi; omega)
          generalize puts w4 w.heap.size 0 (Spc.cells Spc.zero).toList = W2 at *
          obtain ⟨f0, f1, f2, f3, f4, f5, f6, f7, f8, f9, f10, f11⟩ := spAt_of hG2
          simp only [Spc.zero] at f0  f1  f2  f3  f4  f5  f6  f7  f8  f9  f10  f11
          exact bodyPost_ret (v := .tuple #[.agg #[.int .i64 0, .int .i64 0, .int .i64 0, .int .i64 0, .int .i64 0, .int .i64 0, .int .i64 0, .int .i64 0, .int .i64 0, .int .i64 0, .int .i64 0, .int .i64 0], .int .i64 2]) (by simp [results, Tryd.results9, go_sem, f0, f1, f2, f3, f4, f5, f6, f7, f8, f9, f10, f11]) rfl ⟨by rw [rd_no (by rw [E2.out]; omega), E2.out]; rfl, B2⟩
        case true =>
          rw [hnb] at C
          have N2 := Lib.hid (NX.out hnb)
          clear hjw hu hnb
          generalize (Spc.words t).getD j [] = u at *
          have i1 : (0 : Int) ≤ (j : Int) := by omega
          have i2 : (j : Int) < 12 := by omega
          have hlen3 : l.length ≤ 3000000 := by omega
          go_wp2_with fail
          refine C.out.mono ?_
          rintro e w4 ⟨rfl, rfl⟩
          go_wp2_with (at_builtin; refine wpList_append_num rfl (.tmp 33) (.tmp 35) rfl w2.heap.size _ l rfl O.out _ rfl hlen3 hbase ?_; intro v3 w3 ho3 hg3; have O3 := Lib.hid ho3; have B3 := Lib.hid (B.out.grown hg3 hbase (own_base O.out)); clear ho3 hg3)
          exact ⟨⟨j + 1, l ++ [nv], by omega, by go_num, LN.out.symm, N2.out, O3.out, B3.out⟩, by simp [intOf]; omega⟩
      · obtain rfl : j = 12 := by omega
        have LE : Hid (l = (Spc.words t).map Spc.numV) := by show _ = _; rw [LL.out]; exact List.take_of_length_le (by rw [List.length_map, H12.out]; exact Nat.le_refl _)
        have RS : Hid (Spc.of l = Spc.rdS t) := by show _ = _; rw [LE.out]; rfl
        have RE := Lib.hid (rd_spec H12.out NM.out)
        obtain ⟨A3, c3, ev, hsl⟩ := O.out.sl
        have hl12 : l.length = 12 := by rw [LE.out, List.length_map]; exact H12.out
        rw [hl12] at ev hsl
        subst ev
        have CO := Lib.hid (rof_any c3 A3 l wr hsl)
        rw [RS.out] at CO
        have CC := Lib.hid (fun W => rcheck_any (Spc.rdS t) RIN.out W)
        unfold CPost at CC
        obtain ⟨s, hs⟩ : ∃ s, s = Spc.rdS t := ⟨_, rfl⟩
        rw [← hs] at CO CC RE
        have HS := Lib.hid hs
        clear hs hl12 hsl
        go_wp2_with fail
        refine CO.out.mono ?_
        rintro e w4 ⟨rfl, hb4⟩
        have BW4 := Lib.hid (BW.out.trans (hb4.mono BW.out.size))
        have hG4 := Lib.hid ((hb4.block _ (Nat.lt_of_lt_of_le Z2.out hbase)).trans hG.out)
        have Z4 : Hid (w.heap.size < w4.heap.size) := Nat.lt_of_lt_of_le (Nat.lt_of_lt_of_le Z2.out hbase) hb4.size
        clear hb4 hG
        unfold Spc.val
        unfold Spc.val at CC
        unfold Spc.cells
        unfold Spc.cells at CC
        have hb5 := (Below.refl w4.heap.size w4).alloc (Nat.le_refl _) (.cells #[.int .i64 s.v, .int .i64 s.d, .int .i64 s.u, .int .i64 s.n, .int .i64 s.g, .int .i64 s.a, .int .i64 s.b, .int .i64 s.c, .int .i64 s.e, .int .i64 s.w, .int .i64 s.x, .int .i64 s.k] 25)
        have hn5 := heap_alloc_new w4 (.cells #[.int .i64 s.v, .int .i64 s.d, .int .i64 s.u, .int .i64 s.n, .int .i64 s.g, .int .i64 s.a, .int .i64 s.b, .int .i64 s.c, .int .i64 s.e, .int .i64 s.w, .int .i64 s.x, .int .i64 s.k] 25)
        have hz5 : w4.heap.size < (w4.alloc (.cells #[.int .i64 s.v, .int .i64 s.d, .int .i64 s.u, .int .i64 s.n, .int .i64 s.g, .int .i64 s.a, .int .i64 s.b, .int .i64 s.c, .int .i64 s.e, .int .i64 s.w, .int .i64 s.x, .int .i64 s.k] 25)).heap.size := by simp
        have N5 := Lib.hid hn5
        have Z5 := Lib.hid hz5
        have B5 := Lib.hid hb5
        clear hn5 hz5 hb5
        go_wp2_with fail
        generalize w4.alloc (.cells #[.int .i64 s.v, .int .i64 s.d, .int .i64 s.u, .int .i64 s.n, .int .i64 s.g, .int .i64 s.a, .int .i64 s.b, .int .i64 s.c, .int .i64 s.e, .int .i64 s.w, .int .i64 s.x, .int .i64 s.k] 25) = w5 at *
        refine (CC.out w5).mono ?_
        rintro e w6 ⟨rfl, hb6⟩
        have A6 := Lib.hid ((spAt_of (s := s) N5.out).below Z5.out hb6)
        have BW6 := Lib.hid (BW4.out.trans ((B5.out.mono BW4.out.size).trans (hb6.mono (Nat.le_trans BW4.out.size B5.out.size))))
        have hG := Lib.hid ((hb6.block _ (Nat.lt_trans Z4.out Z5.out)).trans ((B5.out.block _ Z4.out).trans hG4.out))
        clear hb6 hG4 N5 B5 CC
        obtain ⟨z0, z1, z2, z3, z4, z5, z6, z7, z8, z9, z10, z11⟩ := spFz_of hG.out
        by_cases hz : Spc.chk s = 0
        · have E0 : Hid (Spc.rdE t = 0) := by show _ = _; rw [RE.out]; unfold Spc.chkE; rw [if_pos hz]
          have hce : Spc.chkE s = 0 := by unfold Spc.chkE; rw [if_pos hz]
          rw [hce]
          generalize Spc.chk s = ck at *
          clear hz hce RE
          obtain ⟨y0, y1, y2, y3, y4, y5, y6, y7, y8, y9, y10, y11⟩ := A6.out
          obtain ⟨f0, f1, f2, f3, f4, f5, f6, f7, f8, f9, f10, f11⟩ := spAt_of (s := Spc.zero) hG.out
          simp only [Spc.zero] at f0  f1  f2  f3  f4  f5  f6  f7  f8  f9  f10  f11
          go_wp2_with fail
          clear f0  f1  f2  f3  f4  f5  f6  f7  f8  f9  f10  f11 z0  z1  z2  z3  z4  z5  z6  z7  z8  z9  z10  z11 y0 y1 y2 y3 y4 y5 y6 y7 y8 y9 y10 y11
          change bodyPost _ _ _ _ _ (puts w6 w.heap.size 0 (Spc.cells s).toList)
          have hG2 := puts_sp (s := s) hG.out
          have B2 : Below w.heap.size w (puts w6 w.heap.size 0 (Spc.cells s).toList) := BW6.out.grown (puts_grown w.heap.size (Spc.cells s).toList 0 w6) BW6.out.size (fun i hi => by injection hi with hi; omega)
          generalize puts w6 w.heap.size 0 (Spc.cells s).toList = W2 at *
          obtain ⟨f0, f1, f2, f3, f4, f5, f6, f7, f8, f9, f10, f11⟩ := spAt_of hG2
          exact bodyPost_ret (v := .tuple #[.agg #[.int .i64 s.v, .int .i64 s.d, .int .i64 s.u, .int .i64 s.n, .int .i64 s.g, .int .i64 s.a, .int .i64 s.b, .int .i64 s.c, .int .i64 s.e, .int .i64 s.w, .int .i64 s.x, .int .i64 s.k], .int .i64 0]) (by simp [results, Tryd.results9, go_sem, f0, f1, f2, f3, f4, f5, f6, f7, f8, f9, f10, f11]) rfl ⟨by rw [rd_yes E0.out, E0.out, ← HS.out]; rfl, B2⟩
        · have E0 : Hid (Spc.rdE t = 11) := by show _ = _; rw [RE.out]; unfold Spc.chkE; rw [if_neg hz]
          have hce : Spc.chkE s = 11 := by unfold Spc.chkE; rw [if_neg hz]
          rw [hce]
          generalize Spc.chk s = ck at *
          clear hz hce RE
          obtain ⟨f0, f1, f2, f3, f4, f5, f6, f7, f8, f9, f10, f11⟩ := spAt_of (s := Spc.zero) hG.out
          simp only [Spc.zero] at f0  f1  f2  f3  f4  f5  f6  f7  f8  f9  f10  f11
          go_wp2_with fail
          clear f0  f1  f2  f3  f4  f5  f6  f7  f8  f9  f10  f11 z0  z1  z2  z3  z4  z5  z6  z7  z8  z9  z10  z11
          change bodyPost _ _ _ _ _ (puts w6 w.heap.size 0 (Spc.cells Spc.zero).toList)
          have hG2 := puts_sp (s := Spc.zero) hG.out
          have B2 : Below w.heap.size w (puts w6 w.heap.size 0 (Spc.cells Spc.zero).toList) := BW6.out.grown (puts_grown w.heap.size (Spc.cells Spc.zero).toList 0 w6) BW6.out.size (fun i hi => by injection hi with hi; omega)
          generalize puts w6 w.heap.size 0 (Spc.cells Spc.zero).toList = W2 at *
          obtain ⟨f0, f1, f2, f3, f4, f5, f6, f7, f8, f9, f10, f11⟩ := spAt_of hG2
          simp only [Spc.zero] at f0  f1  f2  f3  f4  f5  f6  f7  f8  f9  f10  f11
          exact bodyPost_ret (v := .tuple #[.agg #[.int .i64 0, .int .i64 0, .int .i64 0, .int .i64 0, .int .i64 0, .int .i64 0, .int .i64 0, .int .i64 0, .int .i64 0, .int .i64 0, .int .i64 0, .int .i64 0], .int .i64 11]) (by simp [results, Tryd.results9, go_sem, f0, f1, f2, f3, f4, f5, f6, f7, f8, f9, f10, f11]) rfl ⟨by rw [rd_no (by rw [E0.out]; omega), E0.out]; rfl, B2⟩
  · have E2 := Lib.hid (rd_form (t := t) (.inl h12))
    have hne : ((((Spc.words t).length : Nat) : Int) != 12) = true := by rw [bne_iff_ne]; omega
    have hG := HG2
    clear O2 CN WB WL RIN CW
    generalize (Spc.words t).length = n12 at *
    clear h12
    obtain ⟨f0, f1, f2, f3, f4, f5, f6, f7, f8, f9, f10, f11⟩ := spAt_of (s := Spc.zero) hG.out
    obtain ⟨z0, z1, z2, z3, z4, z5, z6, z7, z8, z9, z10, z11⟩ := spFz_of hG.out
    simp only [Spc.zero] at f0  f1  f2  f3  f4  f5  f6  f7  f8  f9  f10  f11
    go_wp2_with fail
    clear f0  f1  f2  f3  f4  f5  f6  f7  f8  f9  f10  f11 z0  z1  z2  z3  z4  z5  z6  z7  z8  z9  z10  z11
    change bodyPost _ _ _ _ _ (puts w2 w.heap.size 0 (Spc.cells Spc.zero).toList)
    have hG2 := puts_sp (s := Spc.zero) hG.out
    have B2 : Below w.heap.size w (puts w2 w.heap.size 0 (Spc.cells Spc.zero).toList) := B2.out.grown (puts_grown w.heap.size (Spc.cells Spc.zero).toList 0 w2) B2.out.size (fun i hi => by injection hi with hi; omega)
    generalize puts w2 w.heap.size 0 (Spc.cells Spc.zero).toList = W2 at *
    obtain ⟨f0, f1, f2, f3, f4, f5, f6, f7, f8, f9, f10, f11⟩ := spAt_of hG2
    simp only [Spc.zero] at f0  f1  f2  f3  f4  f5  f6  f7  f8  f9  f10  f11
    exact bodyPost_ret (v := .tuple #[.agg #[.int .i64 0, .int .i64 0, .int .i64 0, .int .i64 0, .int .i64 0, .int .i64 0, .int .i64 0, .int .i64 0, .int .i64 0, .int .i64 0, .int .i64 0, .int .i64 0], .int .i64 2]) (by simp [results, Tryd.results9, go_sem, f0, f1, f2, f3, f4, f5, f6, f7, f8, f9, f10, f11]) rfl ⟨by rw [rd_no (by rw [E2.out]; omega), E2.out]; rfl, B2⟩
end Go.Proofs.YtijloajkiannlaaDoor
