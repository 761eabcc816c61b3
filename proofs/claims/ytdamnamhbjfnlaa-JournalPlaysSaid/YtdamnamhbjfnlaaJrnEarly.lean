/-
  early of the statements of layer 6: what it makes.
-/
import Derived.Test.YtdamnamhbjfnlaaJrnSteps
import Derived.Test.YtdamnamhbjfnlaaDskB
import Derived.Deep.DeepCutAuto
namespace Go.Proofs.Ytdamnamhbjfnlaa
open Go.RowKit Go.Deep
set_option linter.unusedSimpArgs false

def JEPost (w0 : World) (ts : List Stj) (w : World) (e : Ending) (w' : World) : Prop :=
  ∃ A c, e = .returned (.slice A (jearlyL ts).length c) ∧ OwnX 4 (EOut w0 w.heap.size) GOut 36 w' w.heap.size (.slice A (jearlyL ts).length c) (jearlyL ts) ∧ Below w.heap.size w w'
theorem take_few (L : List (List Nat)) (k : Nat) (h : k < L.length) : (L.take (k + 1)).map (·.take 20) = (L.take k).map (·.take 20) ++ [(L.getD k []).take 20] := by
  rw [List.take_succ_eq_append_getElem h, List.map_append, getD_at h]; rfl
/-- What a load in early's inner loop finds. -/
def JLd (g b i : Nat) (u x : Value) (W : World) : Prop := W.cell? ⟨g, 3, none⟩ = some u ∧ W.cell? ⟨b, i, none⟩ = some x
set_option maxRecDepth 100000 in
set_option maxHeartbeats 6400000 in
theorem jearly_any (n c : Nat) (A : Option Addr) (ts : List Stj) (w0 w : World) (h : SlJ w0 A n c ts) (hb0 : Below w0.heap.size w0 w) :
    Calls Try.prog 13 #[.slice A n c] w (JEPost w0 ts w) := by
  have H := Lib.hid h
  have B0 := Lib.hid hb0
  have hn : n = ts.length := h.len
  have hcap := h.cap
  have hmax := h.max
  unfold maxLen at hmax
  have HN := Lib.hid hn
  clear h hn hb0
  go_enter Try.func13, Try.ntmps13
  go_wp2_with fail
  go_loopw [3, 4] (fun v i wr => ∃ j : Nat, j ≤ n ∧ j ≤ 40 ∧ i = .int .i64 j ∧ OwnX 4 (EOut w0 w.heap.size) GOut 36 wr w.heap.size v ((ts.take j).map jtrim) ∧ Below w.heap.size w wr) (fun _ i _ => 40 - (intOf i).toNat)
  case atStart => exact ⟨0, by omega, by omega, rfl, OwnX.none_ _ _ _, Below.refl _ _⟩
  case round =>
    obtain ⟨j, hj, hj40, rfl, ho, hb⟩ := hrel
    obtain ⟨wo, rfl⟩ : ∃ wo : World, wo = wr := ⟨_, rfl⟩
    have O := Lib.hid ho
    have B := Lib.hid hb
    have BB := Lib.hid (B0.out.trans (hb.mono B0.out.size))
    clear ho hb
    by_cases hlt : j < n ∧ j < 40
    · obtain ⟨hl1, hl2⟩ := hlt
      obtain ⟨t, ht⟩ : ∃ t, ts[j]? = some t := ⟨_, List.getElem?_eq_getElem (by have := HN.out; omega)⟩
      obtain ⟨b, o, cs, rfl, hbb, _, hcells, A2, n2, c2, A3, n3, c3, rfl, hk1, hk2, hs, hss⟩ := H.out.rd j t ht
      have q0 := (BB.out.cell (p := ⟨b, o + j * 4 + 0, none⟩) hbb).trans (hcells 0 (by omega))
      have q1 := (BB.out.cell (p := ⟨b, o + j * 4 + 1, none⟩) hbb).trans (hcells 1 (by omega))
      have q2 := (BB.out.cell (p := ⟨b, o + j * 4 + 2, none⟩) hbb).trans (hcells 2 (by omega))
      have q3 := (BB.out.cell (p := ⟨b, o + j * 4 + 3, none⟩) hbb).trans (hcells 3 (by omega))
      simp only [List.getElem?_cons_zero, List.getElem?_cons_succ, Nat.add_zero] at q0 q1 q2 q3
      have hmn : min (n2 : Int) 20 = ((min n2 20 : Nat) : Int) := by omega
      have hmc : min n2 20 ≤ c2 := by have := hs.cap; omega
      have TR := Lib.hid (jtrim_snoc ht)
      have HK1 := Lib.hid hk1
      have HK2 := Lib.hid hk2
      have HP : Hid (Sl w0 A2 (min n2 20) c2 (t.2.2.1.take 20)) := hs.few 20
      have HL := Lib.hid hss
      have hn3 : n3 = t.2.2.2.length := hss.len
      have HN3 := Lib.hid hn3
      clear hcells hs hk1 hk2 ht hss hn3
      generalize min n2 20 = m2 at *
      have hl2' : (j : Int) < 40 := by omega
      have BS := Lib.hid ((Below.refl wo.heap.size wo).alloc (Nat.le_refl _) (.cells #[.int .i64 t.1, .int .i64 t.2.1, .slice A2 m2 c2, .slice A3 n3 c3] 36))
      have SS : Hid ((wo.alloc (.cells #[.int .i64 t.1, .int .i64 t.2.1, .slice A2 m2 c2, .slice A3 n3 c3] 36)).heap[wo.heap.size]? = some (.cells #[.int .i64 t.1, .int .i64 t.2.1, .slice A2 m2 c2, .slice A3 n3 c3] 36 (0, 0))) := heap_alloc_new wo _
      go_upto_region 7 with fail
      obtain ⟨ws, hws⟩ : ∃ ws, ws = wo.alloc (.cells #[.int .i64 t.1, .int .i64 t.2.1, .slice A2 m2 c2, .slice A3 n3 c3] 36) := ⟨_, rfl⟩
      obtain ⟨gs, hgs⟩ : ∃ gs, gs = wo.heap.size := ⟨_, rfl⟩
      rw [← hws] at BS SS ⊢
      rw [← hgs] at SS ⊢
      have GS := Lib.hid hgs
      have OS := Lib.hid (O.out.below (stabOut w0 w.heap.size) BS.out)
      have BWS := Lib.hid (B.out.trans (BS.out.mono B.out.size))
      clear hws hgs q0 q1 q2 q3
      go_wp2_with fail
      go_loopw [6, 7] (fun v i wr => ∃ m : Nat, m ≤ n3 ∧ m ≤ 5 ∧ i = .int .i64 m ∧ OwnR 1 ESl 33 w0 wr ws.heap.size v ((t.2.2.2.take m).map (·.take 20)) ∧ Below ws.heap.size ws wr) (fun _ i _ => 5 - (intOf i).toNat)
      case atStart => exact ⟨0, by omega, by omega, rfl, OwnR.none_ _ _ _ _, Below.refl _ _⟩
      case round =>
        obtain ⟨m, hm, hm5, rfl, hown, hbq⟩ := hrel
        have OQ := Lib.hid hown
        have BQ := Lib.hid hbq
        have BQ0 := Lib.hid (BB.out.trans ((BS.out.trans (hbq.mono BS.out.size)).mono BB.out.size))
        have SQ := Lib.hid (blk_on SS.out hbq)
        clear hown hbq
        have hc3 : wr.cell? ⟨gs, 3, none⟩ = some (.slice A3 n3 c3) := by rw [cell_of_row wr gs 3 _ _ _ SQ.out]; rfl
        by_cases hlt2 : m < n3 ∧ m < 5
        · obtain ⟨hm1, hm2⟩ := hlt2
          obtain ⟨b3, o3, rfl, hb3, hc⟩ := HL.out.rd (by have := HN3.out; omega)
          obtain ⟨A4, n4, c4, hc4, hs4⟩ := hc m (by have := HN3.out; omega)
          have hc4q := (BQ0.out.cell (p := ⟨b3, o3 + m, none⟩) hb3).trans hc4
          have TF := Lib.hid (take_few t.2.2.2 m (by have := HN3.out; omega))
          have hmn4 : min (n4 : Int) 20 = ((min n4 20 : Nat) : Int) := by omega
          have hmc4 : min n4 20 ≤ c4 := by have := hs4.cap; omega
          have H4 : Hid (Sl w0 A4 (min n4 20) c4 ((t.2.2.2.getD m []).take 20)) := hs4.few 20
          have hm2' : (m : Int) < 5 := by omega
          have hm1' : (m : Int) < (n3 : Int) := by omega
          have hm0' : (0 : Int) ≤ (m : Int) := by omega
          clear hc hc4 hs4
          generalize min n4 20 = m4 at *
          obtain ⟨i0, hi0, hz0, hz1, hz2⟩ := info_parts rowInfo
          have HI := Lib.hid hi0
          have HZ0 := Lib.hid hz0
          have HZ1 := Lib.hid hz1
          have HZ2 := Lib.hid hz2
          clear hi0 hz0 hz1 hz2
          have LQ : Hid (((t.2.2.2.take m).map (·.take 20)).length ≤ 5) := by show _ ≤ _; rw [List.length_map, List.length_take]; omega
          have OD := Lib.hid (OQ.out.below (Below.refl wr.heap.size wr).drew)
          have BD := Lib.hid BQ.out.drew
          have SD : Hid (JLd gs b3 (o3 + m) (.slice (some ⟨b3, o3, none⟩) n3 c3) (.slice A4 n4 c4) wr.drew) := ⟨hc3, hc4q⟩
          have HB3 : Hid (b3 < ws.heap.size ∧ gs < ws.heap.size) := ⟨Nat.lt_of_lt_of_le hb3 (BB.out.trans (BS.out.mono BB.out.size)).size, (Array.getElem?_eq_some_iff.1 SS.out).1⟩
          go_upto_region 11 with fail
          refine wp_region_held_drew (S := JLd gs b3 (o3 + m) (.slice (some ⟨b3, o3, none⟩) n3 c3) (.slice A4 n4 c4)) (by kernel_rfl) SD.out (fun hS => ?_)
          generalize wr.drew = wd at *
          refine tkYes 0 (v := ?_) rfl (by kernel_rfl) (fun _ _ _ h => h) rfl ?_ hS ?_
          rotate_left
          · intro W hW; go_simp; (try with_reducible rfl)
          simp only [Act.put, List.setIfInBounds_toArray, List.set_cons_zero, List.set_cons_succ]
          refine tkYes 1 (v := ?_) rfl (by kernel_rfl) (fun _ _ _ h => h) rfl ?_ hS ?_
          rotate_left
          · intro W hW; go_simp; (try with_reducible rfl)
          simp only [Act.put, List.setIfInBounds_toArray, List.set_cons_zero, List.set_cons_succ]
          refine tkYes 2 (v := ?_) rfl (by kernel_rfl) (fun _ _ _ h => h) rfl ?_ hS ?_
          rotate_left
          · intro W hW; have hW1 : W.cell? ⟨gs, 3, none⟩ = some (.slice (some ⟨b3, o3, none⟩) n3 c3) := hW.1; have hW2 : W.cell? ⟨b3, o3 + m, none⟩ = some (.slice A4 n4 c4) := hW.2; go_simp; (try with_reducible rfl)
          simp only [Act.put, List.setIfInBounds_toArray, List.set_cons_zero, List.set_cons_succ]
          refine tkYes 3 (v := ?_) rfl (by kernel_rfl) (fun _ _ _ h => h) rfl ?_ hS ?_
          rotate_left
          · intro W hW; go_simp; (try with_reducible rfl)
          simp only [Act.put, List.setIfInBounds_toArray, List.set_cons_zero, List.set_cons_succ]
          refine tkYes 4 (v := ?_) rfl (by kernel_rfl) (fun _ _ _ h => h) rfl ?_ hS ?_
          rotate_left
          · intro W hW; have hW1 : W.cell? ⟨gs, 3, none⟩ = some (.slice (some ⟨b3, o3, none⟩) n3 c3) := hW.1; have hW2 : W.cell? ⟨b3, o3 + m, none⟩ = some (.slice A4 n4 c4) := hW.2; go_simp; (try with_reducible rfl)
          simp only [Act.put, List.setIfInBounds_toArray, List.set_cons_zero, List.set_cons_succ]
          refine tkYes 5 (v := ?_) rfl (by kernel_rfl) (fun _ _ _ h => h) rfl ?_ hS ?_
          rotate_left
          · intro W hW; have hW1 : W.cell? ⟨gs, 3, none⟩ = some (.slice (some ⟨b3, o3, none⟩) n3 c3) := hW.1; have hW2 : W.cell? ⟨b3, o3 + m, none⟩ = some (.slice A4 n4 c4) := hW.2; go_simp; (try with_reducible rfl)
          simp only [Act.put, List.setIfInBounds_toArray, List.set_cons_zero, List.set_cons_succ]
          refine tkYes 6 (v := ?_) rfl (by kernel_rfl) (fun _ _ _ h => h) rfl ?_ hS ?_
          rotate_left
          · intro W hW; go_simp; (try with_reducible rfl)
          simp only [Act.put, List.setIfInBounds_toArray, List.set_cons_zero, List.set_cons_succ]
          refine tkYes 7 (v := ?_) rfl (by kernel_rfl) (fun _ _ _ h => h) rfl ?_ hS ?_
          rotate_left
          · intro W hW; have hW1 : W.cell? ⟨gs, 3, none⟩ = some (.slice (some ⟨b3, o3, none⟩) n3 c3) := hW.1; have hW2 : W.cell? ⟨b3, o3 + m, none⟩ = some (.slice A4 n4 c4) := hW.2; go_simp; (try with_reducible rfl)
          simp only [Act.put, List.setIfInBounds_toArray, List.set_cons_zero, List.set_cons_succ]
          refine tkYes 8 (v := ?_) rfl (by kernel_rfl) (fun _ _ _ h => h) rfl ?_ hS ?_
          rotate_left
          · intro W hW; go_simp; (try with_reducible rfl)
          simp only [Act.put, List.setIfInBounds_toArray, List.set_cons_zero, List.set_cons_succ]
          refine tkYes 9 (v := ?_) rfl (by kernel_rfl) (fun _ _ _ h => h) rfl ?_ hS ?_
          rotate_left
          · intro W hW; have hW1 : W.cell? ⟨gs, 3, none⟩ = some (.slice (some ⟨b3, o3, none⟩) n3 c3) := hW.1; have hW2 : W.cell? ⟨b3, o3 + m, none⟩ = some (.slice A4 n4 c4) := hW.2; go_simp; (try with_reducible rfl)
          simp only [Act.put, List.setIfInBounds_toArray, List.set_cons_zero, List.set_cons_succ]
          refine tkYes 10 (v := ?_) rfl (by kernel_rfl) (fun _ _ _ h => h) rfl ?_ hS ?_
          rotate_left
          · intro W hW; have hW1 : W.cell? ⟨gs, 3, none⟩ = some (.slice (some ⟨b3, o3, none⟩) n3 c3) := hW.1; have hW2 : W.cell? ⟨b3, o3 + m, none⟩ = some (.slice A4 n4 c4) := hW.2; go_simp; (try with_reducible rfl)
          simp only [Act.put, List.setIfInBounds_toArray, List.set_cons_zero, List.set_cons_succ]
          refine tkYes 11 (v := ?_) rfl (by kernel_rfl) (fun _ _ _ h => h) rfl ?_ hS ?_
          rotate_left
          · intro W hW; go_simp; (try with_reducible rfl)
          simp only [Act.put, List.setIfInBounds_toArray, List.set_cons_zero, List.set_cons_succ]
          refine tkYes 12 (v := ?_) rfl (by kernel_rfl) (fun _ _ _ h => h) rfl ?_ hS ?_
          rotate_left
          · intro W hW; go_simp; (try with_reducible rfl)
          simp only [Act.put, List.setIfInBounds_toArray, List.set_cons_zero, List.set_cons_succ]
          refine tkYes 13 (v := ?_) rfl (by kernel_rfl) (fun _ _ _ h => h) rfl ?_ hS ?_
          rotate_left
          · intro W hW; go_simp; (try with_reducible rfl)
          simp only [Act.put, List.setIfInBounds_toArray, List.set_cons_zero, List.set_cons_succ]
          refine rnOne 14 rfl (by kernel_rfl) rfl (fun K hK => ?_)
          go_simp
          have hS2 : JLd gs b3 (o3 + m) (.slice (some ⟨b3, o3, none⟩) n3 c3) (.slice A4 n4 c4) (wd.alloc (.cells #[.slice A4 m4 c4] 33)) := ⟨(World.grownBy_alloc wd _ none).cell hS.1 (by simp), (World.grownBy_alloc wd _ none).cell hS.2 (by simp)⟩
          clear hS
          have hS := hS2
          clear hS2
          refine hK.out _ _ hS (fun _ => ?_)
          clear hK K
          try simp only [Act.put, List.setIfInBounds_toArray, List.set_cons_zero, List.set_cons_succ]
          refine rnOne 15 rfl (by kernel_rfl) rfl (fun K hK => ?_)
          refine wp_append_elem (K := 1) (E := ESl) (w0 := w0) (w := wd) Try.underlying34 HI.out HZ0.out HZ1.out HZ2.out rfl (by decide) (.tmp 41) (.tmp 55) rfl ws.heap.size u6 ((t.2.2.2.take m).map (·.take 20)) rfl OD.out [.slice A4 m4 c4] ((t.2.2.2.getD m []).take 20) rfl (by intro u hu; simp at hu; subst hu; rfl) ⟨A4, m4, c4, rfl, H4.out⟩ rfl (by have := LQ.out; unfold maxLen; omega) (by have := LQ.out; omega) BD.out.size ?_
          intro v6 w6 hown6 hbel6 hgr6
          have O6 := Lib.hid hown6
          have B6 := Lib.hid (BD.out.trans hbel6)
          have hS2 : JLd gs b3 (o3 + m) (.slice (some ⟨b3, o3, none⟩) n3 c3) (.slice A4 n4 c4) w6 := ⟨(hbel6.cell (p := ⟨gs, 3, none⟩) HB3.out.2).trans (by have := hS.1; rwa [World.cell?_of_block (w := wd) (Below.heap_alloc wd _ gs (Nat.lt_of_lt_of_le HB3.out.2 BD.out.size))] at this), (hbel6.cell (p := ⟨b3, o3 + m, none⟩) HB3.out.1).trans (by have := hS.2; rwa [World.cell?_of_block (w := wd) (Below.heap_alloc wd _ b3 (Nat.lt_of_lt_of_le HB3.out.1 BD.out.size))] at this)⟩
          clear hS hown6 hbel6 hgr6
          have hS := hS2
          clear hS2
          refine hK.out _ _ hS (fun _ => ?_)
          clear hK K
          try simp only [Act.put, List.setIfInBounds_toArray, List.set_cons_zero, List.set_cons_succ]
          refine tkYes 16 (v := ?_) rfl (by kernel_rfl) (fun _ _ _ h => h) rfl ?_ hS ?_
          rotate_left
          · intro W hW; go_simp; (try with_reducible rfl)
          simp only [Act.put, List.setIfInBounds_toArray, List.set_cons_zero, List.set_cons_succ]
          refine wpAnyH_done (by kernel_rfl) ?_ _
          go_wp2_with fail
          exact ⟨⟨m + 1, by omega, by omega, by go_num, by rw [TF.out]; exact O6.out, B6.out⟩, by simp [intOf]; omega⟩
        · have hto : (t.2.2.2.take m).map (·.take 20) = (t.2.2.2.take 5).map (·.take 20) := by
            have := HN3.out
            by_cases h1 : m < n3
            · rw [show m = 5 from by omega]
            · rw [List.take_of_length_le (by omega), List.take_of_length_le (by omega)]
          obtain ⟨A6, c6, rfl⟩ := OQ.out.form
          obtain ⟨q6, hq6⟩ : ∃ q6, q6 = ((t.2.2.2.take m).map (·.take 20)).length := ⟨_, rfl⟩
          rw [← hq6] at OQ ⊢
          rw [hto] at OQ
          clear hto hq6
          have D9 := heap_setCell_same wr gs 3 _ _ (.slice A6 q6 c6) SQ.out
          have D9' : (wr.setCell ⟨gs, 3, none⟩ (.slice A6 q6 c6)).heap[gs]? = some (.cells #[.int .i64 t.1, .int .i64 t.2.1, .slice A2 m2 c2, .slice A6 q6 c6] 36 (0, 0)) := D9
          have e0 : (wr.setCell ⟨gs, 3, none⟩ (.slice A6 q6 c6)).cell? ⟨gs, 0, none⟩ = some (.int .i64 t.1) := by rw [cell_of_row _ gs 0 _ _ _ D9']; rfl
          have e1 : (wr.setCell ⟨gs, 3, none⟩ (.slice A6 q6 c6)).cell? ⟨gs, 1, none⟩ = some (.int .i64 t.2.1) := by rw [cell_of_row _ gs 1 _ _ _ D9']; rfl
          have e2 : (wr.setCell ⟨gs, 3, none⟩ (.slice A6 q6 c6)).cell? ⟨gs, 2, none⟩ = some (.slice A2 m2 c2) := by rw [cell_of_row _ gs 2 _ _ _ D9']; rfl
          have e3 : (wr.setCell ⟨gs, 3, none⟩ (.slice A6 q6 c6)).cell? ⟨gs, 3, none⟩ = some (.slice A6 q6 c6) := by rw [cell_of_row _ gs 3 _ _ _ D9']; rfl
          have f3 : wr.frozen? ⟨gs, 3, none⟩ = false := frozen_of_row wr gs 3 _ _ SQ.out
          have hgb : wr.grownBy (wr.setCell ⟨gs, 3, none⟩ (.slice A6 q6 c6)) (some gs) := grown_set _ _ _ _
          have hgsws : gs < ws.heap.size := (Array.getElem?_eq_some_iff.1 SS.out).1
          have BO : Below wo.heap.size wo (wr.setCell ⟨gs, 3, none⟩ (.slice A6 q6 c6)) := (BS.out.trans (BQ.out.mono BS.out.size)).setCell (by rw [← GS.out]; exact Nat.le_refl _) _
          have O9 := Lib.hid (O.out.below (stabOut w0 w.heap.size) BO)
          have B9 := Lib.hid (B.out.trans (BO.mono B.out.size))
          have R9 : Hid (OwnR 1 ESl 33 w0 (wr.setCell ⟨gs, 3, none⟩ (.slice A6 q6 c6)) ws.heap.size (.slice A6 q6 c6) ((t.2.2.2.take 5).map (·.take 20))) := OQ.out.keep fun k hk => hgb.block k (OQ.out.lt k hk).2 (fun e => by injection e with e; have := (OQ.out.lt k hk).1; omega)
          have HE : Hid (EOut w0 w.heap.size (wr.setCell ⟨gs, 3, none⟩ (.slice A6 q6 c6)) [.int .i64 t.1, .int .i64 t.2.1, .slice A2 m2 c2, .slice A6 q6 c6] (jtrim t)) := ⟨A2, m2, c2, A6, q6, c6, ws.heap.size, rfl, BWS.out.size, HK1.out, HK2.out, HP.out, R9.out⟩
          have HG : Hid (∀ i, GOut [.int .i64 t.1, .int .i64 t.2.1, .slice A2 m2 c2, .slice A6 q6 c6] = some i → u3.ownBlock ≠ some i) := by
            show ∀ i, _
            intro i hi e
            have h1 := (OQ.out.lt i hi).1
            have h2 := (O.out.lt i e).2
            have h3 := BS.out.size
            omega
          have LT : Hid (((ts.take j).map jtrim).length + 1 ≤ 40) := by show _ ≤ _; rw [List.length_map, List.length_take]; omega
          have SZ : Hid ((wr.setCell ⟨gs, 3, none⟩ (.slice A6 q6 c6)).heap.size = wr.heap.size) := by show _ = _; simp [World.setCell]
          obtain ⟨i0, hi0, hz0, hz1, hz2⟩ := info_parts stjInfo
          have HI := Lib.hid hi0
          have HZ0 := Lib.hid hz0
          have HZ1 := Lib.hid hz1
          have HZ2 := Lib.hid hz2
          have BW0 := Lib.hid B0.out.size
          have hor : (m < n3 ∧ ¬ (m : Int) < 5) ∨ ¬ m < n3 := by omega
          clear hi0 hz0 hz1 hz2 D9 D9' hgb BO hlt2
          rcases hor with ⟨h1, h2⟩ | h1
          all_goals
            go_wp2_with (at_builtin; refine wpList_append_elemX Try.underlying22 HI.out HZ0.out HZ1.out HZ2.out rfl (by decide) (stabOut w0 w.heap.size) rfl (.tmp 59) (.tmp 61) rfl w.heap.size u3 _ rfl O9.out [.int .i64 t.1, .int .i64 t.2.1, .slice A2 m2 c2, .slice A6 q6 c6] (jtrim t) rfl (by intro u hu; simp at hu; rcases hu with rfl | rfl | rfl | rfl <;> rfl) HE.out HG.out (by rw [SZ.out]; rfl) (by have := LT.out; unfold maxLen; omega) (by have := LT.out; omega) B9.out.size BW0.out ?_; intro v7 w7 hown7 hb7 _; have O7 := Lib.hid hown7; have B7 := Lib.hid hb7; clear hown7 hb7)
            exact ⟨⟨j + 1, by omega, by omega, by go_num, by rw [TR.out]; exact O7.out, B9.out.trans B7.out⟩, by simp [intOf]; omega⟩
    · have e : jearlyL ts = (ts.take j).map jtrim := by
        unfold jearlyL
        have := HN.out
        by_cases h1 : j < n
        · rw [show j = 40 from by omega]
        · rw [List.take_of_length_le (by omega), List.take_of_length_le (by omega)]
      have HE := Lib.hid e
      obtain ⟨A2, c2, rfl⟩ := O.out.form
      have hor : (j < n ∧ ¬ (j : Int) < 40) ∨ ¬ j < n := by omega
      clear hlt e
      obtain ⟨q, hq⟩ : ∃ q, q = ((ts.take j).map jtrim).length := ⟨_, rfl⟩
      have HQ := Lib.hid hq
      rw [← hq]
      clear hq
      rcases hor with ⟨h1, h2⟩ | h1
      all_goals
        go_wp2_with fail
        go_ret
        refine ⟨A2, c2, ?_, ?_, B.out⟩
        · rw [HE.out, ← HQ.out]; rfl
        · rw [HE.out]; exact O.out
end Go.Proofs.Ytdamnamhbjfnlaa
