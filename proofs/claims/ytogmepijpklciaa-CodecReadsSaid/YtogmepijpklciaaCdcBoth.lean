/-
  read of the statements of layer 3: both readers take the same, and stay alike.
-/
import Derived.Test.YtogmepijpklciaaCdcGetList
namespace Go.Proofs.Ytogmepijpklciaa
open Go.RowKit Cdc

def RdPost (w0 : World) (r : Nat) (w : World) (e : Ending) (w' : World) : Prop :=
  ∃ (s : St) (A : Option Addr) (c : Nat), e = .returned (.tuple #[.agg #[.slice A s.l.length c, .int .i64 s.e], .bool true]) ∧ Rdr w' r s ∧ Sl w0 A s.l.length c s.l ∧ Okay s ∧ s.l.length ≤ 100 ∧ w.grownBy w' (some r)
theorem rd_end {w w9 : World} {r : Nat} {N : St} (hg : w.grownBy w9 (some r)) (hr : Rdr w9 r N) (hlt : r < w.heap.size) (u1 u2 : Value) :
    Rdr ((w9.setCell ⟨w.heap.size + 1, 0, none⟩ u1).setCell ⟨w.heap.size + 1, 1, none⟩ u2) r N ∧ w.grownBy ((w9.setCell ⟨w.heap.size + 1, 0, none⟩ u1).setCell ⟨w.heap.size + 1, 1, none⟩ u2) (some r) := by
  have h1 : ∀ k, some (w.heap.size + 1) = some k → r < k := fun k hk => by injection hk with hk; omega
  have h2 : ∀ k, some (w.heap.size + 1) = some k → w.heap.size ≤ k := fun k hk => by injection hk with hk; omega
  exact ⟨(hr.kept (grown_set _ _ _ _) h1).kept (grown_set _ _ _ _) h1, grown_other (grown_other hg (grown_set _ _ _ _) h2) (grown_set _ _ _ _) h2⟩
theorem text_len (s : St) : (text s).l.length ≤ s.l.length := by
  unfold text tk lost
  have := cnt_len s
  split
  · split <;> simp <;> omega
  · exact this
theorem list_len (s : St) : (list s).l.length ≤ s.l.length := Nat.le_trans (nums_len _ _) (cnt_len s)
theorem okay_text {s : St} (h : Okay s) : Okay (text s) := h.cnt.tk _
theorem okay_list {s : St} (h : Okay s) : Okay (list s) := h.cnt.numsAt _
set_option maxRecDepth 100000 in
set_option maxHeartbeats 3200000 in
theorem read_zero (w0 : World) (A : Option Addr) (c r : Nat) (s : St) (kd : Int) (w : World) (h0 : Sl w0 A s.l.length c s.l) (hb0 : Below w0.heap.size w0 w) (ho : Okay s) (hl : s.l.length ≤ 100) (hr : Rdr w r s) (t0 : ((IntKind.u64.wrap kd).tmod 3 == 0) = true) :
    Calls Try.prog 20 #[.pointer (some ⟨r, 0, none⟩), .agg #[.slice A s.l.length c, .int .i64 s.e], .int .i64 kd] w (RdPost w0 r w) := by
  have GT := Lib.hid (fun WX hb => refNum_any w0 A c s WX h0 hb ho (Nat.le_trans hl (by omega)))
  have RC := Lib.hid (fun WX (h : Rdr WX r s) => numb_any WX r s h (Nat.le_trans hl (by omega)))
  have RLT := Lib.hid hr.lt
  have R0 := Lib.hid hr
  have OK2 := Lib.hid (ho.num)
  have LN := Lib.hid (Nat.le_trans (num_len s) hl)
  have B0 := Lib.hid (((Below.refl w.heap.size w).alloc (Nat.le_refl _) (.cells #[.slice A s.l.length c, .int .i64 s.e] 36)).alloc (by simp) (.cells #[.slice none 0 0, .int .i64 0] 36))
  have HB := Lib.hid hb0
  clear h0 hb0 ho hl hr
  skip
  generalize s.l.length = n0 at *
  generalize s.e = e0 at *
  generalize num s = N at *
  generalize numV s = m at *
  go_enter Try.func20, Try.ntmps20
  go_wp2_with fail
  (with_reducible refine (GT.out _ (HB.out.trans (B0.out.mono HB.out.size))).mono ?_)
  rintro e w1 ⟨A1, c1, rfl, hs1, hb1⟩
  have S1 := Lib.hid hs1; clear hs1
  have Z1 : Hid (w.heap.size + 2 ≤ w1.heap.size) := by show _ ≤ _; have := hb1.size; simp at this; omega
  have RT1 : NextAt w1 (w.heap.size + 1) none 0 0 0 := by
    unfold NextAt
    rw [hb1.block _ (by simp)]
    have := heap_alloc_new (w.alloc (.cells #[.slice A n0 c, .int .i64 e0] 36)) (.cells #[.slice none 0 0, .int .i64 0] 36)
    rw [show (w.alloc (.cells #[.slice A n0 c, .int .i64 e0] 36)).heap.size = w.heap.size + 1 from by simp] at this
    exact this
  have BW := Lib.hid (B0.out.trans (hb1.mono (by simp; omega)))
  skip
  clear hb1
  obtain ⟨ne, hne⟩ : ∃ ne, ne = N.e := ⟨_, rfl⟩
  have NE := Lib.hid hne; clear hne
  obtain ⟨nl, hnl⟩ : ∃ nl, nl = N.l.length := ⟨_, rfl⟩
  have NL := Lib.hid hnl; clear hnl
  rw [← NE.out, ← NL.out]
  have X0 : Hid (NextAt (w1.alloc (.cells #[.slice A1 nl c1, .int .i64 ne] 36)) w1.heap.size A1 nl c1 ne) := heap_alloc_new w1 _
  have RX0 : NextAt (w1.alloc (.cells #[.slice A1 nl c1, .int .i64 ne] 36)) (w.heap.size + 1) none 0 0 0 := RT1.kept (World.grownBy_alloc _ _ none) (by simp)
  have RX := Lib.hid RX0; clear RX0 RT1
  have BX := Lib.hid (BW.out.alloc BW.out.size (.cells #[.slice A1 nl c1, .int .i64 ne] 36))
  go_wp2_with fail
  skip
  generalize w1.alloc (.cells #[.slice A1 nl c1, .int .i64 ne] 36) = X at *
  obtain ⟨g, hg⟩ : ∃ g, g = w1.heap.size := ⟨_, rfl⟩
  rw [← hg] at X0 Z1 ⊢
  clear hg
  have RXr := Lib.hid (R0.out.below BX.out)
  have HS0 : Hid (X.drew.cell? ⟨g, 0, none⟩ = some (.slice A1 nl c1) ∧ X.drew.cell? ⟨g, 1, none⟩ = some (.int .i64 ne)) := ⟨X0.out.facts.1, X0.out.facts.2.1⟩
  have BXd := Lib.hid BX.out.drew
  have R0d := Lib.hid (R0.out.below BXd.out)
  refine wp_region_held_drew (S := fun W => W.cell? ⟨g, 0, none⟩ = some (.slice A1 nl c1) ∧ W.cell? ⟨g, 1, none⟩ = some (.int .i64 ne)) (by kernel_rfl) HS0.out (fun hS => ?_)
  refine tkYes 0 (v := ?_) rfl (by kernel_rfl) (fun _ _ _ h => h) rfl ?_ hS ?_
  rotate_left
  · intro W hW; have hw1 : W.cell? ⟨g, 0, none⟩ = some (.slice A1 nl c1) := hW.1; have hw2 : W.cell? ⟨g, 1, none⟩ = some (.int .i64 ne) := hW.2; go_simp; (try with_reducible rfl)
  simp only [Act.put, List.setIfInBounds_toArray, List.set_cons_zero, List.set_cons_succ]
  refine tkYes 1 (v := ?_) rfl (by kernel_rfl) (fun _ _ _ h => h) rfl ?_ hS ?_
  rotate_left
  · intro W hW; go_simp; (try with_reducible rfl)
  simp only [Act.put, List.setIfInBounds_toArray, List.set_cons_zero, List.set_cons_succ]
  refine tkYes 3 (v := ?_) rfl (by kernel_rfl) (fun _ _ _ h => h) rfl ?_ hS ?_
  rotate_left
  · intro W hW; go_simp; (try with_reducible rfl)
  simp only [Act.put, List.setIfInBounds_toArray, List.set_cons_zero, List.set_cons_succ]
  refine rnOne 2 rfl (by kernel_rfl) rfl (fun K hK => ?_)
  go_simp
  (with_reducible refine (RC.out _ R0d.out).mono ?_)
  rintro e X9 ⟨rfl, hr9, hg9⟩
  have G9 := Lib.hid (grown_trans (grown_below (some r) BXd.out) hg9)
  have R9 := Lib.hid hr9; clear hr9
  have NX9 := X0.out.kept (grown_trans (grown_below (some r) (Below.refl X.heap.size X).drew) hg9) (fun e2 => by injection e2 with e2; have := RLT.out; have := Z1.out; omega)
  have RT9 := RX.out.kept (grown_trans (grown_below (some r) (Below.refl X.heap.size X).drew) hg9) (fun e2 => by injection e2 with e2; have := RLT.out; omega)
  clear hg9 hS
  obtain ⟨r1, r2, r3, r4⟩ := RT9.facts
  have hS : X9.cell? ⟨g, 0, none⟩ = some (.slice A1 nl c1) ∧ X9.cell? ⟨g, 1, none⟩ = some (.int .i64 ne) := ⟨NX9.facts.1, NX9.facts.2.1⟩
  have HS9 : Hid (((X9.setCell ⟨w.heap.size + 1, 0, none⟩ (.slice A1 nl c1)).setCell ⟨w.heap.size + 1, 1, none⟩ (.int .i64 ne)).cell? ⟨g, 0, none⟩ = some (.slice A1 nl c1) ∧ ((X9.setCell ⟨w.heap.size + 1, 0, none⟩ (.slice A1 nl c1)).setCell ⟨w.heap.size + 1, 1, none⟩ (.int .i64 ne)).cell? ⟨g, 1, none⟩ = some (.int .i64 ne)) := by
    have h5 := (NX9.kept (row := some (w.heap.size + 1)) (grown_trans (grown_set X9 (w.heap.size + 1) 0 (.slice A1 nl c1)) (grown_set _ _ 1 (.int .i64 ne))) (fun e2 => by injection e2 with e2; have := Z1.out; omega)).facts
    exact ⟨h5.1, h5.2.1⟩
  clear NX9 RT9
  refine hK.out _ _ hS (fun _ => ?_)
  clear hK K
  try simp only [Act.put, List.setIfInBounds_toArray, List.set_cons_zero, List.set_cons_succ]
  refine tkYes 4 (v := ?_) rfl (by kernel_rfl) (fun _ _ _ h => h) rfl ?_ hS ?_
  rotate_left
  · intro W hW; go_simp; (try with_reducible rfl)
  simp only [Act.put, List.setIfInBounds_toArray, List.set_cons_zero, List.set_cons_succ]
  refine rnOne 5 rfl (by kernel_rfl) rfl (fun K hK => ?_)
  go_simp
  clear hS
  have hS := HS9.out
  refine hK.out _ _ hS (fun _ => ?_)
  clear hK K
  try simp only [Act.put, List.setIfInBounds_toArray, List.set_cons_zero, List.set_cons_succ]
  refine tkYes 6 (v := ?_) rfl (by kernel_rfl) (fun _ _ _ h => h) rfl ?_ hS ?_
  rotate_left
  · intro W hW; go_simp; (try with_reducible rfl)
  simp only [Act.put, List.setIfInBounds_toArray, List.set_cons_zero, List.set_cons_succ]
  refine wpAnyH_done (by kernel_rfl) ?_ _
  clear hS
  have F9 := Lib.hid (rd_end G9.out R9.out RLT.out (.slice A1 nl c1) (.int .i64 ne))
  go_wp2_with fail
  exact bodyPost_ret (v := .tuple #[.agg #[.slice A1 nl c1, .int .i64 ne], .bool true]) (by simp [results, Try.results20, go_sem, r1, r2]) rfl ⟨N, A1, c1, by rw [NE.out, NL.out], F9.out.1, S1.out, OK2.out, LN.out, F9.out.2⟩
set_option maxRecDepth 100000 in
set_option maxHeartbeats 3200000 in
theorem read_one (w0 : World) (A : Option Addr) (c r : Nat) (s : St) (kd : Int) (w : World) (h0 : Sl w0 A s.l.length c s.l) (hb0 : Below w0.heap.size w0 w) (ho : Okay s) (hl : s.l.length ≤ 100) (hr : Rdr w r s) (t0 : ((IntKind.u64.wrap kd).tmod 3 == 0) = false) (t1 : ((IntKind.u64.wrap kd).tmod 3 == 1) = true) :
    Calls Try.prog 20 #[.pointer (some ⟨r, 0, none⟩), .agg #[.slice A s.l.length c, .int .i64 s.e], .int .i64 kd] w (RdPost w0 r w) := by
  have GT := Lib.hid (fun WX hb => refText_get w0 A c s WX h0 hb ho (Nat.le_trans hl (by omega)))
  have RC := Lib.hid (fun WX (h : Rdr WX r s) => rtext_any WX r s h (Nat.le_trans hl (by omega)))
  have RLT := Lib.hid hr.lt
  have R0 := Lib.hid hr
  have OK2 := Lib.hid (okay_text ho)
  have LN := Lib.hid (Nat.le_trans (text_len s) hl)
  have B0 := Lib.hid (((Below.refl w.heap.size w).alloc (Nat.le_refl _) (.cells #[.slice A s.l.length c, .int .i64 s.e] 36)).alloc (by simp) (.cells #[.slice none 0 0, .int .i64 0] 36))
  have HB := Lib.hid hb0
  clear h0 hb0 ho hl hr
  unfold TextPost at RC
  generalize s.l.length = n0 at *
  generalize s.e = e0 at *
  generalize text s = N at *
  generalize textV s = tv at *
  have tt := txt_same tv
  go_enter Try.func20, Try.ntmps20
  go_wp2_with fail
  (with_reducible refine (GT.out _ (HB.out.trans (B0.out.mono HB.out.size))).mono ?_)
  rintro e w1 ⟨A1, c1, rfl, hs1, hb1⟩
  have S1 := Lib.hid hs1; clear hs1
  have Z1 : Hid (w.heap.size + 2 ≤ w1.heap.size) := by show _ ≤ _; have := hb1.size; simp at this; omega
  have RT1 : NextAt w1 (w.heap.size + 1) none 0 0 0 := by
    unfold NextAt
    rw [hb1.block _ (by simp)]
    have := heap_alloc_new (w.alloc (.cells #[.slice A n0 c, .int .i64 e0] 36)) (.cells #[.slice none 0 0, .int .i64 0] 36)
    rw [show (w.alloc (.cells #[.slice A n0 c, .int .i64 e0] 36)).heap.size = w.heap.size + 1 from by simp] at this
    exact this
  have BW := Lib.hid (B0.out.trans (hb1.mono (by simp; omega)))
  skip
  clear hb1
  obtain ⟨ne, hne⟩ : ∃ ne, ne = N.e := ⟨_, rfl⟩
  have NE := Lib.hid hne; clear hne
  obtain ⟨nl, hnl⟩ : ∃ nl, nl = N.l.length := ⟨_, rfl⟩
  have NL := Lib.hid hnl; clear hnl
  rw [← NE.out, ← NL.out]
  have X0 : Hid (NextAt (w1.alloc (.cells #[.slice A1 nl c1, .int .i64 ne] 36)) w1.heap.size A1 nl c1 ne) := heap_alloc_new w1 _
  have RX0 : NextAt (w1.alloc (.cells #[.slice A1 nl c1, .int .i64 ne] 36)) (w.heap.size + 1) none 0 0 0 := RT1.kept (World.grownBy_alloc _ _ none) (by simp)
  have RX := Lib.hid RX0; clear RX0 RT1
  have BX := Lib.hid (BW.out.alloc BW.out.size (.cells #[.slice A1 nl c1, .int .i64 ne] 36))
  go_wp2_with fail
  skip
  generalize w1.alloc (.cells #[.slice A1 nl c1, .int .i64 ne] 36) = X at *
  obtain ⟨g, hg⟩ : ∃ g, g = w1.heap.size := ⟨_, rfl⟩
  rw [← hg] at X0 Z1 ⊢
  clear hg
  have RXr := Lib.hid (R0.out.below BX.out)
  have HS0 : Hid (X.drew.cell? ⟨g, 0, none⟩ = some (.slice A1 nl c1) ∧ X.drew.cell? ⟨g, 1, none⟩ = some (.int .i64 ne)) := ⟨X0.out.facts.1, X0.out.facts.2.1⟩
  have BXd := Lib.hid BX.out.drew
  have R0d := Lib.hid (R0.out.below BXd.out)
  refine wp_region_held_drew (S := fun W => W.cell? ⟨g, 0, none⟩ = some (.slice A1 nl c1) ∧ W.cell? ⟨g, 1, none⟩ = some (.int .i64 ne)) (by kernel_rfl) HS0.out (fun hS => ?_)
  refine tkYes 0 (v := ?_) rfl (by kernel_rfl) (fun _ _ _ h => h) rfl ?_ hS ?_
  rotate_left
  · intro W hW; have hw1 : W.cell? ⟨g, 0, none⟩ = some (.slice A1 nl c1) := hW.1; have hw2 : W.cell? ⟨g, 1, none⟩ = some (.int .i64 ne) := hW.2; go_simp; (try with_reducible rfl)
  simp only [Act.put, List.setIfInBounds_toArray, List.set_cons_zero, List.set_cons_succ]
  refine tkYes 1 (v := ?_) rfl (by kernel_rfl) (fun _ _ _ h => h) rfl ?_ hS ?_
  rotate_left
  · intro W hW; go_simp; (try with_reducible rfl)
  simp only [Act.put, List.setIfInBounds_toArray, List.set_cons_zero, List.set_cons_succ]
  refine tkYes 3 (v := ?_) rfl (by kernel_rfl) (fun _ _ _ h => h) rfl ?_ hS ?_
  rotate_left
  · intro W hW; go_simp; (try with_reducible rfl)
  simp only [Act.put, List.setIfInBounds_toArray, List.set_cons_zero, List.set_cons_succ]
  refine rnOne 2 rfl (by kernel_rfl) rfl (fun K hK => ?_)
  go_simp
  (with_reducible refine (RC.out _ R0d.out).mono ?_)
  rintro e X9 ⟨rfl, hr9, hg9⟩
  have G9 := Lib.hid (grown_trans (grown_below (some r) BXd.out) hg9)
  have R9 := Lib.hid hr9; clear hr9
  have NX9 := X0.out.kept (grown_trans (grown_below (some r) (Below.refl X.heap.size X).drew) hg9) (fun e2 => by injection e2 with e2; have := RLT.out; have := Z1.out; omega)
  have RT9 := RX.out.kept (grown_trans (grown_below (some r) (Below.refl X.heap.size X).drew) hg9) (fun e2 => by injection e2 with e2; have := RLT.out; omega)
  clear hg9 hS
  obtain ⟨r1, r2, r3, r4⟩ := RT9.facts
  have hS : X9.cell? ⟨g, 0, none⟩ = some (.slice A1 nl c1) ∧ X9.cell? ⟨g, 1, none⟩ = some (.int .i64 ne) := ⟨NX9.facts.1, NX9.facts.2.1⟩
  have HS9 : Hid (((X9.setCell ⟨w.heap.size + 1, 0, none⟩ (.slice A1 nl c1)).setCell ⟨w.heap.size + 1, 1, none⟩ (.int .i64 ne)).cell? ⟨g, 0, none⟩ = some (.slice A1 nl c1) ∧ ((X9.setCell ⟨w.heap.size + 1, 0, none⟩ (.slice A1 nl c1)).setCell ⟨w.heap.size + 1, 1, none⟩ (.int .i64 ne)).cell? ⟨g, 1, none⟩ = some (.int .i64 ne)) := by
    have h5 := (NX9.kept (row := some (w.heap.size + 1)) (grown_trans (grown_set X9 (w.heap.size + 1) 0 (.slice A1 nl c1)) (grown_set _ _ 1 (.int .i64 ne))) (fun e2 => by injection e2 with e2; have := Z1.out; omega)).facts
    exact ⟨h5.1, h5.2.1⟩
  clear NX9 RT9
  refine hK.out _ _ hS (fun _ => ?_)
  clear hK K
  try simp only [Act.put, List.setIfInBounds_toArray, List.set_cons_zero, List.set_cons_succ]
  refine tkYes 4 (v := ?_) rfl (by kernel_rfl) (fun _ _ _ h => h) rfl ?_ hS ?_
  rotate_left
  · intro W hW; go_simp; (try with_reducible rfl)
  simp only [Act.put, List.setIfInBounds_toArray, List.set_cons_zero, List.set_cons_succ]
  refine rnOne 5 rfl (by kernel_rfl) rfl (fun K hK => ?_)
  go_simp
  clear hS
  have hS := HS9.out
  refine hK.out _ _ hS (fun _ => ?_)
  clear hK K
  try simp only [Act.put, List.setIfInBounds_toArray, List.set_cons_zero, List.set_cons_succ]
  refine tkYes 6 (v := ?_) rfl (by kernel_rfl) (fun _ _ _ h => h) rfl ?_ hS ?_
  rotate_left
  · intro W hW; go_simp; (try with_reducible rfl)
  simp only [Act.put, List.setIfInBounds_toArray, List.set_cons_zero, List.set_cons_succ]
  refine wpAnyH_done (by kernel_rfl) ?_ _
  clear hS
  have F9 := Lib.hid (rd_end G9.out R9.out RLT.out (.slice A1 nl c1) (.int .i64 ne))
  go_wp2_with fail
  exact bodyPost_ret (v := .tuple #[.agg #[.slice A1 nl c1, .int .i64 ne], .bool true]) (by simp [results, Try.results20, go_sem, r1, r2]) rfl ⟨N, A1, c1, by rw [NE.out, NL.out], F9.out.1, S1.out, OK2.out, LN.out, F9.out.2⟩
set_option maxRecDepth 100000 in
set_option maxHeartbeats 3200000 in
theorem read_two (w0 : World) (A : Option Addr) (c r : Nat) (s : St) (kd : Int) (w : World) (h0 : Sl w0 A s.l.length c s.l) (hb0 : Below w0.heap.size w0 w) (ho : Okay s) (hl : s.l.length ≤ 100) (hr : Rdr w r s) (t0 : ((IntKind.u64.wrap kd).tmod 3 == 0) = false) (t1 : ((IntKind.u64.wrap kd).tmod 3 == 1) = false) :
    Calls Try.prog 20 #[.pointer (some ⟨r, 0, none⟩), .agg #[.slice A s.l.length c, .int .i64 s.e], .int .i64 kd] w (RdPost w0 r w) := by
  have GT := Lib.hid (fun WX hb => refList_get w0 A c s WX h0 hb ho (Nat.le_trans hl (by omega)))
  have RC := Lib.hid (fun WX (h : Rdr WX r s) => rlist_any WX r s h (Nat.le_trans hl (by omega)))
  have RLT := Lib.hid hr.lt
  have R0 := Lib.hid hr
  have OK2 := Lib.hid (okay_list ho)
  have LN := Lib.hid (Nat.le_trans (list_len s) hl)
  have B0 := Lib.hid (((Below.refl w.heap.size w).alloc (Nat.le_refl _) (.cells #[.slice A s.l.length c, .int .i64 s.e] 36)).alloc (by simp) (.cells #[.slice none 0 0, .int .i64 0] 36))
  have HB := Lib.hid hb0
  clear h0 hb0 ho hl hr
  unfold ListPost at RC
  unfold LPost at GT
  have LV : Hid ((listV s).length ≤ 1000) := by
    show _ ≤ _
    unfold listV
    split
    · rw [numsV_length]; have := cntV_le s; omega
    · simp
  generalize s.l.length = n0 at *
  generalize s.e = e0 at *
  generalize list s = N at *
  generalize listV s = lv at *
  go_enter Try.func20, Try.ntmps20
  go_wp2_with fail
  (with_reducible refine (GT.out _ (HB.out.trans (B0.out.mono HB.out.size))).mono ?_)
  rintro e w1 ⟨A1, c1, D1, d1, rfl, hs1, hsl1, hb1, hfar⟩
  have S1 := Lib.hid hs1; clear hs1
  have Z1 : Hid (w.heap.size + 2 ≤ w1.heap.size) := by show _ ≤ _; have := hb1.size; simp at this; omega
  have RT1 : NextAt w1 (w.heap.size + 1) none 0 0 0 := by
    unfold NextAt
    rw [hb1.block _ (by simp)]
    have := heap_alloc_new (w.alloc (.cells #[.slice A n0 c, .int .i64 e0] 36)) (.cells #[.slice none 0 0, .int .i64 0] 36)
    rw [show (w.alloc (.cells #[.slice A n0 c, .int .i64 e0] 36)).heap.size = w.heap.size + 1 from by simp] at this
    exact this
  have BW := Lib.hid (B0.out.trans (hb1.mono (by simp; omega)))
  have SI := Lib.hid hsl1; clear hsl1
  have FA := Lib.hid hfar; clear hfar
  clear hb1
  obtain ⟨ne, hne⟩ : ∃ ne, ne = N.e := ⟨_, rfl⟩
  have NE := Lib.hid hne; clear hne
  obtain ⟨nl, hnl⟩ : ∃ nl, nl = N.l.length := ⟨_, rfl⟩
  have NL := Lib.hid hnl; clear hnl
  rw [← NE.out, ← NL.out]
  have X0 : Hid (NextAt (w1.alloc (.cells #[.slice A1 nl c1, .int .i64 ne] 36)) w1.heap.size A1 nl c1 ne) := heap_alloc_new w1 _
  have RX0 : NextAt (w1.alloc (.cells #[.slice A1 nl c1, .int .i64 ne] 36)) (w.heap.size + 1) none 0 0 0 := RT1.kept (World.grownBy_alloc _ _ none) (by simp)
  have RX := Lib.hid RX0; clear RX0 RT1
  have BX := Lib.hid (BW.out.alloc BW.out.size (.cells #[.slice A1 nl c1, .int .i64 ne] 36))
  go_wp2_with fail
  have SIX := Lib.hid (SI.out.on ((Below.refl w1.heap.size w1).alloc (Nat.le_refl _) (.cells #[.slice A1 nl c1, .int .i64 ne] 36)))
  generalize w1.alloc (.cells #[.slice A1 nl c1, .int .i64 ne] 36) = X at *
  obtain ⟨g, hg⟩ : ∃ g, g = w1.heap.size := ⟨_, rfl⟩
  rw [← hg] at X0 Z1 ⊢
  clear hg
  have RXr := Lib.hid (R0.out.below BX.out)
  have HS0 : Hid (X.drew.cell? ⟨g, 0, none⟩ = some (.slice A1 nl c1) ∧ X.drew.cell? ⟨g, 1, none⟩ = some (.int .i64 ne)) := ⟨X0.out.facts.1, X0.out.facts.2.1⟩
  have BXd := Lib.hid BX.out.drew
  have R0d := Lib.hid (R0.out.below BXd.out)
  refine wp_region_held_drew (S := fun W => W.cell? ⟨g, 0, none⟩ = some (.slice A1 nl c1) ∧ W.cell? ⟨g, 1, none⟩ = some (.int .i64 ne)) (by kernel_rfl) HS0.out (fun hS => ?_)
  refine tkYes 0 (v := ?_) rfl (by kernel_rfl) (fun _ _ _ h => h) rfl ?_ hS ?_
  rotate_left
  · intro W hW; have hw1 : W.cell? ⟨g, 0, none⟩ = some (.slice A1 nl c1) := hW.1; have hw2 : W.cell? ⟨g, 1, none⟩ = some (.int .i64 ne) := hW.2; go_simp; (try with_reducible rfl)
  simp only [Act.put, List.setIfInBounds_toArray, List.set_cons_zero, List.set_cons_succ]
  refine tkYes 1 (v := ?_) rfl (by kernel_rfl) (fun _ _ _ h => h) rfl ?_ hS ?_
  rotate_left
  · intro W hW; go_simp; (try with_reducible rfl)
  simp only [Act.put, List.setIfInBounds_toArray, List.set_cons_zero, List.set_cons_succ]
  refine tkYes 3 (v := ?_) rfl (by kernel_rfl) (fun _ _ _ h => h) rfl ?_ hS ?_
  rotate_left
  · intro W hW; go_simp; (try with_reducible rfl)
  simp only [Act.put, List.setIfInBounds_toArray, List.set_cons_zero, List.set_cons_succ]
  refine rnOne 2 rfl (by kernel_rfl) rfl (fun K hK => ?_)
  go_simp
  (with_reducible refine (RC.out _ R0d.out).mono ?_)
  rintro e Y9 ⟨A9, c9, rfl, hsl9, hr9, hg9⟩
  have SI9 := Lib.hid (SIX.out.apart (grown_trans (grown_below (some r) (Below.refl X.heap.size X).drew) hg9) (fun a ha e2 => by have h8 := FA.out a ha; have h9 := RLT.out; simp at h8; omega))
  have SL9 := Lib.hid hsl9; clear hsl9
  have G9 := Lib.hid (grown_trans (grown_below (some r) BXd.out) hg9)
  have R9 := Lib.hid hr9; clear hr9
  have NX9 := X0.out.kept (grown_trans (grown_below (some r) (Below.refl X.heap.size X).drew) hg9) (fun e2 => by injection e2 with e2; have := RLT.out; have := Z1.out; omega)
  have RT9 := RX.out.kept (grown_trans (grown_below (some r) (Below.refl X.heap.size X).drew) hg9) (fun e2 => by injection e2 with e2; have := RLT.out; omega)
  clear hg9 hS
  have hS : Y9.cell? ⟨g, 0, none⟩ = some (.slice A1 nl c1) ∧ Y9.cell? ⟨g, 1, none⟩ = some (.int .i64 ne) := ⟨NX9.facts.1, NX9.facts.2.1⟩
  have NXY := Lib.hid NX9
  have RTY := Lib.hid RT9
  have GY := Lib.hid G9.out
  have RY := Lib.hid R9.out
  clear NX9 RT9 G9 R9
  refine hK.out _ _ hS (fun _ => ?_)
  clear hK K
  try simp only [Act.put, List.setIfInBounds_toArray, List.set_cons_zero, List.set_cons_succ]
  refine rnOne 4 rfl (by kernel_rfl) rfl (fun K hK => ?_)
  go_simp
  (with_reducible refine (same_any _ c9 d1 A9 D1 _ Y9 SL9.out SI9.out (by have := LV.out; omega)).mono ?_)
  rintro e w10 ⟨rfl, dd, rfl⟩
  clear hS
  have DB := (below_drewN (Below.refl Y9.heap.size Y9) dd)
  have NX9 := NXY.out.kept (grown_below none DB) (by simp)
  have RT9 := RTY.out.kept (grown_below none DB) (by simp)
  have G9 := Lib.hid (grown_trans GY.out (grown_below (some r) DB))
  have R9 := Lib.hid (RY.out.below DB)
  clear DB NXY RTY GY RY SL9 SI9
  generalize Y9.drewN dd = X9 at *
  obtain ⟨r1, r2, r3, r4⟩ := RT9.facts
  have hS : X9.cell? ⟨g, 0, none⟩ = some (.slice A1 nl c1) ∧ X9.cell? ⟨g, 1, none⟩ = some (.int .i64 ne) := ⟨NX9.facts.1, NX9.facts.2.1⟩
  have HS9 : Hid (((X9.setCell ⟨w.heap.size + 1, 0, none⟩ (.slice A1 nl c1)).setCell ⟨w.heap.size + 1, 1, none⟩ (.int .i64 ne)).cell? ⟨g, 0, none⟩ = some (.slice A1 nl c1) ∧ ((X9.setCell ⟨w.heap.size + 1, 0, none⟩ (.slice A1 nl c1)).setCell ⟨w.heap.size + 1, 1, none⟩ (.int .i64 ne)).cell? ⟨g, 1, none⟩ = some (.int .i64 ne)) := by
    have h5 := (NX9.kept (row := some (w.heap.size + 1)) (grown_trans (grown_set X9 (w.heap.size + 1) 0 (.slice A1 nl c1)) (grown_set _ _ 1 (.int .i64 ne))) (fun e2 => by injection e2 with e2; have := Z1.out; omega)).facts
    exact ⟨h5.1, h5.2.1⟩
  clear NX9 RT9
  refine hK.out _ _ hS (fun _ => ?_)
  clear hK K
  try simp only [Act.put, List.setIfInBounds_toArray, List.set_cons_zero, List.set_cons_succ]
  refine rnOne 5 rfl (by kernel_rfl) rfl (fun K hK => ?_)
  go_simp
  clear hS
  have hS := HS9.out
  refine hK.out _ _ hS (fun _ => ?_)
  clear hK K
  try simp only [Act.put, List.setIfInBounds_toArray, List.set_cons_zero, List.set_cons_succ]
  refine tkYes 6 (v := ?_) rfl (by kernel_rfl) (fun _ _ _ h => h) rfl ?_ hS ?_
  rotate_left
  · intro W hW; go_simp; (try with_reducible rfl)
  simp only [Act.put, List.setIfInBounds_toArray, List.set_cons_zero, List.set_cons_succ]
  refine wpAnyH_done (by kernel_rfl) ?_ _
  clear hS
  have F9 := Lib.hid (rd_end G9.out R9.out RLT.out (.slice A1 nl c1) (.int .i64 ne))
  go_wp2_with fail
  exact bodyPost_ret (v := .tuple #[.agg #[.slice A1 nl c1, .int .i64 ne], .bool true]) (by simp [results, Try.results20, go_sem, r1, r2]) rfl ⟨N, A1, c1, by rw [NE.out, NL.out], F9.out.1, S1.out, OK2.out, LN.out, F9.out.2⟩
theorem read_any (w0 : World) (A : Option Addr) (c r : Nat) (s : St) (kd : Int) (w : World) (h0 : Sl w0 A s.l.length c s.l) (hb0 : Below w0.heap.size w0 w) (ho : Okay s) (hl : s.l.length ≤ 100) (hr : Rdr w r s) :
    Calls Try.prog 20 #[.pointer (some ⟨r, 0, none⟩), .agg #[.slice A s.l.length c, .int .i64 s.e], .int .i64 kd] w (RdPost w0 r w) := by
  rcases t0 : ((IntKind.u64.wrap kd).tmod 3 == 0) with _ | _
  · rcases t1 : ((IntKind.u64.wrap kd).tmod 3 == 1) with _ | _
    · exact read_two w0 A c r s kd w h0 hb0 ho hl hr t0 t1
    · exact read_one w0 A c r s kd w h0 hb0 ho hl hr t0 t1
  · exact read_zero w0 A c r s kd w h0 hb0 ho hl hr t0
end Go.Proofs.Ytogmepijpklciaa
