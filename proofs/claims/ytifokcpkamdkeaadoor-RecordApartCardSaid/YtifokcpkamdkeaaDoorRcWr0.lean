/-
  The walk of RecordWrites. Written by wip/tools/gen/rcwrites.py. No condition.
-/
import Derived.Test.YtifokcpkamdkeaaDoorRk9
import Derived.Laws.ResultCell
import Derived.Laws.CopyOwn
import Derived.Deep.CutBlock
import Derived.Deep.DeepCutAuto
namespace Go.Proofs.YtifokcpkamdkeaaDoor
open Go.RowKit Cdc
set_option linter.unusedSimpArgs false
set_option linter.unusedVariables false

/-- A whole record read, in a region that draws its order. -/
theorem take_rec {a : Act} {oi : Oper} (x : Operand) (ho : oi.op = .load 26 x) (g : Nat) (r : Rc.R) (hx : a.eval x = .pointer (some ⟨g, 0, none⟩)) {W : World} (h : RcAt W g r) : (execOp a.eval oi).run Tryd.prog W = .ok (.value (.agg (Rc.cells r))) W := by
  unfold execOp
  simp only [ho, hx, Instr.loadAt, Instr.sureAddr, Sem.run_bind, Sem.run_pure, Result.andThen_ok, run_loadVar_row (P := Tryd.prog) W g 26 26 (Rc.cells r) (0, 0) _ h.row rec_fields rfl (rec_size r)]
def Rc.cut (r : Rc.R) : Rc.R := ⟨r.kind, r.epoch, r.who, r.n, r.seq, txt ((sb r.text).take 70), r.sp⟩
theorem Rc.cut_in {r : Rc.R} (h : Rc.In r) : Rc.In (Rc.cut r) := ⟨h.nums, by show (txt _).size ≤ _; rw [txt_size, List.length_take]; unfold maxLen; omega, h.sp⟩
theorem cut_text (t : ByteArray) : t.extract 0 (min t.size 70) = txt ((sb t).take 70) := by
  conv => lhs; rw [← txt_sb t]
  rw [txt_cut, txt_size, sb_length]
  congr 1
  by_cases h : t.size ≤ 70
  · rw [Nat.min_eq_left h, List.take_of_length_le (by rw [sb_length]; exact Nat.le_refl _), List.take_of_length_le (by rw [sb_length]; exact h)]
  · rw [Nat.min_eq_right (by omega)]
theorem rcw_results {fn : Func} {p : Tmp} (h : fn.results = #[.cell p 26]) (tmps : Array Value) (w : World) (g : Nat) (r : Rc.R) (hp : tmps.getD p undef = .pointer (some ⟨g, 0, none⟩)) (hg : RcAt w g r) :
    (results fn tmps).run Tryd.prog w = .ok (.agg (Rc.cells r)) w := by
  have := results_cell_row (P := Tryd.prog) h tmps w g 26 (Rc.cells r) (0, 0) _ hp hg.row rec_fields rfl (rec_size r)
  exact this
theorem rcw_set {w : World} {g : Nat} {o : Rc.R} (h : RcAt w g o) (o' : Rc.R) (k : Nat) (v : Value) (he : (Rc.cells o).setIfInBounds k v = Rc.cells o') : RcAt (w.setCell ⟨g, k, none⟩ v) g o' := ⟨by rw [← he]; exact heap_setCell_same w g k _ _ _ h.row⟩
theorem rcw_far {w : World} {a g : Nat} {o : Rc.R} (h : RcAt w a o) (hne : a ≠ g) (k : Nat) (v : Value) : RcAt (w.setCell ⟨g, k, none⟩ v) a o := ⟨((grown_set w g k v).block a h.cs.lt (by simp; exact hne)).trans h.row⟩
set_option maxRecDepth 100000 in
set_option maxHeartbeats 6400000 in
theorem rcshort_any (r : Rc.R) (hin : Rc.In r) (w : World) : Calls Tryd.prog 6 #[.agg (Rc.cells r)] w (APos w (.agg (Rc.cells (Rc.cut r)))) := by
  have HI := Lib.hid hin
  have TS : Hid (r.text.size ≤ maxLen) := hin.text
  have hk1 := size_text TS.out
  obtain ⟨g, hg⟩ : ∃ g, g = w.heap.size := ⟨_, rfl⟩
  obtain ⟨gr, hgr⟩ : ∃ gr, gr = g + 1 := ⟨_, rfl⟩
  have BA := (Below.refl w.heap.size w).alloc (Nat.le_refl _) (.cells (Rc.cells r) 26)
  have E1 : (w.alloc (.cells (Rc.cells r) 26)).heap.size = gr := by rw [hgr, hg]; exact World.size_alloc _ _
  have BB := (Below.refl (w.alloc (.cells (Rc.cells r) 26)).heap.size (w.alloc (.cells (Rc.cells r) 26))).alloc (Nat.le_refl _) (.cells #[.int .i64 0, .int .i64 0, .int .i64 0, .int .i64 0, .int .i64 0, .string ⟨#[]⟩, .int .i64 0, .int .i64 0, .int .i64 0, .int .i64 0, .int .i64 0, .int .i64 0, .int .i64 0, .int .i64 0, .int .i64 0, .int .i64 0, .int .i64 0, .int .i64 0] 26)
  have BX := BA.trans (BB.mono BA.size)
  have R0 : RcAt ((w.alloc (.cells (Rc.cells r) 26)).alloc (.cells #[.int .i64 0, .int .i64 0, .int .i64 0, .int .i64 0, .int .i64 0, .string ⟨#[]⟩, .int .i64 0, .int .i64 0, .int .i64 0, .int .i64 0, .int .i64 0, .int .i64 0, .int .i64 0, .int .i64 0, .int .i64 0, .int .i64 0, .int .i64 0, .int .i64 0] 26)) g r := by rw [hg]; exact (RcAt.new w r).on BB
  have X0 : RcAt ((w.alloc (.cells (Rc.cells r) 26)).alloc (.cells #[.int .i64 0, .int .i64 0, .int .i64 0, .int .i64 0, .int .i64 0, .string ⟨#[]⟩, .int .i64 0, .int .i64 0, .int .i64 0, .int .i64 0, .int .i64 0, .int .i64 0, .int .i64 0, .int .i64 0, .int .i64 0, .int .i64 0, .int .i64 0, .int .i64 0] 26)) gr Rc.none_ := by
    have := heap_alloc_new (w.alloc (.cells (Rc.cells r) 26)) (.cells #[.int .i64 0, .int .i64 0, .int .i64 0, .int .i64 0, .int .i64 0, .string ⟨#[]⟩, .int .i64 0, .int .i64 0, .int .i64 0, .int .i64 0, .int .i64 0, .int .i64 0, .int .i64 0, .int .i64 0, .int .i64 0, .int .i64 0, .int .i64 0, .int .i64 0] 26)
    rw [E1] at this
    exact ⟨this⟩
  go_enter Tryd.func6, Tryd.ntmps6
  go_upto_region 1 with fail
  simp only [World.size_alloc, ← hg, ← hgr] at ⊢
  clear E1 BA BB
  generalize (w.alloc (.cells (Rc.cells r) 26)).alloc (.cells #[.int .i64 0, .int .i64 0, .int .i64 0, .int .i64 0, .int .i64 0, .string ⟨#[]⟩, .int .i64 0, .int .i64 0, .int .i64 0, .int .i64 0, .int .i64 0, .int .i64 0, .int .i64 0, .int .i64 0, .int .i64 0, .int .i64 0, .int .i64 0, .int .i64 0] 26) = X at *
  have HG : Hid (w.heap.size ≤ g ∧ w.heap.size ≤ gr ∧ gr ≠ g) := ⟨by omega, by omega, by omega⟩
  clear hg hgr hin
  have RA := Lib.hid R0
  have RX := Lib.hid X0
  have B1 := Lib.hid BX
  clear R0 X0 BX
  have hm1 : min (r.text.size : Int) 70 = ((min r.text.size 70 : Nat) : Int) := by omega
  have hl1 : ((min r.text.size 70 : Nat) : Int) ≤ (r.text.size : Int) := by omega
  have ES := Lib.hid (cut_text r.text)
  generalize min r.text.size 70 = mt at *
  obtain ⟨c0, c1, c2, c3, c4, c5, c6, c7, c8, c9, c10, c11, c12, c13, c14, c15, c16, c17, clt⟩ := RA.out.cs
  have hz := frozen_of_row X g 5 _ _ RA.out.row
  go_upto_region 2 with fail
  rw [ES.out]
  clear hk1 hm1 hl1 ES c0 c1 c2 c3 c4 c5 c6 c7 c8 c9 c10 c11 c12 c13 c14 c15 c16 c17 clt hz
  have RC := Lib.hid (rcw_set RA.out (Rc.cut r) 5 (.string (txt ((sb r.text).take 70))) rfl)
  have RX2 := Lib.hid (rcw_far RX.out HG.out.2.2 5 (.string (txt ((sb r.text).take 70))))
  have B2 := Lib.hid (B1.out.setCell (p := ⟨g, 5, none⟩) HG.out.1 (.string (txt ((sb r.text).take 70))))
  generalize X.setCell ⟨g, 5, none⟩ (.string (txt ((sb r.text).take 70))) = X2 at *
  clear RA RX B1
  go_wp2_with (first
    | ((with_reducible show wpList _ _ _ ({ dst := some 11, op := .load _ _, type := _, pos := _, after := _, guard := _ } :: _) _ _); refine wpList_load_row rfl 26 (.tmp 1) rfl g rfl 26 _ (0, 0) _ RC.out.row rec_fields rfl (rec_size _) ?_)
    | ((with_reducible show wpList _ _ _ ({ dst := none, op := .store _ _ _, type := _, pos := _, after := _, guard := _ } :: _) _ _); refine wpList_store_rec rfl (.tmp 2) (.tmp 11) rfl gr (Rc.cut r) _ rfl rfl RX2.out ?_))
  exact bodyPost_ret (rcw_results Tryd.results6 _ _ gr (Rc.cut r) rfl ⟨setRow_heap _ gr _ _ _ _ RX2.out.row⟩) rfl ⟨rfl, below_setRow B2.out HG.out.2.1 _⟩
set_option maxRecDepth 100000 in
set_option maxHeartbeats 6400000 in
theorem rcwrites_walk (r0 : Rc.R) (hin0 : Rc.In r0) (w : World) (ht : Tb w) : Calls Tryd.prog 3 #[.agg (Rc.cells r0)] w fun e w' => e = .returned (.bool true) ∧ Below w.heap.size w w' := by
  have TB := Lib.hid ht
  have L1 := Lib.hid (fun W => rclives_any rc_any W)
  have CS := Lib.hid (fun W => rcshort_any r0 hin0 W)
  obtain ⟨r, hr⟩ : ∃ r, r = Rc.cut r0 := ⟨_, rfl⟩
  have HI : Hid (Rc.In r) := by rw [hr]; exact Rc.cut_in hin0
  rw [← hr] at CS
  have RA0 := Lib.hid (RcAt.new w r0)
  have B1 := Lib.hid ((Below.refl w.heap.size w).alloc (Nat.le_refl _) (.cells (Rc.cells r0) 26))
  have I0 : Hid (Spc.i64 r.kind) := HI.out.nums _ (by simp [Rc.nums])
  have C1 := Lib.hid (fun W => kbytes_any r HI.out W)
  have C2 := Lib.hid (fun W => rcbytes_any r HI.out W)
  have C3 := Lib.hid (fun W => kright_any r HI.out W)
  have C4 := Lib.hid (fun W => rcright_any r HI.out W)
  have C5 := Lib.hid (fun W h => kwords_any r HI.out W h)
  have C6 := Lib.hid (fun W => rcwords_any r HI.out W)
  have C7 := Lib.hid (fun W => kname_any r.kind I0.out W)
  have C8 := Lib.hid (fun W => rcname_any r.kind I0.out W)
  unfold Rc.val at C2 C4
  clear hr ht hin0
  go_enter Tryd.func3, Tryd.ntmps3
  go_upto_region 1 with fail
  obtain ⟨g, hg⟩ : ∃ g, g = w.heap.size := ⟨_, rfl⟩
  have HGB : Hid (w.heap.size ≤ g) := Nat.le_of_eq hg.symm
  rw [← hg] at RA0 ⊢
  clear hg
  generalize w.alloc (.cells (Rc.cells r0) 26) = ws at *
  go_upto_region 4 with (first
    | (go_at_call 5; (with_reducible refine (L1.out _).mono ?_); rintro e w1 ⟨rfl, hb⟩; have RA0 := Lib.hid (RA0.out.on hb); have B1 := Lib.hid (B1.out.trans (hb.mono B1.out.size)); clear hb)
    | ((with_reducible show wpList _ _ _ ({ dst := some 9, op := .load _ _, type := _, pos := _, after := _, guard := _ } :: _) _ _); refine wpList_load_row rfl 26 (.tmp 1) rfl g rfl 26 _ (0, 0) _ RA0.out.row rec_fields rfl (rec_size _) ?_)
    | (go_at_call 6; (with_reducible refine (CS.out _).mono ?_); rintro e w2 ⟨rfl, hb⟩; have RA0 := Lib.hid (RA0.out.on hb); have B1 := Lib.hid (B1.out.trans (hb.mono B1.out.size)); clear hb)
    | ((with_reducible show wpList _ _ _ ({ dst := none, op := .store _ _ _, type := _, pos := _, after := _, guard := _ } :: _) _ _); refine wpList_store_rec rfl (.tmp 1) (.tmp 10) rfl g r _ rfl rfl RA0.out ?_))
  have RA : Hid (RcAt (w2.setRow g (Rc.cells r)) g r) := ⟨setRow_heap _ g _ _ _ _ RA0.out.row⟩
  have B2 := Lib.hid (below_setRow B1.out HGB.out (Rc.cells r))
  clear RA0 B1
  generalize w2.setRow g (Rc.cells r) = w3 at *
  go_upto_region 6 with (first
    | ((with_reducible show wpList _ _ _ ({ dst := some 12, op := .load _ _, type := _, pos := _, after := _, guard := _ } :: _) _ _); refine wpList_load_row rfl 26 (.tmp 1) rfl g rfl 26 _ (0, 0) _ RA.out.row rec_fields rfl (rec_size _) ?_)
    | (go_at_call 7; (with_reducible refine (C1.out _).mono ?_); rintro e w4 ⟨A4, k4, rfl, hs4, hb⟩; have S4 := Lib.hid hs4; have RA := Lib.hid (RA.out.on hb); have B2 := Lib.hid (B2.out.trans (hb.mono B2.out.size)); clear hs4 hb)
    | ((with_reducible show wpList _ _ _ ({ dst := some 17, op := .load _ _, type := _, pos := _, after := _, guard := _ } :: _) _ _); refine wpList_load_row rfl 26 (.tmp 1) rfl g rfl 26 _ (0, 0) _ RA.out.row rec_fields rfl (rec_size _) ?_)
    | (go_at_call 8; (with_reducible refine (C2.out _).mono ?_); rintro e w5 ⟨A5, k5, rfl, hs5, hb⟩; have S5 := Lib.hid hs5; have S4 := Lib.hid (S4.out.on hb); have RA := Lib.hid (RA.out.on hb); have B2 := Lib.hid (B2.out.trans (hb.mono B2.out.size)); clear hs5 hb))
  have hts := txt_same (Rc.bytesL r)
  generalize Rc.bytesL r = bl at *
  generalize Rc.bytesE r = be at *
  generalize Rc.right r = br at *
  generalize Rc.words r = bw at *
  generalize Rc.nameB r.kind = bn at *
  obtain ⟨n4, hn4⟩ : ∃ n, n = bl.length := ⟨_, rfl⟩
  refine wp_region_held_drew (S := fun W => (RcAt W g r ∧ Sl W A4 bl.length k4 bl ∧ Sl W A5 bl.length k5 bl) ∧ Below w.heap.size w W) (by kernel_rfl) ⟨⟨RA.out.on (Below.refl _ _).drew, S4.out.on (Below.refl _ _).drew, S5.out.on (Below.refl _ _).drew⟩, B2.out.drew⟩ (fun hS => ?_)
  refine tkYes 0 (v := .agg (Rc.cells r)) rfl (by kernel_rfl) (fun _ _ _ h => h) rfl (fun W hW => take_rec (.tmp 1) rfl g r rfl hW.1.1) hS ?_
  simp only [Act.put, List.setIfInBounds_toArray, List.set_cons_zero, List.set_cons_succ]
  refine tkYes 2 (v := .agg (Rc.cells r)) rfl (by kernel_rfl) (fun _ _ _ h => h) rfl (fun W hW => take_rec (.tmp 1) rfl g r rfl hW.1.1) hS ?_
  simp only [Act.put, List.setIfInBounds_toArray, List.set_cons_zero, List.set_cons_succ]
  refine rnOne 1 rfl (by kernel_rfl) rfl (fun K hK => ?_)
  go_simp
  with_reducible refine (C3.out _).mono ?_
  rintro en W ⟨rfl, hW⟩
  have hS2 : (RcAt W g r ∧ Sl W A4 bl.length k4 bl ∧ Sl W A5 bl.length k5 bl) ∧ Below w.heap.size w W := ⟨⟨hS.1.1.on hW, hS.1.2.1.on hW, hS.1.2.2.on hW⟩, hS.2.trans (hW.mono hS.2.size)⟩
  clear hS hW
  have hS := hS2
  clear hS2
  refine hK.out _ _ hS (fun _ => ?_)
  clear hK K
  try simp only [Act.put, List.setIfInBounds_toArray, List.set_cons_zero, List.set_cons_succ]
  refine rnOne 3 rfl (by kernel_rfl) rfl (fun K hK => ?_)
  go_simp
  with_reducible refine (C4.out _).mono ?_
  rintro en W ⟨rfl, hW⟩
  have hS2 : (RcAt W g r ∧ Sl W A4 bl.length k4 bl ∧ Sl W A5 bl.length k5 bl) ∧ Below w.heap.size w W := ⟨⟨hS.1.1.on hW, hS.1.2.1.on hW, hS.1.2.2.on hW⟩, hS.2.trans (hW.mono hS.2.size)⟩
  clear hS hW
  have hS := hS2
  clear hS2
  refine hK.out _ _ hS (fun _ => ?_)
  clear hK K
  try simp only [Act.put, List.setIfInBounds_toArray, List.set_cons_zero, List.set_cons_succ]
  refine tkYes 4 (v := ?_) rfl (by kernel_rfl) (fun _ _ _ h => h) rfl ?_ hS ?_
  rotate_left
  · intro W hW; go_simp; (try with_reducible rfl)
  simp only [Act.put, List.setIfInBounds_toArray, List.set_cons_zero, List.set_cons_succ]
  refine tkYes 5 (v := ?_) rfl (by kernel_rfl) (fun _ _ _ h => h) rfl ?_ hS ?_
  rotate_left
  · intro W hW; go_simp; (try with_reducible rfl)
  simp only [Act.put, List.setIfInBounds_toArray, List.set_cons_zero, List.set_cons_succ]
  refine tkYes 6 (v := ?_) rfl (by kernel_rfl) (fun _ _ _ h => h) rfl ?_ hS ?_
  rotate_left
  · intro W hW; go_simp; (try with_reducible rfl)
  simp only [Act.put, List.setIfInBounds_toArray, List.set_cons_zero, List.set_cons_succ]
  refine tkYes 7 (v := ?_) rfl (by kernel_rfl) (fun _ _ _ h => h) rfl ?_ hS ?_
  rotate_left
  · intro W hW; have hc := conv_rd (c := k4) hW.1.2.1.rd (n := bl.length) rfl; go_simp; (try with_reducible rfl)
  simp only [Act.put, List.setIfInBounds_toArray, List.set_cons_zero, List.set_cons_succ]
  refine tkYes 8 (v := ?_) rfl (by kernel_rfl) (fun _ _ _ h => h) rfl ?_ hS ?_
  rotate_left
  · intro W hW; go_simp; (try with_reducible rfl)
  simp only [Act.put, List.setIfInBounds_toArray, List.set_cons_zero, List.set_cons_succ]
  refine tkYes 9 (v := ?_) rfl (by kernel_rfl) (fun _ _ _ h => h) rfl ?_ hS ?_
  rotate_left
  · intro W hW; have hc := conv_rd (c := k5) hW.1.2.2.rd (n := bl.length) rfl; go_simp; (try with_reducible rfl)
  simp only [Act.put, List.setIfInBounds_toArray, List.set_cons_zero, List.set_cons_succ]
  refine tkYes 10 (v := ?_) rfl (by kernel_rfl) (fun _ _ _ h => h) rfl ?_ hS ?_
  rotate_left
  · intro W hW; go_simp; (try with_reducible rfl)
  simp only [Act.put, List.setIfInBounds_toArray, List.set_cons_zero, List.set_cons_succ]
  refine tkYes 11 (v := ?_) rfl (by kernel_rfl) (fun _ _ _ h => h) rfl ?_ hS ?_
  rotate_left
  · intro W hW; go_simp; (try with_reducible rfl)
  simp only [Act.put, List.setIfInBounds_toArray, List.set_cons_zero, List.set_cons_succ]
  refine tkYes 12 (v := ?_) rfl (by kernel_rfl) (fun _ _ _ h => h) rfl ?_ hS ?_
  rotate_left
  · intro W hW; go_simp; (try with_reducible rfl)
  simp only [Act.put, List.setIfInBounds_toArray, List.set_cons_zero, List.set_cons_succ]
  refine tkYes 13 (v := ?_) rfl (by kernel_rfl) (fun _ _ _ h => h) rfl ?_ hS ?_
  rotate_left
  · intro W hW; go_simp; (try with_reducible rfl)
  simp only [Act.put, List.setIfInBounds_toArray, List.set_cons_zero, List.set_cons_succ]
  refine tkYes 14 (v := ?_) rfl (by kernel_rfl) (fun _ _ _ h => h) rfl ?_ hS ?_
  rotate_left
  · intro W hW; go_simp; (try with_reducible rfl)
  simp only [Act.put, List.setIfInBounds_toArray, List.set_cons_zero, List.set_cons_succ]
  refine tkYes 15 (v := ?_) rfl (by kernel_rfl) (fun _ _ _ h => h) rfl ?_ hS ?_
  rotate_left
  · intro W hW; go_simp; (try with_reducible rfl)
  simp only [Act.put, List.setIfInBounds_toArray, List.set_cons_zero, List.set_cons_succ]
  refine tkYes 16 (v := ?_) rfl (by kernel_rfl) (fun _ _ _ h => h) rfl ?_ hS ?_
  rotate_left
  · intro W hW; go_simp; (try with_reducible rfl)
  simp only [Act.put, List.setIfInBounds_toArray, List.set_cons_zero, List.set_cons_succ]
  refine tkYes 17 (v := ?_) rfl (by kernel_rfl) (fun _ _ _ h => h) rfl ?_ hS ?_
  rotate_left
  · intro W hW; go_simp; (try with_reducible rfl)
  simp only [Act.put, List.setIfInBounds_toArray, List.set_cons_zero, List.set_cons_succ]
  refine tkYes 18 (v := .agg (Rc.cells r)) rfl (by kernel_rfl) (fun _ _ _ h => h) rfl (fun W hW => take_rec (.tmp 1) rfl g r rfl hW.1.1) hS ?_
  simp only [Act.put, List.setIfInBounds_toArray, List.set_cons_zero, List.set_cons_succ]
  refine tkYes 20 (v := .agg (Rc.cells r)) rfl (by kernel_rfl) (fun _ _ _ h => h) rfl (fun W hW => take_rec (.tmp 1) rfl g r rfl hW.1.1) hS ?_
  simp only [Act.put, List.setIfInBounds_toArray, List.set_cons_zero, List.set_cons_succ]
  refine rnOne 19 rfl (by kernel_rfl) rfl (fun K hK => ?_)
  go_simp
  with_reducible refine (C5.out _ (TB.out.on hS.2)).mono ?_
  rintro en W ⟨rfl, hW⟩
  have hS2 : (RcAt W g r ∧ Sl W A4 bl.length k4 bl ∧ Sl W A5 bl.length k5 bl) ∧ Below w.heap.size w W := ⟨⟨hS.1.1.on hW, hS.1.2.1.on hW, hS.1.2.2.on hW⟩, hS.2.trans (hW.mono hS.2.size)⟩
  clear hS hW
  have hS := hS2
  clear hS2
  refine hK.out _ _ hS (fun _ => ?_)
  clear hK K
  try simp only [Act.put, List.setIfInBounds_toArray, List.set_cons_zero, List.set_cons_succ]
  refine rnOne 21 rfl (by kernel_rfl) rfl (fun K hK => ?_)
  go_simp
  with_reducible refine (C6.out _).mono ?_
  rintro en W ⟨rfl, hW⟩
  have hS2 : (RcAt W g r ∧ Sl W A4 bl.length k4 bl ∧ Sl W A5 bl.length k5 bl) ∧ Below w.heap.size w W := ⟨⟨hS.1.1.on hW, hS.1.2.1.on hW, hS.1.2.2.on hW⟩, hS.2.trans (hW.mono hS.2.size)⟩
  clear hS hW
  have hS := hS2
  clear hS2
  refine hK.out _ _ hS (fun _ => ?_)
  clear hK K
  try simp only [Act.put, List.setIfInBounds_toArray, List.set_cons_zero, List.set_cons_succ]
  refine tkYes 22 (v := ?_) rfl (by kernel_rfl) (fun _ _ _ h => h) rfl ?_ hS ?_
  rotate_left
  · intro W hW; go_simp; (try with_reducible rfl)
  simp only [Act.put, List.setIfInBounds_toArray, List.set_cons_zero, List.set_cons_succ]
  refine tkYes 23 (v := ?_) rfl (by kernel_rfl) (fun _ _ _ h => h) rfl ?_ hS ?_
  rotate_left
  · intro W hW; go_simp; (try with_reducible rfl)
  simp only [Act.put, List.setIfInBounds_toArray, List.set_cons_zero, List.set_cons_succ]
  refine tkYes 24 (v := ?_) rfl (by kernel_rfl) (fun _ _ _ h => h) rfl ?_ hS ?_
  rotate_left
  · intro W hW; go_simp; (try with_reducible rfl)
  simp only [Act.put, List.setIfInBounds_toArray, List.set_cons_zero, List.set_cons_succ]
  refine tkYes 25 (v := ?_) rfl (by kernel_rfl) (fun _ _ _ h => h) rfl ?_ hS ?_
  rotate_left
  · intro W hW; go_simp; (try with_reducible rfl)
  simp only [Act.put, List.setIfInBounds_toArray, List.set_cons_zero, List.set_cons_succ]
  refine tkYes 26 (v := ?_) rfl (by kernel_rfl) (fun _ _ _ h => h) rfl ?_ hS ?_
  rotate_left
  · intro W hW; obtain ⟨c0, c1, c2, c3, c4, c5, c6, c7, c8, c9, c10, c11, c12, c13, c14, c15, c16, c17, clt⟩ := hW.1.1.cs; go_simp; (try with_reducible rfl)
  simp only [Act.put, List.setIfInBounds_toArray, List.set_cons_zero, List.set_cons_succ]
  refine tkYes 28 (v := ?_) rfl (by kernel_rfl) (fun _ _ _ h => h) rfl ?_ hS ?_
  rotate_left
  · intro W hW; go_simp; (try with_reducible rfl)
  simp only [Act.put, List.setIfInBounds_toArray, List.set_cons_zero, List.set_cons_succ]
  refine tkYes 29 (v := ?_) rfl (by kernel_rfl) (fun _ _ _ h => h) rfl ?_ hS ?_
  rotate_left
  · intro W hW; obtain ⟨c0, c1, c2, c3, c4, c5, c6, c7, c8, c9, c10, c11, c12, c13, c14, c15, c16, c17, clt⟩ := hW.1.1.cs; go_simp; (try with_reducible rfl)
  simp only [Act.put, List.setIfInBounds_toArray, List.set_cons_zero, List.set_cons_succ]
  refine rnOne 27 rfl (by kernel_rfl) rfl (fun K hK => ?_)
  go_simp
  with_reducible refine (C7.out _).mono ?_
  rintro en W ⟨rfl, hW⟩
  have hS2 : (RcAt W g r ∧ Sl W A4 bl.length k4 bl ∧ Sl W A5 bl.length k5 bl) ∧ Below w.heap.size w W := ⟨⟨hS.1.1.on hW, hS.1.2.1.on hW, hS.1.2.2.on hW⟩, hS.2.trans (hW.mono hS.2.size)⟩
  clear hS hW
  have hS := hS2
  clear hS2
  refine hK.out _ _ hS (fun _ => ?_)
  clear hK K
  try simp only [Act.put, List.setIfInBounds_toArray, List.set_cons_zero, List.set_cons_succ]
  refine rnOne 30 rfl (by kernel_rfl) rfl (fun K hK => ?_)
  go_simp
  with_reducible refine (C8.out _).mono ?_
  rintro en W ⟨rfl, hW⟩
  have hS2 : (RcAt W g r ∧ Sl W A4 bl.length k4 bl ∧ Sl W A5 bl.length k5 bl) ∧ Below w.heap.size w W := ⟨⟨hS.1.1.on hW, hS.1.2.1.on hW, hS.1.2.2.on hW⟩, hS.2.trans (hW.mono hS.2.size)⟩
  clear hS hW
  have hS := hS2
  clear hS2
  refine hK.out _ _ hS (fun _ => ?_)
  clear hK K
  try simp only [Act.put, List.setIfInBounds_toArray, List.set_cons_zero, List.set_cons_succ]
  refine tkYes 31 (v := ?_) rfl (by kernel_rfl) (fun _ _ _ h => h) rfl ?_ hS ?_
  rotate_left
  · intro W hW; go_simp; (try with_reducible rfl)
  simp only [Act.put, List.setIfInBounds_toArray, List.set_cons_zero, List.set_cons_succ]
  refine tkYes 32 (v := ?_) rfl (by kernel_rfl) (fun _ _ _ h => h) rfl ?_ hS ?_
  rotate_left
  · intro W hW; go_simp; (try with_reducible rfl)
  simp only [Act.put, List.setIfInBounds_toArray, List.set_cons_zero, List.set_cons_succ]
  refine tkYes 33 (v := ?_) rfl (by kernel_rfl) (fun _ _ _ h => h) rfl ?_ hS ?_
  rotate_left
  · intro W hW; go_simp; (try with_reducible rfl)
  simp only [Act.put, List.setIfInBounds_toArray, List.set_cons_zero, List.set_cons_succ]
  refine wpAnyH_done (by kernel_rfl) ?_ _
  go_wp2_with fail
  go_ret
  exact ⟨rfl, hS.2⟩
end Go.Proofs.YtifokcpkamdkeaaDoor
