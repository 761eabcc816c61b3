/-
  Package lease: put (the map is made by the first). No condition.
-/
import Derived.Test.YtemnioijgkahcaaLd4
import Derived.Laws.Cover3
namespace Go.Proofs.Ytemnioijgkahcaa
open Go.RowKit Go.Deep Go.Maps

theorem lsmap_nil (t k e : TypeId) (m : Option Nat) (w : World) (h : Try.prog.underlying t = some (.map k e)) : (binOp .eql t (.map m) (.map none)).run Try.prog w = .ok (.bool m.isNone) w := by
  simp only [binOp]
  simp [run_equal_map_nil w t k e m h]
/-- What put leaves. -/
def LsPut (W : World) (q : Nat) (mo : Option Nat) (s' : Ls.St) (e : Ending) (w' : World) : Prop :=
  ∃ mo', e = .returned (.tuple #[]) ∧ LsIs w' q mo' s' ∧ Kept (fun i => i = q ∨ mo = some i) W w' ∧ ∀ m, mo' = some m → mo = some m ∨ W.heap.size ≤ m
set_option maxHeartbeats 1600000 in
theorem lsput_any (W : World) (q : Nat) (mo : Option Nat) (s : Ls.St) (h : LsIs W q mo s) (k : ByteArray) (hk : k.size ≤ maxLen) (a b c : Int) (d : Bool) (hg2 : Ls.Good ⟨s.margin, Ls.put s.l ⟨k, a, b, c, d⟩⟩) (hf2 : Ls.Few ⟨s.margin, Ls.put s.l ⟨k, a, b, c, d⟩⟩ 1000001) :
    Calls Try.prog 23 #[.pointer (some ⟨q, 0, none⟩), .string k, leV a b c] W (LsPut W q mo ⟨s.margin, Ls.put s.l ⟨k, a, b, c, d⟩⟩) := by
  have GD := Lib.hid hg2
  have FW := Lib.hid hf2
  have LN : Hid (s.l.length < maxLen) := by have := h.few.2; show _ < _; unfold maxLen; omega
  have heq := fun m w => lsmap_nil _ _ _ m w Try.underlying49
  obtain ⟨W1, hW1⟩ : ∃ W1, W1 = W.alloc (.cells #[.int .i64 a, .int .i64 b, .int .i64 c] 36) := ⟨_, rfl⟩
  have hb1 := (Below.refl W.heap.size W).alloc (Nat.le_refl _) (.cells #[.int .i64 a, .int .i64 b, .int .i64 c] 36)
  have hr1 := heap_alloc_new W (.cells #[.int .i64 a, .int .i64 b, .int .i64 c] 36)
  rw [← hW1] at hb1 hr1
  obtain ⟨g, hg⟩ : ∃ g, g = W.heap.size := ⟨_, rfl⟩
  rw [← hg] at hr1
  have R1 := Lib.hid hr1
  have B1 := Lib.hid hb1
  have H1 := Lib.hid (h.on hb1)
  have HG := Lib.hid hg
  have HW := Lib.hid hW1
  have HL := Lib.hid h.cells.2.2.2
  have HKS := Lib.hid hk
  have HML : Hid (∀ m, mo = some m → m < W.heap.size) := fun m e => by subst e; exact MapW.Opt.lt h.map
  clear h hk hg2 hf2 hW1 hb1 hr1 hg
  cases mo with
  | some m =>
    have D1 := Lib.hid (H1.out.on (Below.refl W1.heap.size W1).drew)
    obtain ⟨wd, hrun, hmd, htd⟩ := MapW.At.put (M := LM) D1.out.map LN.out k (a, b, c) HKS.out
    have MD := Lib.hid hmd
    have TD := Lib.hid htd
    have RW : Hid (wd.heap[q]? = some (.cells #[.int .i64 s.margin, .map (some m)] 51 (0, 0))) := (htd.grown.block q (by have := HL.out; have := B1.out.size; show q < W1.heap.size; omega) (fun e => H1.out.ne (by injection e))).trans D1.out.row
    have K2 : Hid (Kept (fun i => i = q ∨ some m = some i) W wd) := ((Kept.of_below (F := fun i => i = q ∨ some m = some i) B1.out).trans (Kept.of_below (F := fun _ => False) (Below.refl W1.heap.size W1).drew) fun _ _ hf => hf.elim).trans (G := fun i => i = m) (Kept.of_grown htd.grown (fun k hk => by injection hk with hk; exact hk.symm)) fun i _ hi => .inr (by rw [hi])
    have hrun2 : (Instr.mapUpdate 49 (.map (some m)) (.string k) (.agg #[.int .i64 a, .int .i64 b, .int .i64 c])).run Try.prog W1.drew = .ok () wd := hrun
    clear hrun hmd htd
    obtain ⟨c0, c1, f1, hq⟩ := H1.out.cells
    have d0 := LsCells.c0 R1.out
    have d1 := LsCells.c1 R1.out
    have d2 := LsCells.c2 R1.out
    unfold leV
    go_enter Try.func23, Try.ntmps23
    go_upto_region 1 with fail
    rw [← HW.out, ← HG.out]
    go_upto_region 3 with fail
    go_region
    go_wp2_with fail
    go_end0
    refine ⟨some m, rfl, ⟨RW.out, ?_, GD.out, FW.out⟩, K2.out, fun x hx => .inl hx⟩
    have := MD.out
    rw [← show Ls.zOf (Ls.put s.l ⟨k, a, b, c, d⟩) = _ from Ls.zOf_put s.l ⟨k, a, b, c, d⟩, Ls.zOf_some, ← Ls.put_length H1.out.good.rise ⟨k, a, b, c, d⟩] at this
    exact this
  | none =>
    have hmm := @run_makeMap Try.prog
    have BM := Lib.hid ((Below.refl W1.heap.size W1).alloc (Nat.le_refl _) (.map #[] 0))
    have S0 := Lib.hid (MapW.At.made (M := LM) W1)
    have EL : Hid ((∀ k, Ls.zOf s.l k = none) ∧ s.l.length = 0) := H1.out.map
    have RW0 := Lib.hid (H1.out.on BM.out).row
    have GD0 := Lib.hid H1.out.good
    have f1 : W1.frozen? ⟨q, 1, none⟩ = false := H1.out.cells.2.2.1
    obtain ⟨c0, c1, _, hq⟩ := H1.out.cells
    have EW : Hid ((W1.alloc (.map #[] 0)).setCell ⟨q, 1, none⟩ (.map (some W1.heap.size)) = (W1.setCell ⟨q, 1, none⟩ (.map (some W1.heap.size))).alloc (.map #[] 0)) := World.setCell_alloc_past _ _ _ _ hq
    have RQ : Hid (((W1.alloc (.map #[] 0)).setCell ⟨q, 1, none⟩ (.map (some W1.heap.size))).heap[q]? = some (.cells #[.int .i64 s.margin, .map (some W1.heap.size)] 51 (0, 0))) := heap_setCell_same _ _ _ _ _ _ RW0.out
    have MP : Hid (LM.At ((W1.alloc (.map #[] 0)).setCell ⟨q, 1, none⟩ (.map (some W1.heap.size))) W1.heap.size (Ls.zOf s.l) s.l.length) := by
      have h0 := S0.out.keep (heap_setCell_other (W1.alloc (.map #[] 0)) ⟨q, 1, none⟩ W1.heap.size (.map (some W1.heap.size)) (by simp; omega))
      rw [show (fun _ : ByteArray => (none : Option (Int × Int × Int))) = Ls.zOf s.l from (funext EL.out.1).symm] at h0
      show LM.At _ _ (Ls.zOf s.l) s.l.length
      rw [EL.out.2]
      exact h0
    have KP : Hid (Kept (fun i => i = q ∨ none = some i) W ((W1.alloc (.map #[] 0)).setCell ⟨q, 1, none⟩ (.map (some W1.heap.size)))) := (Kept.of_below (F := fun i => i = q ∨ none = some i) (B1.out.trans (BM.out.mono B1.out.size))).trans (G := fun i => i = q) (Kept.of_grown (row := some q) (grown_set _ _ _ _) (fun k hk => by injection hk with hk; exact hk.symm)) fun i _ hi => .inl hi
    have RG : Hid (((W1.alloc (.map #[] 0)).setCell ⟨q, 1, none⟩ (.map (some W1.heap.size))).heap[g]? = some (.cells #[.int .i64 a, .int .i64 b, .int .i64 c] 36 (0, 0))) := (heap_setCell_other (W1.alloc (.map #[] 0)) ⟨q, 1, none⟩ g (.map (some W1.heap.size)) (by have := HL.out; have := HG.out; simp; omega)).trans (blk_on R1.out BM.out)
    rw [EW.out] at RQ MP KP RG
    unfold leV
    go_enter Try.func23, Try.ntmps23
    go_upto_region 1 with fail
    rw [← HW.out, ← HG.out]
    go_upto_region 3 with fail
    obtain ⟨m, hm⟩ : ∃ m, m = W1.heap.size := ⟨_, rfl⟩
    have NW : Hid (W.heap.size ≤ m) := by have := B1.out.size; show _ ≤ _; omega
    rw [← hm] at RQ MP KP RG ⊢
    clear hm hmm c0 c1 f1 hq BM S0 RW0 EW H1 R1 HW
    generalize (W1.setCell ⟨q, 1, none⟩ (.map (some m))).alloc (.map #[] 0) = W5 at *
    have hqm : q ≠ m := fun e => by
      obtain ⟨es, clock, hb⟩ := MapW.At.block (M := LM) MP.out
      have := RQ.out
      rw [e, hb] at this
      injection this with this
      cases this
    have HQM := Lib.hid hqm
    have c1 : W5.cell? ⟨q, 1, none⟩ = some (.map (some m)) := by rw [cell_of_row W5 q 1 _ _ _ RQ.out]; rfl
    have d0 := LsCells.c0 RG.out
    have d1 := LsCells.c1 RG.out
    have d2 := LsCells.c2 RG.out
    have D1 := Lib.hid (MapW.At.on (M := LM) MP.out (Below.refl W5.heap.size W5).drew)
    obtain ⟨wd, hrun, hmd, htd⟩ := MapW.At.put (M := LM) D1.out LN.out k (a, b, c) HKS.out
    have MD := Lib.hid hmd
    have RW : Hid (wd.heap[q]? = some (.cells #[.int .i64 s.margin, .map (some m)] 51 (0, 0))) := (htd.grown.block q (Array.getElem?_eq_some_iff.1 RQ.out).1 (fun e => HQM.out (by injection e))).trans RQ.out
    have K2 : Hid (Kept (fun i => i = q ∨ none = some i) W wd) := (KP.out.trans (Kept.of_below (F := fun _ => False) (Below.refl W5.heap.size W5).drew) fun _ _ hf => hf.elim).trans (G := fun i => i = m) (Kept.of_grown htd.grown (fun k hk => by injection hk with hk; exact hk.symm)) fun i hi e => by have := NW.out; omega
    have hrun2 : (Instr.mapUpdate 49 (.map (some m)) (.string k) (.agg #[.int .i64 a, .int .i64 b, .int .i64 c])).run Try.prog W5.drew = .ok () wd := hrun
    clear hrun hmd htd hqm
    go_region
    go_wp2_with fail
    go_end0
    refine ⟨some m, rfl, ⟨RW.out, ?_, GD.out, FW.out⟩, K2.out, fun x hx => .inr (by injection hx with hx; have := NW.out; omega)⟩
    have := MD.out
    rw [← show Ls.zOf (Ls.put s.l ⟨k, a, b, c, d⟩) = _ from Ls.zOf_put s.l ⟨k, a, b, c, d⟩, Ls.zOf_some, ← Ls.put_length GD0.out.rise ⟨k, a, b, c, d⟩] at this
    exact this
end Go.Proofs.Ytemnioijgkahcaa
