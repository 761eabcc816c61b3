/-
  The developers' package spec: which specs may be.
-/
import Derived.Test.YtifokcpkamdkeaaDoorSpOk
import Derived.Test.YtifokcpkamdkeaaDoorSpN1
import Derived.Deep.WholeRow
import Derived.Deep.CutBlock
import Derived.Deep.DeepCutAuto
namespace Go.Proofs.YtifokcpkamdkeaaDoor
open Go.RowKit
set_option linter.unusedSimpArgs false
set_option linter.unusedVariables false

theorem spc_size (s : Spc.Sp) : (spc s).size = 36 := rfl
theorem spc_cells (s : Spc.Sp) : (spc s).all (·.oneCell') = true := by unfold spc; simp [Value.oneCell']
/-- What stays while the numbers are gone through. -/
structure CkS (w : World) (g gm : Nat) (s : Spc.Sp) (W : World) : Prop where
  below : Below w.heap.size w W
  box : W.heap[g]? = some (.cells (Spc.cells s) 24 (0, 0))
  may : W.heap[gm]? = some (.cells (spc s) 89 (0, 0))
theorem CkS.on {w W W' : World} {g gm : Nat} {s : Spc.Sp} (h : CkS w g gm s W) (hb : Below W.heap.size W W') : CkS w g gm s W' :=
  ⟨h.below.trans (hb.mono h.below.size), (hb.block g (Array.getElem?_eq_some_iff.1 h.box).1).trans h.box, (hb.block gm (Array.getElem?_eq_some_iff.1 h.may).1).trans h.may⟩
set_option maxRecDepth 100000 in
set_option maxHeartbeats 3200000 in
theorem check_any (s : Spc.Sp) (hin : Spc.In s) (w : World) : Calls Tryd.prog 59 #[Spc.val s] w (CPost s w) := by
  have HV : Hid (Spc.val s = .agg #[.int .i64 s.v, .int .i64 s.d, .int .i64 s.u, .int .i64 s.n, .int .i64 s.g, .int .i64 s.a, .int .i64 s.b, .int .i64 s.c, .int .i64 s.e, .int .i64 s.w, .int .i64 s.x, .int .i64 s.k]) := rfl
  have CP : Hid (∀ W, Calls Tryd.prog 63 #[Spc.val s] W (APos W (.agg (spc s)))) := fun W => spans_any s W
  have CN : Hid (∀ g W, Calls Tryd.prog 41 #[.pointer (some ⟨g, 0, none⟩)] W fun e w' => e = .returned (.agg (ptrs g)) ∧ Below W.heap.size W w') := numbers_any
  have CH : Hid (∀ lo hi no n W, Calls Tryd.prog 64 #[.agg #[.int .i64 lo, .int .i64 hi, .bool no], .int .i64 n] W (APos W (.bool (hasB lo hi no n)))) := has_any
  have SA : Hid (∀ j, j < 12 → (∀ m, m < j → Spc.ok s m = true) → ∃ lo hi no, (spc s)[3 * j]? = some (.int .i64 lo) ∧ (spc s)[3 * j + 1]? = some (.int .i64 hi) ∧ (spc s)[3 * j + 2]? = some (.bool no) ∧ hasB lo hi no ((Spc.flds s).getD j 0) = Spc.ok s j) := spc_at s hin
  rw [HV.out] at CP ⊢
  have K1 := Lib.hid (heap_alloc_new w (.cells (Spc.cells s) 24))
  have B1 := Lib.hid ((Below.refl w.heap.size w).alloc (Nat.le_refl _) (.cells (Spc.cells s) 24))
  obtain ⟨f0, f1, f2, f3, f4, f5, f6, f7, f8, f9, f10, f11⟩ := spAt_of K1.out
  obtain ⟨g, hg⟩ : ∃ g, g = w.heap.size := ⟨_, rfl⟩
  rw [← hg] at K1
  have HG := Lib.hid hg
  clear hg hin
  have EQ : Hid (#[.int .i64 s.v, .int .i64 s.d, .int .i64 s.u, .int .i64 s.n, .int .i64 s.g, .int .i64 s.a, .int .i64 s.b, .int .i64 s.c, .int .i64 s.e, .int .i64 s.w, .int .i64 s.x, .int .i64 s.k] = Spc.cells s) := rfl
  rw [← EQ.out] at f0 f1 f2 f3 f4 f5 f6 f7 f8 f9 f10 f11
  go_enter Tryd.func59, Tryd.ntmps59
  go_wp2_with fail
  clear f0 f1 f2 f3 f4 f5 f6 f7 f8 f9 f10 f11
  rw [← HG.out, EQ.out]
  generalize w.alloc (.cells (Spc.cells s) 24) = w1 at *
  rw [← EQ.out]
  refine (CP.out w1).mono ?_
  rintro e w2 ⟨rfl, hb2⟩
  have hst := run_storeAt_new (P := Tryd.prog) w2 89 ((.int .i64 0) :: (.int .i64 0) :: (.bool false) :: (.int .i64 0) :: (.int .i64 0) :: (.bool false) :: (.int .i64 0) :: (.int .i64 0) :: (.bool false) :: (.int .i64 0) :: (.int .i64 0) :: (.bool false) :: (.int .i64 0) :: (.int .i64 0) :: (.bool false) :: (.int .i64 0) :: (.int .i64 0) :: (.bool false) :: (.int .i64 0) :: (.int .i64 0) :: (.bool false) :: (.int .i64 0) :: (.int .i64 0) :: (.bool false) :: (.int .i64 0) :: (.int .i64 0) :: (.bool false) :: (.int .i64 0) :: (.int .i64 0) :: (.bool false) :: (.int .i64 0) :: (.int .i64 0) :: (.bool false) :: (.int .i64 0) :: (.int .i64 0) :: (.bool false) :: []).toArray (spc s) (by kernel_rfl) rfl (spc_cells s)
  have hst2 := run_storeCells_new (P := Tryd.prog) w2 89 ((.int .i64 0) :: (.int .i64 0) :: (.bool false) :: (.int .i64 0) :: (.int .i64 0) :: (.bool false) :: (.int .i64 0) :: (.int .i64 0) :: (.bool false) :: (.int .i64 0) :: (.int .i64 0) :: (.bool false) :: (.int .i64 0) :: (.int .i64 0) :: (.bool false) :: (.int .i64 0) :: (.int .i64 0) :: (.bool false) :: (.int .i64 0) :: (.int .i64 0) :: (.bool false) :: (.int .i64 0) :: (.int .i64 0) :: (.bool false) :: (.int .i64 0) :: (.int .i64 0) :: (.bool false) :: (.int .i64 0) :: (.int .i64 0) :: (.bool false) :: (.int .i64 0) :: (.int .i64 0) :: (.bool false) :: (.int .i64 0) :: (.int .i64 0) :: (.bool false) :: []).toArray (spc s) (by kernel_rfl) rfl (spc_cells s)
  have hsz := spc_size s
  go_wp2_with fail
  clear hst hst2 hsz
  obtain ⟨gm, hgm⟩ : ∃ gm, gm = w2.heap.size := ⟨_, rfl⟩
  have P3 : Hid (CkS w g gm s (w2.alloc (.cells (spc s) 89))) := by
    have hb3 := (Below.refl w2.heap.size w2).alloc (Nat.le_refl _) (.cells (spc s) 89)
    have hk := heap_alloc_new w2 (.cells (spc s) 89)
    rw [← hgm] at hk
    have L1 := (Array.getElem?_eq_some_iff.1 K1.out).1
    have B12 := B1.out.trans (hb2.mono B1.out.size)
    exact ⟨B12.trans (hb3.mono B12.size), (hb3.block g (Nat.lt_of_lt_of_le L1 hb2.size)).trans ((hb2.block g L1).trans K1.out), hk⟩
  rw [← hgm]
  clear hgm hb2 K1 B1 CP
  generalize w2.alloc (.cells (spc s) 89) = w3 at *
  refine (CN.out g w3).mono ?_
  rintro e w4 ⟨rfl, hb4⟩
  have P4 := Lib.hid (P3.out.on hb4)
  clear hb4 P3 CN
  go_wp2_with fail
  go_loopw [10] (fun i wr => ∃ (j : Nat), j ≤ 12 ∧ i = .int .i64 (j : Nat) ∧ CkS w g gm s wr ∧ ∀ m, m < j → Spc.ok s m = true) (fun i _ => 12 - (intOf i).toNat)
  case atStart => exact ⟨0, by omega, rfl, P4.out, fun m hm => absurd hm (by omega)⟩
  case round =>
    obtain ⟨j, hj, rfl, hp, hok⟩ := hrel
    have P := Lib.hid hp
    have OKS := Lib.hid hok
    clear hp hok P4
    by_cases hlt : j < 12
    · have hpj := fun W => ptrs_run g j hlt W
      obtain ⟨lo, hi, no, e1, e2, e3, e4⟩ := SA.out j hlt OKS.out
      obtain ⟨x, hx⟩ : ∃ x, x = (Spc.flds s).getD j 0 := ⟨_, rfl⟩
      rw [← hx] at e4
      have CB := Lib.hid (fun W => CH.out lo hi no x W)
      rw [e4] at CB
      have X1 : Hid (∀ W, CkS w g gm s W → W.cell? ⟨g, j, none⟩ = some (.int .i64 x) ∧ W.cell? ⟨gm, j * 3, none⟩ = some (.int .i64 lo) ∧ W.cell? ⟨gm, j * 3 + 1, none⟩ = some (.int .i64 hi) ∧ W.cell? ⟨gm, j * 3 + 2, none⟩ = some (.bool no)) := fun W hW =>
        ⟨by rw [hx]; exact sp_at (spAt_of hW.box) hlt, by rw [cell_of_row W gm _ _ _ _ hW.may, Nat.mul_comm]; exact e1, by rw [cell_of_row W gm _ _ _ _ hW.may, Nat.mul_comm]; exact e2, by rw [cell_of_row W gm _ _ _ _ hW.may, Nat.mul_comm]; exact e3⟩
      have i1 : (0 : Int) ≤ (j : Int) := by omega
      have i2 : (j : Int) < 12 := by omega
      clear e1 e2 e3 e4 hx SA CH
      cases hB : Spc.ok s j with
      | true =>
        rw [hB] at CB
        have OK2 : Hid (∀ m, m < j + 1 → Spc.ok s m = true) := fun m hm => by
          rcases Nat.lt_or_ge m j with h | h
          · exact OKS.out m h
          · rw [show m = j by omega]; exact hB
        clear hB
        go_upto_region 5 with fail
        refine wp_region_held_drew (S := fun W => CkS w g gm s W) (by kernel_rfl) (P.out.on (Below.refl _ _).drew) (fun hS => ?_)
        refine tkYes 0 (v := ?_) rfl (by kernel_rfl) (fun _ _ _ h => h) rfl ?_ hS ?_
        rotate_left
        · intro W hW; go_simp; (try with_reducible rfl)
        simp only [Act.put, List.setIfInBounds_toArray, List.set_cons_zero, List.set_cons_succ]
        refine tkYes 1 (v := ?_) rfl (by kernel_rfl) (fun _ _ _ h => h) rfl ?_ hS ?_
        rotate_left
        · intro W hW; go_simp; (try with_reducible rfl)
        simp only [Act.put, List.setIfInBounds_toArray, List.set_cons_zero, List.set_cons_succ]
        refine tkYes 2 (v := ?_) rfl (by kernel_rfl) (fun _ _ _ h => h) rfl ?_ hS ?_
        rotate_left
        · intro W hW; obtain ⟨x1, x2, x3, x4⟩ := X1.out W hW; go_simp; (try with_reducible rfl)
        simp only [Act.put, List.setIfInBounds_toArray, List.set_cons_zero, List.set_cons_succ]
        refine tkYes 3 (v := ?_) rfl (by kernel_rfl) (fun _ _ _ h => h) rfl ?_ hS ?_
        rotate_left
        · intro W hW; go_simp; (try with_reducible rfl)
        simp only [Act.put, List.setIfInBounds_toArray, List.set_cons_zero, List.set_cons_succ]
        refine tkYes 4 (v := ?_) rfl (by kernel_rfl) (fun _ _ _ h => h) rfl ?_ hS ?_
        rotate_left
        · intro W hW; go_simp; (try with_reducible rfl)
        simp only [Act.put, List.setIfInBounds_toArray, List.set_cons_zero, List.set_cons_succ]
        refine tkYes 5 (v := ?_) rfl (by kernel_rfl) (fun _ _ _ h => h) rfl ?_ hS ?_
        rotate_left
        · intro W hW; obtain ⟨x1, x2, x3, x4⟩ := X1.out W hW; go_simp; (try with_reducible rfl)
        simp only [Act.put, List.setIfInBounds_toArray, List.set_cons_zero, List.set_cons_succ]
        refine rnOne 6 rfl (by kernel_rfl) rfl (fun K hK => ?_)
        go_simp
        with_reducible refine (CB.out _).mono ?_
        rintro e W ⟨rfl, hW⟩
        have hS2 := hS.on hW
        clear hS hW
        have hS := hS2
        clear hS2
        refine hK.out _ _ hS (fun _ => ?_)
        clear hK K
        try simp only [Act.put, List.setIfInBounds_toArray, List.set_cons_zero, List.set_cons_succ]
        refine tkYes 7 (v := ?_) rfl (by kernel_rfl) (fun _ _ _ h => h) rfl ?_ hS ?_
        rotate_left
        · intro W hW; go_simp; (try with_reducible rfl)
        simp only [Act.put, List.setIfInBounds_toArray, List.set_cons_zero, List.set_cons_succ]
        refine wpAnyH_done (by kernel_rfl) ?_ _
        have PX := Lib.hid hS
        clear hS
        go_wp2_with fail
        exact ⟨⟨j + 1, by omega, by go_num, PX.out, OK2.out⟩, by simp [intOf]; omega⟩
      | false =>
        rw [hB] at CB
        have HC := Lib.hid (Spc.chk_first hlt OKS.out hB)
        clear hB
        go_upto_region 5 with fail
        refine wp_region_held_drew (S := fun W => CkS w g gm s W) (by kernel_rfl) (P.out.on (Below.refl _ _).drew) (fun hS => ?_)
        refine tkYes 0 (v := ?_) rfl (by kernel_rfl) (fun _ _ _ h => h) rfl ?_ hS ?_
        rotate_left
        · intro W hW; go_simp; (try with_reducible rfl)
        simp only [Act.put, List.setIfInBounds_toArray, List.set_cons_zero, List.set_cons_succ]
        refine tkYes 1 (v := ?_) rfl (by kernel_rfl) (fun _ _ _ h => h) rfl ?_ hS ?_
        rotate_left
        · intro W hW; go_simp; (try with_reducible rfl)
        simp only [Act.put, List.setIfInBounds_toArray, List.set_cons_zero, List.set_cons_succ]
        refine tkYes 2 (v := ?_) rfl (by kernel_rfl) (fun _ _ _ h => h) rfl ?_ hS ?_
        rotate_left
        · intro W hW; obtain ⟨x1, x2, x3, x4⟩ := X1.out W hW; go_simp; (try with_reducible rfl)
        simp only [Act.put, List.setIfInBounds_toArray, List.set_cons_zero, List.set_cons_succ]
        refine tkYes 3 (v := ?_) rfl (by kernel_rfl) (fun _ _ _ h => h) rfl ?_ hS ?_
        rotate_left
        · intro W hW; go_simp; (try with_reducible rfl)
        simp only [Act.put, List.setIfInBounds_toArray, List.set_cons_zero, List.set_cons_succ]
        refine tkYes 4 (v := ?_) rfl (by kernel_rfl) (fun _ _ _ h => h) rfl ?_ hS ?_
        rotate_left
        · intro W hW; go_simp; (try with_reducible rfl)
        simp only [Act.put, List.setIfInBounds_toArray, List.set_cons_zero, List.set_cons_succ]
        refine tkYes 5 (v := ?_) rfl (by kernel_rfl) (fun _ _ _ h => h) rfl ?_ hS ?_
        rotate_left
        · intro W hW; obtain ⟨x1, x2, x3, x4⟩ := X1.out W hW; go_simp; (try with_reducible rfl)
        simp only [Act.put, List.setIfInBounds_toArray, List.set_cons_zero, List.set_cons_succ]
        refine rnOne 6 rfl (by kernel_rfl) rfl (fun K hK => ?_)
        go_simp
        with_reducible refine (CB.out _).mono ?_
        rintro e W ⟨rfl, hW⟩
        have hS2 := hS.on hW
        clear hS hW
        have hS := hS2
        clear hS2
        refine hK.out _ _ hS (fun _ => ?_)
        clear hK K
        try simp only [Act.put, List.setIfInBounds_toArray, List.set_cons_zero, List.set_cons_succ]
        refine tkYes 7 (v := ?_) rfl (by kernel_rfl) (fun _ _ _ h => h) rfl ?_ hS ?_
        rotate_left
        · intro W hW; go_simp; (try with_reducible rfl)
        simp only [Act.put, List.setIfInBounds_toArray, List.set_cons_zero, List.set_cons_succ]
        refine wpAnyH_done (by kernel_rfl) ?_ _
        have PX := Lib.hid hS
        clear hS
        go_wp2_with fail
        go_ret2
        exact CPost.mk HC.out (by omega) rfl PX.out.below
    · obtain rfl : j = 12 := by omega
      have HC := Lib.hid (Spc.chk_none OKS.out)
      go_wp2_with fail
      go_ret2
      exact CPost.mk HC.out rfl rfl P.out.below
end Go.Proofs.YtifokcpkamdkeaaDoor
