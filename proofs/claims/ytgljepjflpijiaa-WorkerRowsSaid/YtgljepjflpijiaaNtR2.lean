/-
  The document's package of layer 14: Good. Written by wip/tools/gen/ntgood.py. No condition.
-/
import Derived.Test.YtgljepjflpijiaaNtR1
namespace Go.Proofs.Ytgljepjflpijiaa
open Go.RowKit
set_option linter.unusedSimpArgs false
set_option linter.unusedVariables false
set_option maxRecDepth 100000
theorem three_new {w W : World} {a b c : Obj} (h : W = ((w.alloc a).alloc b).alloc c) : W.heap[w.heap.size]? = some a ∧ W.heap[w.heap.size + 1]? = some b ∧ W.heap[w.heap.size + 1 + 1]? = some c ∧ Below w.heap.size w W ∧ W.heap.size = w.heap.size + 1 + 1 + 1 := by
  obtain ⟨h1, h2, h3, h4⟩ := two_new (rfl : (w.alloc a).alloc b = (w.alloc a).alloc b)
  have h5 := heap_alloc_new ((w.alloc a).alloc b) c
  have hb : Below ((w.alloc a).alloc b).heap.size ((w.alloc a).alloc b) W := by rw [h]; exact (Below.refl _ _).alloc (Nat.le_refl _) _
  rw [h4] at h5
  exact ⟨(hb.block _ (by omega)).trans h1, (hb.block _ (by omega)).trans h2, by rw [h]; exact h5, h3.trans (hb.mono (by omega)), by rw [h]; simp⟩
theorem mod8 (x : Int) : wrap64 ((IntKind.u64.wrap x).tmod 8) = x % 8 := by
  rw [IntKind.wrap_u64, Int.tmod_eq_emod_of_nonneg (Int.emod_nonneg _ (by omega))]
  unfold wrap64
  omega
structure Six (X : World) (g : Nat) (a b c d e f : Int) : Prop where
  y0 : X.cell? ⟨g, 0, none⟩ = some (.int .i64 a)
  y1 : X.cell? ⟨g, 1, none⟩ = some (.int .i64 b)
  y2 : X.cell? ⟨g, 2, none⟩ = some (.int .i64 c)
  y3 : X.cell? ⟨g, 3, none⟩ = some (.int .i64 d)
  y4 : X.cell? ⟨g, 4, none⟩ = some (.int .i64 e)
  y5 : X.cell? ⟨g, 5, none⟩ = some (.int .i64 f)
  yl : g < X.heap.size
theorem Six.of {X : World} {g : Nat} {a b c d e f : Int} {ty : TypeId} (h : X.heap[g]? = some (.cells #[.int .i64 a, .int .i64 b, .int .i64 c, .int .i64 d, .int .i64 e, .int .i64 f] ty (0, 0))) : Six X g a b c d e f :=
  ⟨by rw [cell_of_row X g 0 _ _ _ h]; rfl, by rw [cell_of_row X g 1 _ _ _ h]; rfl, by rw [cell_of_row X g 2 _ _ _ h]; rfl, by rw [cell_of_row X g 3 _ _ _ h]; rfl, by rw [cell_of_row X g 4 _ _ _ h]; rfl, by rw [cell_of_row X g 5 _ _ _ h]; rfl, (Array.getElem?_eq_some_iff.1 h).1⟩
theorem Six.row {X : World} {g : Nat} {a b c d e f : Int} (h : Six X g a b c d e f) (g1 : Nat) (hne : g1 ≠ g) (cs : Array Value) : Six (X.setRow g1 cs) g a b c d e f := by
  have hb : (X.setRow g1 cs).heap[g]? = X.heap[g]? := (grown_row X g1 cs).block g h.yl (fun e => hne (Option.some.inj e).symm)
  have hc : ∀ i, (X.setRow g1 cs).cell? ⟨g, i, none⟩ = X.cell? ⟨g, i, none⟩ := fun i => World.cell?_of_block hb
  exact ⟨(hc 0).trans h.y0, (hc 1).trans h.y1, (hc 2).trans h.y2, (hc 3).trans h.y3, (hc 4).trans h.y4, (hc 5).trans h.y5, by have := (grown_row X g1 cs).size; have := h.yl; omega⟩
set_option maxHeartbeats 6400000 in
theorem rtgood_any (m : Nt.M) (w : World) : Calls Try.prog 14 #[Nt.val m] w (NPos w (Nt.val (Nt.good m))) := by
  have hm8 := mod8
  have E : Hid (Nt.good m = ⟨1 + m.k % 2, m.e % 8, m.s % 8, m.u % 8, m.v % 4, m.t % 8 % 5⟩) := Nt.eq_iff.2 ⟨by show 1 + m.k % 8 % 2 = 1 + m.k % 2; omega, rfl, rfl, rfl, by show m.v % 8 % 4 = m.v % 4; omega, rfl⟩
  rw [E.out]
  clear E
  obtain ⟨k, e, s, u, v, t⟩ := m
  simp only at *
  have b0 := Int.emod_nonneg k (b := 8) (by omega)
  have b1 := Int.emod_lt_of_pos k (b := 8) (by omega)
  have b2 := Int.emod_nonneg v (b := 8) (by omega)
  have b3 := Int.emod_lt_of_pos v (b := 8) (by omega)
  have b4 := Int.emod_nonneg t (b := 8) (by omega)
  have b5 := Int.emod_lt_of_pos t (b := 8) (by omega)
  have f0 : (k % 8).tmod 2 = k % 2 := by rw [Int.tmod_eq_emod_of_nonneg b0]; omega
  have f1 : IntKind.i64.wrap (1 + k % 2) = 1 + k % 2 := IntWalk.i64_in _ (by omega)
  have f4 : (v % 8).tmod 4 = v % 4 := by rw [Int.tmod_eq_emod_of_nonneg b2]; omega
  have f5 : (t % 8).tmod 5 = t % 8 % 5 := Int.tmod_eq_emod_of_nonneg b4
  obtain ⟨W, hW⟩ : ∃ W, W = ((w.alloc (.cells (Nt.cs ⟨k, e, s, u, v, t⟩) 38)).alloc (.cells (Nt.cs Nt.zero) 38)).alloc (.cells #[.int .i64 (k % 8), .int .i64 (e % 8), .int .i64 (s % 8), .int .i64 (u % 8), .int .i64 (v % 8), .int .i64 (t % 8)] 3) := ⟨_, rfl⟩
  obtain ⟨r1, r2, r3, hb, hz⟩ := three_new hW
  have Y2 := Lib.hid (Six.of r3)
  have X2 : Hid (NtAt W (w.heap.size + 1) Nt.zero) := ⟨r2⟩
  have B2 := Lib.hid hb
  go_enter Try.func14, Try.ntmps14
  go_wp2_with fail
  go_rounds 7
  go_upto_region 6 with fail
  have hz0 : ((w.alloc (.cells (Nt.cs ⟨k, e, s, u, v, t⟩) 38)).alloc (.cells #[.int .i64 0, .int .i64 0, .int .i64 0, .int .i64 0, .int .i64 0, .int .i64 0] 38)).alloc (.cells #[.int .i64 (k % 8), .int .i64 (e % 8), .int .i64 (s % 8), .int .i64 (u % 8), .int .i64 (v % 8), .int .i64 (t % 8)] 3) = W := hW.symm
  rw [hz0]
  clear hz0 hW r1 r2 r3 hb hz hm8
  obtain ⟨g1, hg1⟩ : ∃ g, g = w.heap.size + 1 := ⟨_, rfl⟩
  obtain ⟨g2, hg2⟩ : ∃ g, g = w.heap.size + 1 + 1 := ⟨_, rfl⟩
  rw [← hg2] at Y2 ⊢
  rw [← hg1] at X2 ⊢
  have HG : Hid (w.heap.size ≤ g1 ∧ g1 ≠ g2) := by show _ ∧ _; omega
  clear hg1 hg2
  have X3 := Lib.hid (X2.out.on (w' := W.drew) (Below.refl W.heap.size W).drew)
  have B3 := Lib.hid (B2.out.trans ((Below.refl W.heap.size W).drew.mono B2.out.size))
  have Y3 : Hid (Six W.drew g2 (k % 8) (e % 8) (s % 8) (u % 8) (v % 8) (t % 8)) := ⟨Y2.out.y0, Y2.out.y1, Y2.out.y2, Y2.out.y3, Y2.out.y4, Y2.out.y5, Y2.out.yl⟩
  clear X2 B2 Y2
  generalize hw3 : W.drew = w3 at X3 B3 Y3
  refine wp_region_held_drew (S := fun X => Six X g2 (k % 8) (e % 8) (s % 8) (u % 8) (v % 8) (t % 8)) (by kernel_rfl) (by rw [hw3]; exact Y3.out) (fun hS => ?_)
  rw [hw3] at hS ⊢
  clear hw3 Y3
  refine tkYes 0 (v := ?_) rfl (by kernel_rfl) (fun _ _ _ h => h) rfl ?_ hS ?_
  rotate_left
  · intro W hW; go_simp; (try with_reducible rfl)
  simp only [Act.put, List.setIfInBounds_toArray, List.set_cons_zero, List.set_cons_succ]
  refine tkYes 1 (v := ?_) rfl (by kernel_rfl) (fun _ _ _ h => h) rfl ?_ hS ?_
  rotate_left
  · intro W hW; go_simp; (try with_reducible rfl)
  simp only [Act.put, List.setIfInBounds_toArray, List.set_cons_zero, List.set_cons_succ]
  refine tkYes 2 (v := ?_) rfl (by kernel_rfl) (fun _ _ _ h => h) rfl ?_ hS ?_
  rotate_left
  · intro W hW; obtain ⟨y0, y1, y2, y3, y4, y5, yl⟩ := hW; go_simp; (try with_reducible rfl)
  simp only [Act.put, List.setIfInBounds_toArray, List.set_cons_zero, List.set_cons_succ]
  refine tkYes 3 (v := ?_) rfl (by kernel_rfl) (fun _ _ _ h => h) rfl ?_ hS ?_
  rotate_left
  · intro W hW; go_simp; (try with_reducible rfl)
  simp only [Act.put, List.setIfInBounds_toArray, List.set_cons_zero, List.set_cons_succ]
  refine tkYes 4 (v := ?_) rfl (by kernel_rfl) (fun _ _ _ h => h) rfl ?_ hS ?_
  rotate_left
  · intro W hW; go_simp; (try with_reducible rfl)
  simp only [Act.put, List.setIfInBounds_toArray, List.set_cons_zero, List.set_cons_succ]
  refine tkYes 5 (v := ?_) rfl (by kernel_rfl) (fun _ _ _ h => h) rfl ?_ hS ?_
  rotate_left
  · intro W hW; go_simp; (try with_reducible rfl)
  simp only [Act.put, List.setIfInBounds_toArray, List.set_cons_zero, List.set_cons_succ]
  refine tkYes 6 (v := ?_) rfl (by kernel_rfl) (fun _ _ _ h => h) rfl ?_ hS ?_
  rotate_left
  · intro W hW; go_simp; (try with_reducible rfl)
  simp only [Act.put, List.setIfInBounds_toArray, List.set_cons_zero, List.set_cons_succ]
  refine tkYes 7 (v := ?_) rfl (by kernel_rfl) (fun _ _ _ h => h) rfl ?_ hS ?_
  rotate_left
  · intro W hW; obtain ⟨y0, y1, y2, y3, y4, y5, yl⟩ := hW; go_simp; (try with_reducible rfl)
  simp only [Act.put, List.setIfInBounds_toArray, List.set_cons_zero, List.set_cons_succ]
  refine tkYes 8 (v := ?_) rfl (by kernel_rfl) (fun _ _ _ h => h) rfl ?_ hS ?_
  rotate_left
  · intro W hW; go_simp; (try with_reducible rfl)
  simp only [Act.put, List.setIfInBounds_toArray, List.set_cons_zero, List.set_cons_succ]
  refine tkYes 9 (v := ?_) rfl (by kernel_rfl) (fun _ _ _ h => h) rfl ?_ hS ?_
  rotate_left
  · intro W hW; go_simp; (try with_reducible rfl)
  simp only [Act.put, List.setIfInBounds_toArray, List.set_cons_zero, List.set_cons_succ]
  refine tkYes 10 (v := ?_) rfl (by kernel_rfl) (fun _ _ _ h => h) rfl ?_ hS ?_
  rotate_left
  · intro W hW; obtain ⟨y0, y1, y2, y3, y4, y5, yl⟩ := hW; go_simp; (try with_reducible rfl)
  simp only [Act.put, List.setIfInBounds_toArray, List.set_cons_zero, List.set_cons_succ]
  refine tkYes 11 (v := ?_) rfl (by kernel_rfl) (fun _ _ _ h => h) rfl ?_ hS ?_
  rotate_left
  · intro W hW; go_simp; (try with_reducible rfl)
  simp only [Act.put, List.setIfInBounds_toArray, List.set_cons_zero, List.set_cons_succ]
  refine tkYes 12 (v := ?_) rfl (by kernel_rfl) (fun _ _ _ h => h) rfl ?_ hS ?_
  rotate_left
  · intro W hW; go_simp; (try with_reducible rfl)
  simp only [Act.put, List.setIfInBounds_toArray, List.set_cons_zero, List.set_cons_succ]
  refine tkYes 13 (v := ?_) rfl (by kernel_rfl) (fun _ _ _ h => h) rfl ?_ hS ?_
  rotate_left
  · intro W hW; obtain ⟨y0, y1, y2, y3, y4, y5, yl⟩ := hW; go_simp; (try with_reducible rfl)
  simp only [Act.put, List.setIfInBounds_toArray, List.set_cons_zero, List.set_cons_succ]
  refine tkYes 14 (v := ?_) rfl (by kernel_rfl) (fun _ _ _ h => h) rfl ?_ hS ?_
  rotate_left
  · intro W hW; go_simp; (try with_reducible rfl)
  simp only [Act.put, List.setIfInBounds_toArray, List.set_cons_zero, List.set_cons_succ]
  refine tkYes 15 (v := ?_) rfl (by kernel_rfl) (fun _ _ _ h => h) rfl ?_ hS ?_
  rotate_left
  · intro W hW; go_simp; (try with_reducible rfl)
  simp only [Act.put, List.setIfInBounds_toArray, List.set_cons_zero, List.set_cons_succ]
  refine tkYes 16 (v := ?_) rfl (by kernel_rfl) (fun _ _ _ h => h) rfl ?_ hS ?_
  rotate_left
  · intro W hW; obtain ⟨y0, y1, y2, y3, y4, y5, yl⟩ := hW; go_simp; (try with_reducible rfl)
  simp only [Act.put, List.setIfInBounds_toArray, List.set_cons_zero, List.set_cons_succ]
  refine tkYes 17 (v := ?_) rfl (by kernel_rfl) (fun _ _ _ h => h) rfl ?_ hS ?_
  rotate_left
  · intro W hW; go_simp; (try with_reducible rfl)
  simp only [Act.put, List.setIfInBounds_toArray, List.set_cons_zero, List.set_cons_succ]
  refine tkYes 18 (v := ?_) rfl (by kernel_rfl) (fun _ _ _ h => h) rfl ?_ hS ?_
  rotate_left
  · intro W hW; go_simp; (try with_reducible rfl)
  simp only [Act.put, List.setIfInBounds_toArray, List.set_cons_zero, List.set_cons_succ]
  refine tkYes 19 (v := ?_) rfl (by kernel_rfl) (fun _ _ _ h => h) rfl ?_ hS ?_
  rotate_left
  · intro W hW; go_simp; (try with_reducible rfl)
  simp only [Act.put, List.setIfInBounds_toArray, List.set_cons_zero, List.set_cons_succ]
  refine tkYes 20 (v := ?_) rfl (by kernel_rfl) (fun _ _ _ h => h) rfl ?_ hS ?_
  rotate_left
  · intro W hW; obtain ⟨y0, y1, y2, y3, y4, y5, yl⟩ := hW; go_simp; (try with_reducible rfl)
  simp only [Act.put, List.setIfInBounds_toArray, List.set_cons_zero, List.set_cons_succ]
  refine tkYes 21 (v := ?_) rfl (by kernel_rfl) (fun _ _ _ h => h) rfl ?_ hS ?_
  rotate_left
  · intro W hW; go_simp; (try with_reducible rfl)
  simp only [Act.put, List.setIfInBounds_toArray, List.set_cons_zero, List.set_cons_succ]
  refine tkYes 22 (v := ?_) rfl (by kernel_rfl) (fun _ _ _ h => h) rfl ?_ hS ?_
  rotate_left
  · intro W hW; go_simp; (try with_reducible rfl)
  simp only [Act.put, List.setIfInBounds_toArray, List.set_cons_zero, List.set_cons_succ]
  refine rnOne 23 rfl (by kernel_rfl) rfl (fun K hK => ?_)
  refine wp_store_row 38 (.tmp 2) (.tmp 54) rfl g1 (Nt.cs ⟨1 + k % 2, e % 8, s % 8, u % 8, v % 4, t % 8 % 5⟩) rfl rfl 38 _ X3.out.row (msg_size' _) rfl (msg_one _) ?_
  have X4 : Hid (NtAt (w3.setRow g1 (Nt.cs ⟨1 + k % 2, e % 8, s % 8, u % 8, v % 4, t % 8 % 5⟩)) g1 ⟨1 + k % 2, e % 8, s % 8, u % 8, v % 4, t % 8 % 5⟩) := ⟨setRow_heap w3 g1 _ _ _ _ X3.out.row⟩
  have B4 := Lib.hid (B3.out.grown (grown_row w3 g1 (Nt.cs ⟨1 + k % 2, e % 8, s % 8, u % 8, v % 4, t % 8 % 5⟩)) B3.out.size (fun b hb => by injection hb with hb; have := HG.out; omega))
  have hS2 := hS.row g1 HG.out.2 (Nt.cs ⟨1 + k % 2, e % 8, s % 8, u % 8, v % 4, t % 8 % 5⟩)
  clear hS
  have hS := hS2
  clear hS2
  refine hK.out _ _ hS (fun _ => ?_)
  clear hK K
  try simp only [Act.put, List.setIfInBounds_toArray, List.set_cons_zero, List.set_cons_succ]
  refine wpAnyH_done (by kernel_rfl) ?_ _
  clear hS
  go_wp2_with fail
  exact bodyPost_ret (msg_results Try.results14 _ _ rfl X4.out) rfl ⟨rfl, B4.out⟩
end Go.Proofs.Ytgljepjflpijiaa
