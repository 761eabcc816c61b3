/-
  Package lease: Get, Holds, Free, notOf. No condition.
-/
import Derived.Test.YtemnioijgkahcaaLd3
import Derived.Deep.RegionWith
import Derived.Test.YtemnioijgkahcaaRegion
import Derived.Laws.Tables
import Derived.Laws.CopyOwn
namespace Go.Proofs.Ytemnioijgkahcaa
open Go.RowKit Go.Deep Go.Maps

section
variable {w : World} {g : Nat} {a b c : Int}
theorem lease_size : (Try.prog.info? 36).map (·.size) = some 3 := by kernel_rfl
theorem LsCells.c0 (h : w.heap[g]? = some (.cells #[.int .i64 a, .int .i64 b, .int .i64 c] 36 (0, 0))) : w.cell? ⟨g, 0, none⟩ = some (.int .i64 a) := by rw [cell_of_row w g 0 _ _ _ h]; rfl
theorem LsCells.c1 (h : w.heap[g]? = some (.cells #[.int .i64 a, .int .i64 b, .int .i64 c] 36 (0, 0))) : w.cell? ⟨g, 1, none⟩ = some (.int .i64 b) := by rw [cell_of_row w g 1 _ _ _ h]; rfl
theorem LsCells.c2 (h : w.heap[g]? = some (.cells #[.int .i64 a, .int .i64 b, .int .i64 c] 36 (0, 0))) : w.cell? ⟨g, 2, none⟩ = some (.int .i64 c) := by rw [cell_of_row w g 2 _ _ _ h]; rfl
end
set_option maxHeartbeats 1600000 in
theorem lsget_some (W : World) (q : Nat) (mo : Option Nat) (s : Ls.St) (h : LsIs W q mo s) (k : ByteArray) (hk : k.size ≤ maxLen) :
    Calls Try.prog 15 #[.pointer (some ⟨q, 0, none⟩), .string k] W (LGet s k W) := by
  obtain ⟨W1, hW1⟩ : ∃ W1, W1 = W.alloc (.cells #[.int .i64 0, .int .i64 0, .int .i64 0] 36) := ⟨_, rfl⟩
  have B1 := Lib.hid ((Below.refl W.heap.size W).alloc (Nat.le_refl _) (.cells #[.int .i64 0, .int .i64 0, .int .i64 0] 36))
  have R1 := Lib.hid (heap_alloc_new W (.cells #[.int .i64 0, .int .i64 0, .int .i64 0] 36))
  rw [← hW1] at B1 R1
  have H1 := h.on B1.out
  have hlk := H1.look k hk
  obtain ⟨c0, c1, f1, hq⟩ := H1.cells
  unfold LGet lval
  have TK := Ls.taken_iff h.good k
  generalize (Ls.find s.l k).isSome = x at *
  generalize Ls.holderOf s.l k = a at *
  generalize Ls.epochOf s.l k = b at *
  generalize Ls.tillOf s.l k = c at *
  have C := Lib.hid (fun W => lstaken_any W a b c TK)
  clear h H1 TK
  go_enter Try.func15, Try.ntmps15
  go_upto_region 3 with fail
  obtain ⟨g, hg⟩ : ∃ g, g = W.heap.size := ⟨_, rfl⟩
  rw [← hW1, ← hg]
  rw [← hg] at R1
  have B2 := Lib.hid (B1.out.alloc (by have := B1.out.size; omega) (.cells #[.int .i64 a, .int .i64 b, .int .i64 c] 36))
  have R2 := Lib.hid (blk_on R1.out ((Below.refl W1.heap.size W1).alloc (Nat.le_refl _) (.cells #[.int .i64 a, .int .i64 b, .int .i64 c] 36)))
  have R6 := Lib.hid (heap_alloc_new W1 (.cells #[.int .i64 a, .int .i64 b, .int .i64 c] 36))
  have HG := Lib.hid hg
  clear hW1 hg
  go_upto_region 4 with fail
  obtain ⟨g6, hg6⟩ : ∃ g6, g6 = W1.heap.size := ⟨_, rfl⟩
  have NE : Hid (g6 ≠ g) := by have := (Array.getElem?_eq_some_iff.1 R1.out).1; show _ ≠ _; omega
  rw [← hg6] at R6 ⊢
  have BG : Hid (W.heap.size ≤ g) := Nat.le_of_eq HG.out.symm
  clear HG hg6 R1 B1 c0 c1 f1 hq hlk
  generalize W1.alloc (.cells #[.int .i64 a, .int .i64 b, .int .i64 c] 36) = W6 at *
  refine wp_region_held_drew (S := fun W => W.heap[g6]? = some (.cells #[.int .i64 a, .int .i64 b, .int .i64 c] 36 (0, 0))) (by kernel_rfl) R6.out (fun hS => ?_)
  have B3 := Lib.hid B2.out.drew
  refine tkYes 0 (v := ?_) rfl (by kernel_rfl) (fun _ _ _ h => h) rfl ?_ hS ?_
  rotate_left
  · intro W hW; have d0 := LsCells.c0 hW; have d1 := LsCells.c1 hW; have d2 := LsCells.c2 hW; go_simp; (try with_reducible rfl)
  simp only [Act.put, List.setIfInBounds_toArray, List.set_cons_zero, List.set_cons_succ]
  refine tkYes 1 (v := ?_) rfl (by kernel_rfl) (fun _ _ _ h => h) rfl ?_ hS ?_
  rotate_left
  · intro W hW; have d0 := LsCells.c0 hW; have d1 := LsCells.c1 hW; have d2 := LsCells.c2 hW; go_simp; (try with_reducible rfl)
  simp only [Act.put, List.setIfInBounds_toArray, List.set_cons_zero, List.set_cons_succ]
  refine rnOne 2 rfl (by kernel_rfl) rfl (fun K hK => ?_)
  go_simp
  with_reducible refine (C.out _).mono ?_
  rintro e w7 ⟨rfl, hb⟩
  have hS2 := blk_on hS hb
  have RG := Lib.hid (blk_on (W := W6.drew) R2.out hb)
  have B4 := Lib.hid (B3.out.trans (hb.mono B3.out.size))
  clear hS hb
  have hS := hS2
  clear hS2
  refine hK.out _ _ hS (fun _ => ?_)
  clear hK K
  try simp only [Act.put, List.setIfInBounds_toArray, List.set_cons_zero, List.set_cons_succ]
  refine rnOne 3 rfl (by kernel_rfl) rfl (fun K hK => ?_)
  refine wp_store_row 36 (.tmp 4) (.tmp 16) rfl g #[.int .i64 a, .int .i64 b, .int .i64 c] rfl rfl 36 _ RG.out lease_size rfl (by simp [Value.oneCell']) ?_
  have hS2 := (setRow_other w7 g g6 #[.int .i64 a, .int .i64 b, .int .i64 c] NE.out).trans hS
  have RS := setRow_heap w7 g _ #[.int .i64 a, .int .i64 b, .int .i64 c] _ _ RG.out
  have B5 := Lib.hid (below_setRow B4.out BG.out #[.int .i64 a, .int .i64 b, .int .i64 c])
  have e0 := LsCells.c0 RS
  have e1 := LsCells.c1 RS
  have e2 := LsCells.c2 RS
  clear hS RG RS
  have hS := hS2
  clear hS2
  generalize w7.setRow g #[.int .i64 a, .int .i64 b, .int .i64 c] = w8 at *
  refine hK.out _ _ hS (fun _ => ?_)
  clear hK K
  try simp only [Act.put]
  refine tkYes 4 (v := ?_) rfl (by kernel_rfl) (fun _ _ _ h => h) rfl ?_ hS ?_
  rotate_left
  · intro W hW; go_simp; (try with_reducible rfl)
  simp only [Act.put, List.setIfInBounds_toArray, List.set_cons_zero, List.set_cons_succ]
  refine wpAnyH_done (by kernel_rfl) ?_ _
  go_wp2_with fail
  exact bodyPost_ret (v := .tuple #[leV a b c, .bool x]) (by simp [results, Try.results15, go_sem, e0, e1, e2]) rfl ⟨rfl, B5.out⟩
theorem lsfree_some (W : World) (q : Nat) (mo : Option Nat) (s : Ls.St) (h : LsIs W q mo s) (k : ByteArray) (hk : k.size ≤ maxLen) (now : Int) {x : Bool} (hx : x = true ↔ Ls.Free s k now) :
    Calls Try.prog 17 #[.pointer (some ⟨q, 0, none⟩), .string k, .int .i64 now] W (fun e w' => e = .returned (.bool x) ∧ Below W.heap.size W w') := by
  have TT := Ls.till_time h.good k
  have m0 := h.good.m0
  have m1 := h.good.m1
  rw [Ls.free_iff h.good] at hx
  obtain ⟨a, ha⟩ : ∃ a, a = Ls.holderOf s.l k := ⟨_, rfl⟩
  obtain ⟨b, hb⟩ : ∃ b, b = Ls.epochOf s.l k := ⟨_, rfl⟩
  obtain ⟨c, hc⟩ : ∃ c, c = Ls.tillOf s.l k := ⟨_, rfl⟩
  rw [← hc] at TT hx
  have C := Lib.hid (fun W => lsfree_any W a b c now s.margin TT.1 TT.2 m0 m1 hx)
  have EA := Lib.hid ha.symm
  have EB := Lib.hid hb.symm
  have EC := Lib.hid hc.symm
  have HKS := Lib.hid hk
  have H := Lib.hid h
  clear TT m0 m1 hx ha hb hc hk h
  go_enter Try.func17, Try.ntmps17
  go_upto_region 1 with fail
  refine wp_region_held_drew (S := fun W => LsIs W q mo s) (by kernel_rfl) (H.out.on (Below.refl W.heap.size W).drew) (fun hS => ?_)
  refine tkYes 0 (v := ?_) rfl (by kernel_rfl) (fun _ _ _ h => h) rfl ?_ hS ?_
  rotate_left
  · intro W hW; go_simp; (try with_reducible rfl)
  simp only [Act.put, List.setIfInBounds_toArray, List.set_cons_zero, List.set_cons_succ]
  refine tkYes 1 (v := ?_) rfl (by kernel_rfl) (fun _ _ _ h => h) rfl ?_ hS ?_
  rotate_left
  · intro W hW; go_simp; (try with_reducible rfl)
  simp only [Act.put, List.setIfInBounds_toArray, List.set_cons_zero, List.set_cons_succ]
  refine tkYes 2 (v := ?_) rfl (by kernel_rfl) (fun _ _ _ h => h) rfl ?_ hS ?_
  rotate_left
  · intro W hW; go_simp; (try with_reducible rfl)
  simp only [Act.put, List.setIfInBounds_toArray, List.set_cons_zero, List.set_cons_succ]
  refine tkYes 3 (v := ?_) rfl (by kernel_rfl) (fun _ _ _ h => h) rfl ?_ hS ?_
  rotate_left
  · intro W hW; go_simp; (try with_reducible rfl)
  simp only [Act.put, List.setIfInBounds_toArray, List.set_cons_zero, List.set_cons_succ]
  refine tkYes 4 (v := ?_) rfl (by kernel_rfl) (fun _ _ _ h => h) rfl ?_ hS ?_
  rotate_left
  · intro W hW; go_simp; (try with_reducible rfl)
  simp only [Act.put, List.setIfInBounds_toArray, List.set_cons_zero, List.set_cons_succ]
  refine tkYes 5 (v := ?_) rfl (by kernel_rfl) (fun _ _ _ h => h) rfl ?_ hS ?_
  rotate_left
  · intro W hW; go_simp; (try with_reducible rfl)
  simp only [Act.put, List.setIfInBounds_toArray, List.set_cons_zero, List.set_cons_succ]
  refine tkYes 6 (v := ?_) rfl (by kernel_rfl) (fun _ _ _ h => h) rfl ?_ hS ?_
  rotate_left
  · intro W hW; obtain ⟨c0, c1, f1, hq⟩ := hW.cells; have hlk := hW.look k HKS.out; rw [EA.out, EB.out, EC.out] at hlk; unfold leV at hlk; go_simp; (try with_reducible rfl)
  simp only [Act.put, List.setIfInBounds_toArray, List.set_cons_zero, List.set_cons_succ]
  refine tkYes 7 (v := ?_) rfl (by kernel_rfl) (fun _ _ _ h => h) rfl ?_ hS ?_
  rotate_left
  · intro W hW; go_simp; (try with_reducible rfl)
  simp only [Act.put, List.setIfInBounds_toArray, List.set_cons_zero, List.set_cons_succ]
  refine tkYes 8 (v := ?_) rfl (by kernel_rfl) (fun _ _ _ h => h) rfl ?_ hS ?_
  rotate_left
  · intro W hW; obtain ⟨c0, c1, f1, hq⟩ := hW.cells; have hlk := hW.look k HKS.out; rw [EA.out, EB.out, EC.out] at hlk; unfold leV at hlk; go_simp; (try with_reducible rfl)
  simp only [Act.put, List.setIfInBounds_toArray, List.set_cons_zero, List.set_cons_succ]
  refine tkYes 9 (v := ?_) rfl (by kernel_rfl) (fun _ _ _ h => h) rfl ?_ hS ?_
  rotate_left
  · intro W hW; go_simp; (try with_reducible rfl)
  simp only [Act.put, List.setIfInBounds_toArray, List.set_cons_zero, List.set_cons_succ]
  refine tkYes 10 (v := ?_) rfl (by kernel_rfl) (fun _ _ _ h => h) rfl ?_ hS ?_
  rotate_left
  · intro W hW; go_simp; (try with_reducible rfl)
  simp only [Act.put, List.setIfInBounds_toArray, List.set_cons_zero, List.set_cons_succ]
  refine tkYes 11 (v := ?_) rfl (by kernel_rfl) (fun _ _ _ h => h) rfl ?_ hS ?_
  rotate_left
  · intro W hW; go_simp; (try with_reducible rfl)
  simp only [Act.put, List.setIfInBounds_toArray, List.set_cons_zero, List.set_cons_succ]
  refine tkYes 12 (v := ?_) rfl (by kernel_rfl) (fun _ _ _ h => h) rfl ?_ hS ?_
  rotate_left
  · intro W hW; go_simp; (try with_reducible rfl)
  simp only [Act.put, List.setIfInBounds_toArray, List.set_cons_zero, List.set_cons_succ]
  refine tkYes 13 (v := ?_) rfl (by kernel_rfl) (fun _ _ _ h => h) rfl ?_ hS ?_
  rotate_left
  · intro W hW; obtain ⟨c0, c1, f1, hq⟩ := hW.cells; have hlk := hW.look k HKS.out; rw [EA.out, EB.out, EC.out] at hlk; unfold leV at hlk; go_simp; (try with_reducible rfl)
  simp only [Act.put, List.setIfInBounds_toArray, List.set_cons_zero, List.set_cons_succ]
  refine rnOne 14 rfl (by kernel_rfl) rfl (fun K hK => ?_)
  go_simp
  with_reducible refine (C.out _).mono ?_
  rintro e w7 ⟨rfl, hb⟩
  have hS2 := hS.on hb
  have B3 := Lib.hid ((Below.refl W.heap.size W).drew.trans hb)
  clear hS hb
  have hS := hS2
  clear hS2
  refine hK.out _ _ hS (fun _ => ?_)
  clear hK K
  try simp only [Act.put, List.setIfInBounds_toArray, List.set_cons_zero, List.set_cons_succ]
  refine tkYes 15 (v := ?_) rfl (by kernel_rfl) (fun _ _ _ h => h) rfl ?_ hS ?_
  rotate_left
  · intro W hW; go_simp; (try with_reducible rfl)
  simp only [Act.put, List.setIfInBounds_toArray, List.set_cons_zero, List.set_cons_succ]
  refine tkYes 16 (v := ?_) rfl (by kernel_rfl) (fun _ _ _ h => h) rfl ?_ hS ?_
  rotate_left
  · intro W hW; go_simp; (try with_reducible rfl)
  simp only [Act.put, List.setIfInBounds_toArray, List.set_cons_zero, List.set_cons_succ]
  refine wpAnyH_done (by kernel_rfl) ?_ _
  go_wp2_with fail
  go_ret
  exact ⟨rfl, B3.out⟩
end Go.Proofs.Ytemnioijgkahcaa
