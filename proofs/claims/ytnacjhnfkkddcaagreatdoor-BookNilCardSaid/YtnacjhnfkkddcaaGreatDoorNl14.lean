import Derived.Test.YtnacjhnfkkddcaaGreatDoorNl13
import Derived.Test.YtnacjhnfkkddcaaGreatDoorNl09
import Derived.Test.YtnacjhnfkkddcaaGreatDoorNl08
import Derived.Laws.Tables
import Derived.Laws.ResultCell
import Derived.Lib.SliceRun
import Derived.Test.YtnacjhnfkkddcaaGreatDoorNl02
import Derived.Sort.OwnSortedInts
import Derived.Laws.OwnMore
import Derived.Great.BuildSlice
namespace Go.Proofs.YtnacjhnfkkddcaaGreatDoor
open Go.RowKit Go.Deep Go.Maps
set_option maxRecDepth 100000
set_option linter.unusedSimpArgs false
set_option linter.unusedVariables false
set_option maxHeartbeats 6400000 in
theorem bapply_any (q : Nat) (s : Bk.St) (ru : Nat → Bk.Un) (rv : Int) (lo ko : Option Nat) (H : Value) (K : Kv.St) (w : World) (h : BdIs w q s ru rv lo ko H K) (ht : BT w) (r : Rc.R) (hin : Rc.In r) : Calls Tryz.prog 22 #[.pointer (some ⟨q, 0, none⟩), .agg (Rc.cells r)] w (BdTurn q lo ko H (Bk.app s r) (.int .i64 (Bk.chk s r)) w) := by
  obtain ⟨ans, hans⟩ : ∃ ans, ans = Bk.chk s r := ⟨_, rfl⟩
  rw [← hans]
  have AN := Lib.hid hans
  clear hans
  have HI := Lib.hid hin
  have H0 := Lib.hid h
  clear hin
  obtain ⟨s9, hs9⟩ : ∃ t, t = Bk.app s r := ⟨_, rfl⟩
  rw [← hs9]
  have AS := Lib.hid hs9
  clear hs9
  have HT := Lib.hid ht
  obtain ⟨W, hW⟩ : ∃ W, W = w.alloc (.cells (Rc.cells r) 53) := ⟨_, rfl⟩
  obtain ⟨g, hg⟩ : ∃ g, g = w.heap.size := ⟨_, rfl⟩
  have R0 := Lib.hid (RdC.open_ h r)
  rw [← hW, ← hg] at R0
  have GE : Hid (w.heap.size ≤ g) := Nat.le_of_eq hg.symm
  have CC := Lib.hid (bcheck_any q s ru rv lo ko H K W R0.out.bd (ht.on R0.out.b) r HI.out)
  rw [← AN.out] at CC
  clear h ht
  go_enter Tryz.func22, Tryz.ntmps22
  go_upto_region 1 with fail
  rw [← hW, ← hg]
  clear hW hg
  by_cases hc : ans = 0
  · have HC : Hid (Bk.chk s r = 0) := by show _ = _; rw [← AN.out]; exact hc
    subst hc
    go_upto_region 4 with (first
      | ((with_reducible show wpList _ _ _ ({ dst := some 7, op := .load _ _, type := _, pos := _, after := _, guard := _ } :: _) _ _); refine wpList_load_row rfl 53 (.tmp 3) rfl g rfl 53 _ (0, 0) _ R0.out.rc.row rec_fields rfl (rec_size r) ?_)
      | (go_at_call 27; (with_reducible refine CC.out.mono ?_); rintro e w1 ⟨rfl, hb⟩; have R1 := Lib.hid (R0.out.on hb); clear hb))
    have hk7 := Bk.kinds HC.out
    rcases hk7 with hk | hk | hk | hk | hk | hk | hk
    · have HK := Lib.hid hk
      clear hk
      refine wp_region_held_drew (S := fun W => RcAt W g r) (by kernel_rfl) (R1.out.rc.on (Below.refl w1.heap.size w1).drew) (fun hS => ?_)
      refine tkYes 1 (v := ?_) rfl (by kernel_rfl) (fun _ _ _ h => h) rfl ?_ hS ?_
      rotate_left
      · intro W hW; go_simp; (try with_reducible rfl)
      simp only [Act.put, List.setIfInBounds_toArray, List.set_cons_zero, List.set_cons_succ]
      refine tkYes 2 (v := ?_) rfl (by kernel_rfl) (fun _ _ _ h => h) rfl ?_ hS ?_
      rotate_left
      · intro W hW; have c0 := (RcAt.cs hW).c0; rw [HK.out] at c0; have lg := (RcAt.cs hW).lt; go_simp; (try with_reducible rfl)
      simp only [Act.put, List.setIfInBounds_toArray, List.set_cons_zero, List.set_cons_succ]
      refine tkYes 5 (v := ?_) rfl (by kernel_rfl) (fun _ _ _ h => h) rfl ?_ hS ?_
      rotate_left
      · intro W hW; go_simp; (try with_reducible rfl)
      simp only [Act.put, List.setIfInBounds_toArray, List.set_cons_zero, List.set_cons_succ]
      refine tkYes 6 (v := .agg (Rc.cells r)) rfl (by kernel_rfl) (fun _ _ _ h => h) rfl (fun W hW => take_rec (.tmp 3) rfl g r rfl hW) hS ?_
      simp only [Act.put, List.setIfInBounds_toArray, List.set_cons_zero, List.set_cons_succ]
      refine rnOne 0 rfl (by kernel_rfl) rfl (fun K hK => ?_)
      go_simp
      with_reducible refine (brules_any _).mono ?_
      rintro e w7 ⟨m, rfl, hm, hb⟩
      have M7 := Lib.hid hm
      have R7 := Lib.hid ((R1.out.on (Below.refl w1.heap.size w1).drew).on hb)
      have hS2 := hS.on hb
      clear hS hb hm
      have hS := hS2
      clear hS2
      refine hK.out _ _ hS (fun _ => ?_)
      clear hK K
      try simp only [Act.put, List.setIfInBounds_toArray, List.set_cons_zero, List.set_cons_succ]
      refine rnOne 3 rfl (by kernel_rfl) rfl (fun K hK => ?_)
      have hlk := M7.out.look1
      go_simp
      refine hK.out _ _ hS (fun _ => ?_)
      clear hK K
      try simp only [Act.put, List.setIfInBounds_toArray, List.set_cons_zero, List.set_cons_succ]
      refine tkYes 4 (v := ?_) rfl (by kernel_rfl) (fun _ _ _ h => h) rfl ?_ hS ?_
      rotate_left
      · intro W hW; have hfd := run_bf1; go_simp; (try with_reducible rfl)
      simp only [Act.put, List.setIfInBounds_toArray, List.set_cons_zero, List.set_cons_succ]
      refine rnOne 7 rfl (by kernel_rfl) rfl (fun K hK => ?_)
      have CF := Lib.hid (bact1_any q s ru rv lo ko H _ w7 R7.out.bd (HT.out.on R7.out.b) r HI.out HK.out HC.out)
      go_simp
      with_reducible refine CF.out.mono ?_
      intro e w8 hp
      obtain ⟨ru8, rv8, lo8, ko8, H8, K8, rfl, hp2, hp3, hp4⟩ := hp
      have P8 := Lib.hid (show BdTurn q lo ko H (Bk.act s r) (.tuple #[]) w7 _ w8 from ⟨ru8, rv8, lo8, ko8, H8, K8, rfl, hp2, hp3, hp4⟩)
      have NB : ¬ BdF q lo ko H g := fun h => by have := H0.out.ltF g h; have := GE.out; omega
      have hS2 : RcAt w8 g r := ⟨(hp3.block g hS.cs.lt NB).trans hS.row⟩
      clear hS hp2 hp3 hp4 NB
      have hS := hS2
      clear hS2
      refine hK.out _ _ hS (fun _ => ?_)
      clear hK K
      try simp only [Act.put, List.setIfInBounds_toArray, List.set_cons_zero, List.set_cons_succ]
      refine wpAnyH_done (by kernel_rfl) ?_ _
      clear hS
      go_wp2_with fail
      go_ret
      rw [AS.out, Bk.app_ok HC.out]
      exact (P8.out.ahead R7.out.b H0.out.ltF).ret _
    · have HK := Lib.hid hk
      clear hk
      refine wp_region_held_drew (S := fun W => RcAt W g r) (by kernel_rfl) (R1.out.rc.on (Below.refl w1.heap.size w1).drew) (fun hS => ?_)
      refine tkYes 1 (v := ?_) rfl (by kernel_rfl) (fun _ _ _ h => h) rfl ?_ hS ?_
      rotate_left
      · intro W hW; go_simp; (try with_reducible rfl)
      simp only [Act.put, List.setIfInBounds_toArray, List.set_cons_zero, List.set_cons_succ]
      refine tkYes 2 (v := ?_) rfl (by kernel_rfl) (fun _ _ _ h => h) rfl ?_ hS ?_
      rotate_left
      · intro W hW; have c0 := (RcAt.cs hW).c0; rw [HK.out] at c0; have lg := (RcAt.cs hW).lt; go_simp; (try with_reducible rfl)
      simp only [Act.put, List.setIfInBounds_toArray, List.set_cons_zero, List.set_cons_succ]
      refine tkYes 5 (v := ?_) rfl (by kernel_rfl) (fun _ _ _ h => h) rfl ?_ hS ?_
      rotate_left
      · intro W hW; go_simp; (try with_reducible rfl)
      simp only [Act.put, List.setIfInBounds_toArray, List.set_cons_zero, List.set_cons_succ]
      refine tkYes 6 (v := .agg (Rc.cells r)) rfl (by kernel_rfl) (fun _ _ _ h => h) rfl (fun W hW => take_rec (.tmp 3) rfl g r rfl hW) hS ?_
      simp only [Act.put, List.setIfInBounds_toArray, List.set_cons_zero, List.set_cons_succ]
      refine rnOne 0 rfl (by kernel_rfl) rfl (fun K hK => ?_)
      go_simp
      with_reducible refine (brules_any _).mono ?_
      rintro e w7 ⟨m, rfl, hm, hb⟩
      have M7 := Lib.hid hm
      have R7 := Lib.hid ((R1.out.on (Below.refl w1.heap.size w1).drew).on hb)
      have hS2 := hS.on hb
      clear hS hb hm
      have hS := hS2
      clear hS2
      refine hK.out _ _ hS (fun _ => ?_)
      clear hK K
      try simp only [Act.put, List.setIfInBounds_toArray, List.set_cons_zero, List.set_cons_succ]
      refine rnOne 3 rfl (by kernel_rfl) rfl (fun K hK => ?_)
      have hlk := M7.out.look2
      go_simp
      refine hK.out _ _ hS (fun _ => ?_)
      clear hK K
      try simp only [Act.put, List.setIfInBounds_toArray, List.set_cons_zero, List.set_cons_succ]
      refine tkYes 4 (v := ?_) rfl (by kernel_rfl) (fun _ _ _ h => h) rfl ?_ hS ?_
      rotate_left
      · intro W hW; have hfd := run_bf1; go_simp; (try with_reducible rfl)
      simp only [Act.put, List.setIfInBounds_toArray, List.set_cons_zero, List.set_cons_succ]
      refine rnOne 7 rfl (by kernel_rfl) rfl (fun K hK => ?_)
      have CF := Lib.hid (bact2_any q s ru rv lo ko H _ w7 R7.out.bd (HT.out.on R7.out.b) r HI.out HK.out HC.out)
      go_simp
      with_reducible refine CF.out.mono ?_
      intro e w8 hp
      obtain ⟨ru8, rv8, lo8, ko8, H8, K8, rfl, hp2, hp3, hp4⟩ := hp
      have P8 := Lib.hid (show BdTurn q lo ko H (Bk.act s r) (.tuple #[]) w7 _ w8 from ⟨ru8, rv8, lo8, ko8, H8, K8, rfl, hp2, hp3, hp4⟩)
      have NB : ¬ BdF q lo ko H g := fun h => by have := H0.out.ltF g h; have := GE.out; omega
      have hS2 : RcAt w8 g r := ⟨(hp3.block g hS.cs.lt NB).trans hS.row⟩
      clear hS hp2 hp3 hp4 NB
      have hS := hS2
      clear hS2
      refine hK.out _ _ hS (fun _ => ?_)
      clear hK K
      try simp only [Act.put, List.setIfInBounds_toArray, List.set_cons_zero, List.set_cons_succ]
      refine wpAnyH_done (by kernel_rfl) ?_ _
      clear hS
      go_wp2_with fail
      go_ret
      rw [AS.out, Bk.app_ok HC.out]
      exact (P8.out.ahead R7.out.b H0.out.ltF).ret _
    · have HK := Lib.hid hk
      clear hk
      refine wp_region_held_drew (S := fun W => RcAt W g r) (by kernel_rfl) (R1.out.rc.on (Below.refl w1.heap.size w1).drew) (fun hS => ?_)
      refine tkYes 1 (v := ?_) rfl (by kernel_rfl) (fun _ _ _ h => h) rfl ?_ hS ?_
      rotate_left
      · intro W hW; go_simp; (try with_reducible rfl)
      simp only [Act.put, List.setIfInBounds_toArray, List.set_cons_zero, List.set_cons_succ]
      refine tkYes 2 (v := ?_) rfl (by kernel_rfl) (fun _ _ _ h => h) rfl ?_ hS ?_
      rotate_left
      · intro W hW; have c0 := (RcAt.cs hW).c0; rw [HK.out] at c0; have lg := (RcAt.cs hW).lt; go_simp; (try with_reducible rfl)
      simp only [Act.put, List.setIfInBounds_toArray, List.set_cons_zero, List.set_cons_succ]
      refine tkYes 5 (v := ?_) rfl (by kernel_rfl) (fun _ _ _ h => h) rfl ?_ hS ?_
      rotate_left
      · intro W hW; go_simp; (try with_reducible rfl)
      simp only [Act.put, List.setIfInBounds_toArray, List.set_cons_zero, List.set_cons_succ]
      refine tkYes 6 (v := .agg (Rc.cells r)) rfl (by kernel_rfl) (fun _ _ _ h => h) rfl (fun W hW => take_rec (.tmp 3) rfl g r rfl hW) hS ?_
      simp only [Act.put, List.setIfInBounds_toArray, List.set_cons_zero, List.set_cons_succ]
      refine rnOne 0 rfl (by kernel_rfl) rfl (fun K hK => ?_)
      go_simp
      with_reducible refine (brules_any _).mono ?_
      rintro e w7 ⟨m, rfl, hm, hb⟩
      have M7 := Lib.hid hm
      have R7 := Lib.hid ((R1.out.on (Below.refl w1.heap.size w1).drew).on hb)
      have hS2 := hS.on hb
      clear hS hb hm
      have hS := hS2
      clear hS2
      refine hK.out _ _ hS (fun _ => ?_)
      clear hK K
      try simp only [Act.put, List.setIfInBounds_toArray, List.set_cons_zero, List.set_cons_succ]
      refine rnOne 3 rfl (by kernel_rfl) rfl (fun K hK => ?_)
      have hlk := M7.out.look3
      go_simp
      refine hK.out _ _ hS (fun _ => ?_)
      clear hK K
      try simp only [Act.put, List.setIfInBounds_toArray, List.set_cons_zero, List.set_cons_succ]
      refine tkYes 4 (v := ?_) rfl (by kernel_rfl) (fun _ _ _ h => h) rfl ?_ hS ?_
      rotate_left
      · intro W hW; have hfd := run_bf1; go_simp; (try with_reducible rfl)
      simp only [Act.put, List.setIfInBounds_toArray, List.set_cons_zero, List.set_cons_succ]
      refine rnOne 7 rfl (by kernel_rfl) rfl (fun K hK => ?_)
      have CF := Lib.hid (bact3_any q s ru rv lo ko H _ w7 R7.out.bd r HI.out HK.out HC.out)
      go_simp
      with_reducible refine CF.out.mono ?_
      intro e w8 hp
      obtain ⟨ru8, rv8, lo8, ko8, H8, K8, rfl, hp2, hp3, hp4⟩ := hp
      have P8 := Lib.hid (show BdTurn q lo ko H (Bk.act s r) (.tuple #[]) w7 _ w8 from ⟨ru8, rv8, lo8, ko8, H8, K8, rfl, hp2, hp3, hp4⟩)
      have NB : ¬ BdF q lo ko H g := fun h => by have := H0.out.ltF g h; have := GE.out; omega
      have hS2 : RcAt w8 g r := ⟨(hp3.block g hS.cs.lt NB).trans hS.row⟩
      clear hS hp2 hp3 hp4 NB
      have hS := hS2
      clear hS2
      refine hK.out _ _ hS (fun _ => ?_)
      clear hK K
      try simp only [Act.put, List.setIfInBounds_toArray, List.set_cons_zero, List.set_cons_succ]
      refine wpAnyH_done (by kernel_rfl) ?_ _
      clear hS
      go_wp2_with fail
      go_ret
      rw [AS.out, Bk.app_ok HC.out]
      exact (P8.out.ahead R7.out.b H0.out.ltF).ret _
    · have HK := Lib.hid hk
      clear hk
      refine wp_region_held_drew (S := fun W => RcAt W g r) (by kernel_rfl) (R1.out.rc.on (Below.refl w1.heap.size w1).drew) (fun hS => ?_)
      refine tkYes 1 (v := ?_) rfl (by kernel_rfl) (fun _ _ _ h => h) rfl ?_ hS ?_
      rotate_left
      · intro W hW; go_simp; (try with_reducible rfl)
      simp only [Act.put, List.setIfInBounds_toArray, List.set_cons_zero, List.set_cons_succ]
      refine tkYes 2 (v := ?_) rfl (by kernel_rfl) (fun _ _ _ h => h) rfl ?_ hS ?_
      rotate_left
      · intro W hW; have c0 := (RcAt.cs hW).c0; rw [HK.out] at c0; have lg := (RcAt.cs hW).lt; go_simp; (try with_reducible rfl)
      simp only [Act.put, List.setIfInBounds_toArray, List.set_cons_zero, List.set_cons_succ]
      refine tkYes 5 (v := ?_) rfl (by kernel_rfl) (fun _ _ _ h => h) rfl ?_ hS ?_
      rotate_left
      · intro W hW; go_simp; (try with_reducible rfl)
      simp only [Act.put, List.setIfInBounds_toArray, List.set_cons_zero, List.set_cons_succ]
      refine tkYes 6 (v := .agg (Rc.cells r)) rfl (by kernel_rfl) (fun _ _ _ h => h) rfl (fun W hW => take_rec (.tmp 3) rfl g r rfl hW) hS ?_
      simp only [Act.put, List.setIfInBounds_toArray, List.set_cons_zero, List.set_cons_succ]
      refine rnOne 0 rfl (by kernel_rfl) rfl (fun K hK => ?_)
      go_simp
      with_reducible refine (brules_any _).mono ?_
      rintro e w7 ⟨m, rfl, hm, hb⟩
      have M7 := Lib.hid hm
      have R7 := Lib.hid ((R1.out.on (Below.refl w1.heap.size w1).drew).on hb)
      have hS2 := hS.on hb
      clear hS hb hm
      have hS := hS2
      clear hS2
      refine hK.out _ _ hS (fun _ => ?_)
      clear hK K
      try simp only [Act.put, List.setIfInBounds_toArray, List.set_cons_zero, List.set_cons_succ]
      refine rnOne 3 rfl (by kernel_rfl) rfl (fun K hK => ?_)
      have hlk := M7.out.look4
      go_simp
      refine hK.out _ _ hS (fun _ => ?_)
      clear hK K
      try simp only [Act.put, List.setIfInBounds_toArray, List.set_cons_zero, List.set_cons_succ]
      refine tkYes 4 (v := ?_) rfl (by kernel_rfl) (fun _ _ _ h => h) rfl ?_ hS ?_
      rotate_left
      · intro W hW; have hfd := run_bf1; go_simp; (try with_reducible rfl)
      simp only [Act.put, List.setIfInBounds_toArray, List.set_cons_zero, List.set_cons_succ]
      refine rnOne 7 rfl (by kernel_rfl) rfl (fun K hK => ?_)
      have CF := Lib.hid (bact4_any q s ru rv lo ko H _ w7 R7.out.bd r HI.out HK.out HC.out)
      go_simp
      with_reducible refine CF.out.mono ?_
      intro e w8 hp
      obtain ⟨ru8, rv8, lo8, ko8, H8, K8, rfl, hp2, hp3, hp4⟩ := hp
      have P8 := Lib.hid (show BdTurn q lo ko H (Bk.act s r) (.tuple #[]) w7 _ w8 from ⟨ru8, rv8, lo8, ko8, H8, K8, rfl, hp2, hp3, hp4⟩)
      have NB : ¬ BdF q lo ko H g := fun h => by have := H0.out.ltF g h; have := GE.out; omega
      have hS2 : RcAt w8 g r := ⟨(hp3.block g hS.cs.lt NB).trans hS.row⟩
      clear hS hp2 hp3 hp4 NB
      have hS := hS2
      clear hS2
      refine hK.out _ _ hS (fun _ => ?_)
      clear hK K
      try simp only [Act.put, List.setIfInBounds_toArray, List.set_cons_zero, List.set_cons_succ]
      refine wpAnyH_done (by kernel_rfl) ?_ _
      clear hS
      go_wp2_with fail
      go_ret
      rw [AS.out, Bk.app_ok HC.out]
      exact (P8.out.ahead R7.out.b H0.out.ltF).ret _
    · have HK := Lib.hid hk
      clear hk
      refine wp_region_held_drew (S := fun W => RcAt W g r) (by kernel_rfl) (R1.out.rc.on (Below.refl w1.heap.size w1).drew) (fun hS => ?_)
      refine tkYes 1 (v := ?_) rfl (by kernel_rfl) (fun _ _ _ h => h) rfl ?_ hS ?_
      rotate_left
      · intro W hW; go_simp; (try with_reducible rfl)
      simp only [Act.put, List.setIfInBounds_toArray, List.set_cons_zero, List.set_cons_succ]
      refine tkYes 2 (v := ?_) rfl (by kernel_rfl) (fun _ _ _ h => h) rfl ?_ hS ?_
      rotate_left
      · intro W hW; have c0 := (RcAt.cs hW).c0; rw [HK.out] at c0; have lg := (RcAt.cs hW).lt; go_simp; (try with_reducible rfl)
      simp only [Act.put, List.setIfInBounds_toArray, List.set_cons_zero, List.set_cons_succ]
      refine tkYes 5 (v := ?_) rfl (by kernel_rfl) (fun _ _ _ h => h) rfl ?_ hS ?_
      rotate_left
      · intro W hW; go_simp; (try with_reducible rfl)
      simp only [Act.put, List.setIfInBounds_toArray, List.set_cons_zero, List.set_cons_succ]
      refine tkYes 6 (v := .agg (Rc.cells r)) rfl (by kernel_rfl) (fun _ _ _ h => h) rfl (fun W hW => take_rec (.tmp 3) rfl g r rfl hW) hS ?_
      simp only [Act.put, List.setIfInBounds_toArray, List.set_cons_zero, List.set_cons_succ]
      refine rnOne 0 rfl (by kernel_rfl) rfl (fun K hK => ?_)
      go_simp
      with_reducible refine (brules_any _).mono ?_
      rintro e w7 ⟨m, rfl, hm, hb⟩
      have M7 := Lib.hid hm
      have R7 := Lib.hid ((R1.out.on (Below.refl w1.heap.size w1).drew).on hb)
      have hS2 := hS.on hb
      clear hS hb hm
      have hS := hS2
      clear hS2
      refine hK.out _ _ hS (fun _ => ?_)
      clear hK K
      try simp only [Act.put, List.setIfInBounds_toArray, List.set_cons_zero, List.set_cons_succ]
      refine rnOne 3 rfl (by kernel_rfl) rfl (fun K hK => ?_)
      have hlk := M7.out.look5
      go_simp
      refine hK.out _ _ hS (fun _ => ?_)
      clear hK K
      try simp only [Act.put, List.setIfInBounds_toArray, List.set_cons_zero, List.set_cons_succ]
      refine tkYes 4 (v := ?_) rfl (by kernel_rfl) (fun _ _ _ h => h) rfl ?_ hS ?_
      rotate_left
      · intro W hW; have hfd := run_bf1; go_simp; (try with_reducible rfl)
      simp only [Act.put, List.setIfInBounds_toArray, List.set_cons_zero, List.set_cons_succ]
      refine rnOne 7 rfl (by kernel_rfl) rfl (fun K hK => ?_)
      have CF := Lib.hid (bact5_any q s ru rv lo ko H _ w7 R7.out.bd r HI.out HK.out HC.out)
      go_simp
      with_reducible refine CF.out.mono ?_
      intro e w8 hp
      obtain ⟨ru8, rv8, lo8, ko8, H8, K8, rfl, hp2, hp3, hp4⟩ := hp
      have P8 := Lib.hid (show BdTurn q lo ko H (Bk.act s r) (.tuple #[]) w7 _ w8 from ⟨ru8, rv8, lo8, ko8, H8, K8, rfl, hp2, hp3, hp4⟩)
      have NB : ¬ BdF q lo ko H g := fun h => by have := H0.out.ltF g h; have := GE.out; omega
      have hS2 : RcAt w8 g r := ⟨(hp3.block g hS.cs.lt NB).trans hS.row⟩
      clear hS hp2 hp3 hp4 NB
      have hS := hS2
      clear hS2
      refine hK.out _ _ hS (fun _ => ?_)
      clear hK K
      try simp only [Act.put, List.setIfInBounds_toArray, List.set_cons_zero, List.set_cons_succ]
      refine wpAnyH_done (by kernel_rfl) ?_ _
      clear hS
      go_wp2_with fail
      go_ret
      rw [AS.out, Bk.app_ok HC.out]
      exact (P8.out.ahead R7.out.b H0.out.ltF).ret _
    · have HK := Lib.hid hk
      clear hk
      refine wp_region_held_drew (S := fun W => RcAt W g r) (by kernel_rfl) (R1.out.rc.on (Below.refl w1.heap.size w1).drew) (fun hS => ?_)
      refine tkYes 1 (v := ?_) rfl (by kernel_rfl) (fun _ _ _ h => h) rfl ?_ hS ?_
      rotate_left
      · intro W hW; go_simp; (try with_reducible rfl)
      simp only [Act.put, List.setIfInBounds_toArray, List.set_cons_zero, List.set_cons_succ]
      refine tkYes 2 (v := ?_) rfl (by kernel_rfl) (fun _ _ _ h => h) rfl ?_ hS ?_
      rotate_left
      · intro W hW; have c0 := (RcAt.cs hW).c0; rw [HK.out] at c0; have lg := (RcAt.cs hW).lt; go_simp; (try with_reducible rfl)
      simp only [Act.put, List.setIfInBounds_toArray, List.set_cons_zero, List.set_cons_succ]
      refine tkYes 5 (v := ?_) rfl (by kernel_rfl) (fun _ _ _ h => h) rfl ?_ hS ?_
      rotate_left
      · intro W hW; go_simp; (try with_reducible rfl)
      simp only [Act.put, List.setIfInBounds_toArray, List.set_cons_zero, List.set_cons_succ]
      refine tkYes 6 (v := .agg (Rc.cells r)) rfl (by kernel_rfl) (fun _ _ _ h => h) rfl (fun W hW => take_rec (.tmp 3) rfl g r rfl hW) hS ?_
      simp only [Act.put, List.setIfInBounds_toArray, List.set_cons_zero, List.set_cons_succ]
      refine rnOne 0 rfl (by kernel_rfl) rfl (fun K hK => ?_)
      go_simp
      with_reducible refine (brules_any _).mono ?_
      rintro e w7 ⟨m, rfl, hm, hb⟩
      have M7 := Lib.hid hm
      have R7 := Lib.hid ((R1.out.on (Below.refl w1.heap.size w1).drew).on hb)
      have hS2 := hS.on hb
      clear hS hb hm
      have hS := hS2
      clear hS2
      refine hK.out _ _ hS (fun _ => ?_)
      clear hK K
      try simp only [Act.put, List.setIfInBounds_toArray, List.set_cons_zero, List.set_cons_succ]
      refine rnOne 3 rfl (by kernel_rfl) rfl (fun K hK => ?_)
      have hlk := M7.out.look6
      go_simp
      refine hK.out _ _ hS (fun _ => ?_)
      clear hK K
      try simp only [Act.put, List.setIfInBounds_toArray, List.set_cons_zero, List.set_cons_succ]
      refine tkYes 4 (v := ?_) rfl (by kernel_rfl) (fun _ _ _ h => h) rfl ?_ hS ?_
      rotate_left
      · intro W hW; have hfd := run_bf1; go_simp; (try with_reducible rfl)
      simp only [Act.put, List.setIfInBounds_toArray, List.set_cons_zero, List.set_cons_succ]
      refine rnOne 7 rfl (by kernel_rfl) rfl (fun K hK => ?_)
      have CF := Lib.hid (bact6_any q s ru rv lo ko H _ w7 R7.out.bd r HI.out HK.out HC.out)
      go_simp
      with_reducible refine CF.out.mono ?_
      intro e w8 hp
      obtain ⟨ru8, rv8, lo8, ko8, H8, K8, rfl, hp2, hp3, hp4⟩ := hp
      have P8 := Lib.hid (show BdTurn q lo ko H (Bk.act s r) (.tuple #[]) w7 _ w8 from ⟨ru8, rv8, lo8, ko8, H8, K8, rfl, hp2, hp3, hp4⟩)
      have NB : ¬ BdF q lo ko H g := fun h => by have := H0.out.ltF g h; have := GE.out; omega
      have hS2 : RcAt w8 g r := ⟨(hp3.block g hS.cs.lt NB).trans hS.row⟩
      clear hS hp2 hp3 hp4 NB
      have hS := hS2
      clear hS2
      refine hK.out _ _ hS (fun _ => ?_)
      clear hK K
      try simp only [Act.put, List.setIfInBounds_toArray, List.set_cons_zero, List.set_cons_succ]
      refine wpAnyH_done (by kernel_rfl) ?_ _
      clear hS
      go_wp2_with fail
      go_ret
      rw [AS.out, Bk.app_ok HC.out]
      exact (P8.out.ahead R7.out.b H0.out.ltF).ret _
    · have HK := Lib.hid hk
      clear hk
      refine wp_region_held_drew (S := fun W => RcAt W g r) (by kernel_rfl) (R1.out.rc.on (Below.refl w1.heap.size w1).drew) (fun hS => ?_)
      refine tkYes 1 (v := ?_) rfl (by kernel_rfl) (fun _ _ _ h => h) rfl ?_ hS ?_
      rotate_left
      · intro W hW; go_simp; (try with_reducible rfl)
      simp only [Act.put, List.setIfInBounds_toArray, List.set_cons_zero, List.set_cons_succ]
      refine tkYes 2 (v := ?_) rfl (by kernel_rfl) (fun _ _ _ h => h) rfl ?_ hS ?_
      rotate_left
      · intro W hW; have c0 := (RcAt.cs hW).c0; rw [HK.out] at c0; have lg := (RcAt.cs hW).lt; go_simp; (try with_reducible rfl)
      simp only [Act.put, List.setIfInBounds_toArray, List.set_cons_zero, List.set_cons_succ]
      refine tkYes 5 (v := ?_) rfl (by kernel_rfl) (fun _ _ _ h => h) rfl ?_ hS ?_
      rotate_left
      · intro W hW; go_simp; (try with_reducible rfl)
      simp only [Act.put, List.setIfInBounds_toArray, List.set_cons_zero, List.set_cons_succ]
      refine tkYes 6 (v := .agg (Rc.cells r)) rfl (by kernel_rfl) (fun _ _ _ h => h) rfl (fun W hW => take_rec (.tmp 3) rfl g r rfl hW) hS ?_
      simp only [Act.put, List.setIfInBounds_toArray, List.set_cons_zero, List.set_cons_succ]
      refine rnOne 0 rfl (by kernel_rfl) rfl (fun K hK => ?_)
      go_simp
      with_reducible refine (brules_any _).mono ?_
      rintro e w7 ⟨m, rfl, hm, hb⟩
      have M7 := Lib.hid hm
      have R7 := Lib.hid ((R1.out.on (Below.refl w1.heap.size w1).drew).on hb)
      have hS2 := hS.on hb
      clear hS hb hm
      have hS := hS2
      clear hS2
      refine hK.out _ _ hS (fun _ => ?_)
      clear hK K
      try simp only [Act.put, List.setIfInBounds_toArray, List.set_cons_zero, List.set_cons_succ]
      refine rnOne 3 rfl (by kernel_rfl) rfl (fun K hK => ?_)
      have hlk := M7.out.look7
      go_simp
      refine hK.out _ _ hS (fun _ => ?_)
      clear hK K
      try simp only [Act.put, List.setIfInBounds_toArray, List.set_cons_zero, List.set_cons_succ]
      refine tkYes 4 (v := ?_) rfl (by kernel_rfl) (fun _ _ _ h => h) rfl ?_ hS ?_
      rotate_left
      · intro W hW; have hfd := run_bf1; go_simp; (try with_reducible rfl)
      simp only [Act.put, List.setIfInBounds_toArray, List.set_cons_zero, List.set_cons_succ]
      refine rnOne 7 rfl (by kernel_rfl) rfl (fun K hK => ?_)
      have CF := Lib.hid (bact7_any q s ru rv lo ko H _ w7 R7.out.bd r HI.out HK.out HC.out)
      go_simp
      with_reducible refine CF.out.mono ?_
      intro e w8 hp
      obtain ⟨ru8, rv8, lo8, ko8, H8, K8, rfl, hp2, hp3, hp4⟩ := hp
      have P8 := Lib.hid (show BdTurn q lo ko H (Bk.act s r) (.tuple #[]) w7 _ w8 from ⟨ru8, rv8, lo8, ko8, H8, K8, rfl, hp2, hp3, hp4⟩)
      have NB : ¬ BdF q lo ko H g := fun h => by have := H0.out.ltF g h; have := GE.out; omega
      have hS2 : RcAt w8 g r := ⟨(hp3.block g hS.cs.lt NB).trans hS.row⟩
      clear hS hp2 hp3 hp4 NB
      have hS := hS2
      clear hS2
      refine hK.out _ _ hS (fun _ => ?_)
      clear hK K
      try simp only [Act.put, List.setIfInBounds_toArray, List.set_cons_zero, List.set_cons_succ]
      refine wpAnyH_done (by kernel_rfl) ?_ _
      clear hS
      go_wp2_with fail
      go_ret
      rw [AS.out, Bk.app_ok HC.out]
      exact (P8.out.ahead R7.out.b H0.out.ltF).ret _
  · have hc2 : (ans != 0) = true := by simpa using hc
    have HC : Hid (Bk.chk s r ≠ 0) := by show _ ≠ _; rw [← AN.out]; exact hc
    clear hc
    go_wp2_with (first
      | ((with_reducible show wpList _ _ _ ({ dst := some 7, op := .load _ _, type := _, pos := _, after := _, guard := _ } :: _) _ _); refine wpList_load_row rfl 53 (.tmp 3) rfl g rfl 53 _ (0, 0) _ R0.out.rc.row rec_fields rfl (rec_size r) ?_)
      | (go_at_call 27; (with_reducible refine CC.out.mono ?_); rintro e w1 ⟨rfl, hb⟩; have R1 := Lib.hid (R0.out.on hb); clear hb))
    go_ret
    rw [AS.out, Bk.app_no HC.out]
    exact BdTurn.stay H0.out R1.out.b _
end Go.Proofs.YtnacjhnfkkddcaaGreatDoor
namespace Go.Proofs.YtnacjhnfkkddcaaGreatDoor
open Go.RowKit Go.Deep Go.Maps
set_option maxRecDepth 100000
set_option linter.unusedSimpArgs false
set_option linter.unusedVariables false
def Bd.ru0 : Nat → Bk.Un := fun _ => ⟨0, 0, false⟩
theorem new_bd (w : World) (m : Int) (q : Nat) (hat : BdAt w q (Bk.new m) Bd.ru0 0 (.map none) (.map none) (.slice none 0 0)) : BdIs w q (Bk.new m) Bd.ru0 0 none none (.slice none 0 0) Kv.St.none where
  at_ := hat
  ls := ⟨fun _ => rfl, rfl⟩
  kv := rfl
  kg := Kv.Good.none_
  kr := rfl
  kb := Int.le_refl _
  dg := Bd.none_digs
  raw := Bd.new_raw
  h := OwF.none_ _ _ _
  lk := fun m e => by cases e
  lok := ⟨Bk.new_ok m, fun h => absurd rfl h⟩
theorem bnew_any (m : Int) (w : World) : Calls Tryz.prog 20 #[.int .i64 m] w (fun e w' => ∃ q, e = .returned (.pointer (some ⟨q, 0, none⟩)) ∧ BdIs w' q (Bk.new m) Bd.ru0 0 none none (.slice none 0 0) Kv.St.none ∧ w.heap.size ≤ q ∧ Below w.heap.size w w') := by
  have C := Lib.hid (lsnew_any w m)
  generalize hmm : (Ls.new m).margin = mm at *
  have HM := Lib.hid hmm
  clear hmm
  go_enter Tryz.func20, Tryz.ntmps20
  go_wp2_with (go_at_call 37; (with_reducible refine C.out.mono ?_); rintro e w1 ⟨rfl, hi, hb⟩; have B1 := Lib.hid hb; obtain ⟨c0, c1, f1, hq⟩ := hi.cells; rw [HM.out] at c0; clear hi hb)
  go_ret
  refine ⟨w1.heap.size, rfl, new_bd _ m _ ⟨?_⟩, B1.out.size, B1.out.trans (((Below.refl w1.heap.size w1).alloc (Nat.le_refl _) _).mono B1.out.size)⟩
  have e : (Bk.new m).m = mm := HM.out
  unfold Bd.cells
  rw [e]
  exact heap_alloc_new w1 _
theorem own_none {T : Type} {enc : T → List Value} {k : Nat} {e : TypeId} (w : World) : OwF enc k e (w.alloc (.cells #[] e)) w.heap.size (.slice (some ⟨w.heap.size, 0, none⟩) 0 0) [] := ⟨by simp, .inr ⟨w.heap.size, 0, #[], rfl, Nat.le_refl _, heap_alloc_new w _, Nat.le_refl _, Nat.zero_le _, by simp, by simp⟩⟩
theorem slnil {T : Type} {enc : T → List Value} {w : World} {n c : Nat} {l : List T} (h : SlF enc w none n c l) : l = [] ∧ n = 0 ∧ c = 0 := by
  have h0 := h.nil rfl
  have h1 := h.cap
  have h2 := h.len
  exact ⟨List.eq_nil_of_length_eq_zero (by omega), by omega, h0⟩
theorem unC_len (u : Bk.Un) : (Bk.unC u).length = 3 := rfl
theorem unC_one (u : Bk.Un) : ∀ x ∈ Bk.unC u, x.oneCell' = true := by intro x hx; simp [Bk.unC] at hx; rcases hx with rfl | rfl | rfl <;> rfl
theorem bclone_rec (w : World) (A : Option Addr) (n c : Nat) (l : List Rc.R) (hs : SlF Bk.rcC w A n c l) (hn : n ≤ 1000) : Calls Tryz.prog 47 #[.slice A n c] w (BList Bk.rcC l w) := by
  have hl := hs.len
  have hcap := hs.cap
  have hmax := hs.max
  have hc63 : (c : Int) ≤ 9223372036854775807 := by unfold maxLen at hmax; omega
  have hnil := fun W a n c => Lib.run_eql_slice_nil (P := Tryz.prog) W 22 53 a n c 0 0 Tryz.underlying22
  cases A with
  | none =>
    obtain ⟨rfl, rfl, rfl⟩ := slnil hs
    clear hl hcap hmax hc63 hs hn
    go_enter Tryz.func47, Tryz.ntmps47
    go_wp2_with fail
    go_ret
    exact ⟨none, 0, rfl, SlF.none_ w, Below.refl _ _, fun b o e => by cases e⟩
  | some ad =>
    have O0 := Lib.hid (own_none (enc := Bk.rcC) (k := 18) (e := 53) w)
    have hb1 : Below w.heap.size w (w.alloc (.cells #[] 53)) := (Below.refl _ _).alloc (Nat.le_refl _) _
    have S1 := Lib.hid (hs.on hb1)
    have B1 := Lib.hid hb1
    have HN := Lib.hid hn
    have HL := Lib.hid hl
    clear hs hn hl hb1 hmax
    go_enter Tryz.func47, Tryz.ntmps47
    go_upto_region 3 with fail
    go_wp2_with (at_builtin; refine wpList_append_all Bk.rcC_len Bk.rcC_one Tryz.underlying22 rc_info rfl (by omega) rfl (.tmp 5) (.tmp 6) rfl w.heap.size _ [] l rfl O0.out rfl S1.out (by have := HN.out; have := HL.out; simp; unfold maxLen; omega) (by have := HN.out; have := HL.out; simp; omega) (by have := B1.out.size; omega) ?_; intro v1 w1 ho1 hb1 _ _; have O1 := Lib.hid ho1; have B2 := Lib.hid hb1; clear ho1 hb1)
    go_ret
    obtain ⟨A9, c9, hf⟩ := O1.out.form
    have ho := O1.out
    rw [hf] at ho ⊢
    rw [List.nil_append] at ho
    refine ⟨A9, c9, rfl, ho.sl, B1.out.trans B2.out, fun b o e => ?_⟩
    subst e
    exact (ho.lt b rfl).1
theorem bview_any (q : Nat) (s : Bk.St) (ru : Nat → Bk.Un) (rv : Int) (lo ko : Option Nat) (H : Value) (K : Kv.St) (w : World) (h : BdIs w q s ru rv lo ko H K) : Calls Tryz.prog 21 #[.pointer (some ⟨q, 0, none⟩)] w (BRet (.agg (Bk.viewC s)) w) := by
  have A0 := Lib.hid h.at_
  clear h
  go_enter Tryz.func21, Tryz.ntmps21
  have lq := A0.out.lt
  have hb1 : Below w.heap.size w (w.alloc (.cells #[.int .i64 0, .int .i64 0, .int .i64 0, .int .i64 0, .int .i64 0, .int .i64 0, .int .i64 0, .int .i64 0, .int .i64 0, .int .i64 0, .int .i64 0, .int .i64 0, .int .i64 0, .int .i64 0, .int .i64 0, .int .i64 0, .int .i64 0, .int .i64 0, .int .i64 0, .int .i64 0, .int .i64 0, .int .i64 0] 48)) := (Below.refl _ _).alloc (Nat.le_refl _) _
  have A1 := Lib.hid (A0.out.on hb1)
  have R1 := heap_alloc_new w (.cells #[.int .i64 0, .int .i64 0, .int .i64 0, .int .i64 0, .int .i64 0, .int .i64 0, .int .i64 0, .int .i64 0, .int .i64 0, .int .i64 0, .int .i64 0, .int .i64 0, .int .i64 0, .int .i64 0, .int .i64 0, .int .i64 0, .int .i64 0, .int .i64 0, .int .i64 0, .int .i64 0, .int .i64 0, .int .i64 0] 48)
  go_upto_region 3 with fail
  have B1 := Lib.hid hb1
  obtain ⟨g, hg⟩ : ∃ g, g = w.heap.size := ⟨_, rfl⟩
  rw [← hg] at R1 ⊢
  clear hb1 lq
  have GE : Hid (w.heap.size ≤ g) := Nat.le_of_eq hg.symm
  clear hg
  have lq := A1.out.lt
  generalize w.alloc (.cells #[.int .i64 0, .int .i64 0, .int .i64 0, .int .i64 0, .int .i64 0, .int .i64 0, .int .i64 0, .int .i64 0, .int .i64 0, .int .i64 0, .int .i64 0, .int .i64 0, .int .i64 0, .int .i64 0, .int .i64 0, .int .i64 0, .int .i64 0, .int .i64 0, .int .i64 0, .int .i64 0, .int .i64 0, .int .i64 0] 48) = W1 at *
  go_wp2_with (first
    | ((with_reducible show wpList _ _ _ ({ dst := some 9, op := .load _ _, type := _, pos := _, after := _, guard := _ } :: _) _ _); refine wpList_load_mid rfl 48 (.tmp 8) rfl q 4 rfl (Bk.viewC s).toList _ (view_range A1.out) view_fields rfl (view_size s) ?_)
    | ((with_reducible show wpList _ _ _ ({ dst := none, op := .store _ _ _, type := _, pos := _, after := _, guard := _ } :: _) _ _); refine wpList_store_view (s := s) rfl (.tmp 2) (.tmp 9) rfl rfl rfl R1 rfl ?_))
  exact bodyPost_ret (v := .agg (Bk.viewC s)) (results_cell_row (P := Tryz.prog) Tryz.results21 _ _ g 48 (Bk.viewC s) (0, 0) _ rfl (setRow_heap W1 g _ _ _ _ R1) view_fields rfl (view_size2 s)) rfl ⟨rfl, below_setRow B1.out GE.out _⟩
theorem bhist_any (q : Nat) (s : Bk.St) (ru : Nat → Bk.Un) (rv : Int) (lo ko : Option Nat) (H : Value) (K : Kv.St) (w : World) (h : BdIs w q s ru rv lo ko H K) : Calls Tryz.prog 26 #[.pointer (some ⟨q, 0, none⟩)] w (BList Bk.rcC s.h w) := by
  have A0 := Lib.hid h.at_
  have H0 := Lib.hid h
  obtain ⟨A, c, hH⟩ := h.form
  have b74 := A0.out.cs.c74
  rw [hH] at b74
  have lq := A0.out.lt
  have hs := h.h
  rw [hH] at hs
  have CC := Lib.hid (bclone_rec w A s.h.length c s.h hs.sl (by have := h.lok.ok.hl; omega))
  clear h hH hs
  generalize s.h.length = n at b74 CC
  go_enter Tryz.func26, Tryz.ntmps26
  go_wp2_with (go_at_call 47; (with_reducible refine CC.out.mono ?_); rintro e w1 hp; obtain ⟨A9, c9, rfl, p1, p2, p3⟩ := hp; have P1 := Lib.hid p1; have P2 := Lib.hid p2; have P3 := Lib.hid p3; clear p1 p2 p3)
  go_ret
  exact ⟨A9, c9, rfl, P1.out, P2.out, P3.out⟩
end Go.Proofs.YtnacjhnfkkddcaaGreatDoor
namespace Go.Proofs.YtnacjhnfkkddcaaGreatDoor
open Go.RowKit Go.Deep Go.Maps
set_option maxRecDepth 100000
set_option linter.unusedSimpArgs false
set_option linter.unusedVariables false
theorem bdp_keep {w w' : World} {X : Nat → Prop} {q : Nat} {s : Bk.St} (h : BdP w X q s) (hz : w.heap.size ≤ w'.heap.size) (hk : ∀ i, X i → w'.heap[i]? = w.heap[i]?) : BdP w' X q s := by
  obtain ⟨ru, rv, lo, ko, H, K, h1, h2, h3⟩ := h
  exact ⟨ru, rv, lo, ko, H, K, h1.keep (hk _ (h2 _ (.inl rfl))) (fun m e => hk _ (h2 _ (.inr (.inl e)))) (fun m e => hk _ (h2 _ (.inr (.inr (.inl e))))) (fun m e => hk _ (h2 _ (.inr (.inr (.inr e))))), h2, fun i hi => Nat.lt_of_lt_of_le (h3 i hi) hz⟩
theorem bdp_lt {w : World} {X : Nat → Prop} {q : Nat} {s : Bk.St} (h : BdP w X q s) : ∀ i, X i → i < w.heap.size := by
  obtain ⟨ru, rv, lo, ko, H, K, h1, h2, h3⟩ := h
  exact h3
theorem bdp_below {w w' : World} {X : Nat → Prop} {q : Nat} {s : Bk.St} (h : BdP w X q s) (hb : Below w.heap.size w w') : BdP w' X q s := bdp_keep h hb.size fun i hi => hb.block i (bdp_lt h i hi)
theorem bdp_apply {W : World} {X : Nat → Prop} {q : Nat} {s : Bk.St} (h : BdP W X q s) (ht : BT W) (r : Rc.R) (hr : Rc.In r) : Calls Tryz.prog 22 #[.pointer (some ⟨q, 0, none⟩), .agg (Rc.cells r)] W (BTurn BdP X q (Bk.app s r) (.int .i64 (Bk.chk s r)) W) := by
  obtain ⟨ru, rv, lo, ko, H, K, h1, h2, h3⟩ := h
  exact (bapply_any q s ru rv lo ko H K W h1 ht r hr).mono fun e w' hp => hp.turn h2 h3
structure DA (w0 : World) (q : Nat) (s : Bk.St) (W : World) : Prop where
  bd : ∃ X, BdP W X q s ∧ ∀ i, X i → w0.heap.size ≤ i
  below : Below w0.heap.size w0 W
theorem DA.on {w0 W W' : World} {q : Nat} {s : Bk.St} (h : DA w0 q s W) (hb : Below W.heap.size W W') : DA w0 q s W' := by
  obtain ⟨X, h1, h2⟩ := h.bd
  exact ⟨⟨X, bdp_below h1 hb, h2⟩, h.below.trans (hb.mono h.below.size)⟩
theorem DA.app {w0 W : World} {q : Nat} {s : Bk.St} (h : DA w0 q s W) (ht : BT W) (r : Rc.R) (hr : Rc.In r) : Calls Tryz.prog 22 #[.pointer (some ⟨q, 0, none⟩), .agg (Rc.cells r)] W (fun e w' => e = .returned (.int .i64 (Bk.chk s r)) ∧ DA w0 q (Bk.app s r) w') := by
  obtain ⟨X, h1, h2⟩ := h.bd
  refine (bdp_apply h1 ht r hr).mono fun e w' hp => ?_
  obtain ⟨X', e1, e2, e3, e4⟩ := hp
  refine ⟨e1, ⟨X', e2, fun i hi => ?_⟩, h.below.trans (e4.below h.below.size h2)⟩
  rcases e3 i hi with h5 | h5
  · exact h2 i h5
  · exact Nat.le_trans h.below.size h5
theorem DA.new (w : World) (m : Int) : Calls Tryz.prog 20 #[.int .i64 m] w (fun e w' => ∃ q, e = .returned (.pointer (some ⟨q, 0, none⟩)) ∧ DA w q (Bk.new m) w') := by
  refine (bnew_any m w).mono fun e w' hp => ?_
  obtain ⟨q, rfl, h1, h2, h3⟩ := hp
  refine ⟨q, rfl, ⟨BdF q none none (.slice none 0 0), ⟨_, _, _, _, _, _, h1, fun i hi => hi, h1.ltF⟩, fun i hi => ?_⟩, h3⟩
  rcases hi with rfl | e | e | e
  · exact h2
  · cases e
  · cases e
  · cases e
set_option maxHeartbeats 3200000 in
theorem ball_any (m : Int) (A : Option Addr) (k c : Nat) (l : List Rc.R) (hin : ∀ r ∈ l, Rc.In r) (w : World) (hs : SlF Bk.rcC w A k c l) (hk : k ≤ 100000) (ht : BT w) : Calls Tryz.prog 14 #[.int .i64 m, .slice A k c] w (BMade BdP (Bk.all m l) (fun p => .tuple #[p, .int .i64 (Bk.allN m l : Nat)]) w) := by
  have CN := Lib.hid (DA.new w m)
  have S0 := Lib.hid hs
  have HI := Lib.hid hin
  have HL := Lib.hid hs.len
  have T0 := Lib.hid ht
  have hcap := hs.cap
  clear hs hin ht
  go_enter Tryz.func14, Tryz.ntmps14
  go_upto_region 2 with (go_at_call 20; (with_reducible refine CN.out.mono ?_); rintro e w1 ⟨q, rfl, hd⟩; have D1 := Lib.hid hd; clear hd)
  go_wp2_with fail
  go_loopw [7, 14] (fun v i wr => ∃ j : Nat, j ≤ k ∧ i = .int .i64 j ∧ v = .int .i64 (Bk.cnt (Bk.new m) (l.take j) : Nat) ∧ DA w q (Bk.run (Bk.new m) (l.take j)) wr) (fun _ i _ => k - (intOf i).toNat)
  case atStart => exact ⟨0, Nat.zero_le _, rfl, rfl, D1.out⟩
  case round =>
    obtain ⟨j, hj, rfl, rfl, hd⟩ := hrel
    have D := Lib.hid hd
    clear hd
    have i1 : (0 : Int) ≤ (j : Int) := by omega
    by_cases hlt : j < k
    · have hx : l[j]? = some (l[j]'(by have := HL.out; omega)) := List.getElem?_eq_getElem _
      have HT := Lib.hid (Bk.take_run (Bk.new m) l (k := j) (by have := HL.out; omega))
      generalize l[j]'(by have := HL.out; omega) = r at hx HT
      have HR : Hid (Rc.In r) := HI.out r (List.mem_of_getElem? hx)
      have cl : (Bk.cnt (Bk.new m) (l.take j) : Int) ≤ 100000 := by
        have := Bk.cnt_le (Bk.new m) (l.take j)
        rw [List.length_take] at this
        omega
      have cl0 : (0 : Int) ≤ (Bk.cnt (Bk.new m) (l.take j) : Int) := by omega
      have S1 := Lib.hid (S0.out.on D.out.below)
      have q1 : ((j : Nat) : Int) < (k : Nat) := by omega
      have q2 : ((k : Nat) : Int) ≤ 100000 := by omega
      have HLT := Lib.hid hlt
      obtain ⟨b, o, rfl, hbl, hrg⟩ := rc_range S1.out hx
      have RG := Lib.hid hrg
      clear hx hrg hlt
      generalize Bk.run (Bk.new m) (l.take j) = s at *
      generalize Bk.cnt (Bk.new m) (l.take j) = cn at *
      go_upto_region 5 with (first
        | ((with_reducible show wpList _ _ _ ({ dst := some 17, op := .load _ _, type := _, pos := _, after := _, guard := _ } :: _) _ _); refine wpList_load_rcm rfl (.tmp 16) rfl b (o + j * 18) (by simp [Act.eval, go_sem]) r RG.out ?_)
        | ((with_reducible show wpList _ _ _ ({ dst := none, op := .store _ _ _, type := _, pos := _, after := _, guard := _ } :: _) _ _); refine wpList_store_rec rfl (.tmp 9) (.tmp 17) rfl wr.heap.size r Rc.none_ rfl rfl ⟨heap_alloc_new wr _⟩ ?_))
      rw [World.setRow_alloc_new]
      have RA := Lib.hid (RcAt.new wr r)
      have hb : Below wr.heap.size wr (wr.alloc (.cells (Rc.cells r) 53)) := (Below.refl _ _).alloc (Nat.le_refl _) _
      have D2 := Lib.hid (D.out.on hb)
      clear RG S1
      obtain ⟨g, hg⟩ : ∃ g, g = wr.heap.size := ⟨_, rfl⟩
      rw [← hg] at RA ⊢
      clear hg hb
      generalize wr.alloc (.cells (Rc.cells r) 53) = w2 at *
      have CP := Lib.hid (D2.out.app (T0.out.on D2.out.below) r HR.out)
      have CK : Hid (Bk.chk s r = 0 ∨ Bk.chk s r ≠ 0) := Decidable.em _
      have HC : Hid (∃ z, z = Bk.chk s r) := ⟨_, rfl⟩
      obtain ⟨z, hz⟩ := HC.out
      rw [← hz] at CP HT CK
      have HZ := Lib.hid hz
      clear hz HC
      rcases CK.out with h0 | h0
      · have q3 : (z == 0) = true := by simpa using h0
        have E1 := Lib.hid (HT.out.2.trans (by rw [if_pos h0]))
        clear h0
        go_wp2_with (first
          | ((with_reducible show wpList _ _ _ ({ dst := some 19, op := .load _ _, type := _, pos := _, after := _, guard := _ } :: _) _ _); refine wpList_load_row rfl 53 (.tmp 9) rfl g rfl 53 _ (0, 0) _ RA.out.row rec_fields rfl (rec_size r) ?_)
          | (go_at_call 22; (with_reducible refine CP.out.mono ?_); rintro e w3 ⟨rfl, hd⟩; have D3 := Lib.hid hd; clear hd))
        exact ⟨⟨j + 1, by have := HLT.out; omega, by go_num, by rw [E1.out]; go_num, by rw [HT.out.1]; exact D3.out⟩, by simp [intOf]; have := HLT.out; omega⟩
      · have q3 : (z == 0) = false := by simpa using h0
        have E1 := Lib.hid (HT.out.2.trans (by rw [if_neg h0]))
        clear h0
        go_wp2_with (first
          | ((with_reducible show wpList _ _ _ ({ dst := some 19, op := .load _ _, type := _, pos := _, after := _, guard := _ } :: _) _ _); refine wpList_load_row rfl 53 (.tmp 9) rfl g rfl 53 _ (0, 0) _ RA.out.row rec_fields rfl (rec_size r) ?_)
          | (go_at_call 22; (with_reducible refine CP.out.mono ?_); rintro e w3 ⟨rfl, hd⟩; have D3 := Lib.hid hd; clear hd))
        exact ⟨⟨j + 1, by have := HLT.out; omega, by go_num, by rw [E1.out]; go_num, by rw [HT.out.1]; exact D3.out⟩, by simp [intOf]; have := HLT.out; omega⟩
    · have q1 : ((k : Nat) : Int) ≤ (j : Nat) := by omega
      have e : l.take j = l := List.take_of_length_le (by have := HL.out; omega)
      rw [e] at D ⊢
      go_wp2_with fail
      go_ret2
      obtain ⟨⟨X, h1, h2⟩, h3⟩ := D.out
      exact ⟨q, X, rfl, h1, h2, h3⟩
end Go.Proofs.YtnacjhnfkkddcaaGreatDoor
namespace Go.Proofs.YtnacjhnfkkddcaaGreatDoor
open Go.RowKit Go.Deep Go.Maps
set_option maxRecDepth 100000
set_option linter.unusedSimpArgs false
set_option linter.unusedVariables false
def Bd.mix (ru : Nat → Bk.Un) (j : Nat) : List Bk.Un := (List.range 16).map fun i => if i < j then Bd.told (ru i) else ru i
theorem mix_units {ru : Nat → Bk.Un} {s : Bk.St} (h : Bd.Raw ru s.us) : Bd.mix ru 16 = Bk.units s := by
  unfold Bd.mix Bk.units
  refine List.map_congr_left fun i hi => ?_
  rw [if_pos (List.mem_range.1 hi), (h i (List.mem_range.1 hi)).1]
theorem mix_set (ru : Nat → Bk.Un) {j : Nat} (hj : j < 16) : ((Bd.mix ru j).flatMap Bk.unC).set (j * 3 + 2) (.bool ((ru j).d || decide ((ru j).q = 0))) = (Bd.mix ru (j + 1)).flatMap Bk.unC := by
  rcases j with _ | _ | _ | _ | _ | _ | _ | _ | _ | _ | _ | _ | _ | _ | _ | _ | j
  all_goals first | rfl | omega
theorem mix_get (ru : Nat → Bk.Un) {j : Nat} (hj : j < 16) : ((Bd.mix ru j).flatMap Bk.unC)[j * 3]? = some (.int .i64 (ru j).v) ∧ ((Bd.mix ru j).flatMap Bk.unC)[j * 3 + 1]? = some (.int .i64 (ru j).q) ∧ ((Bd.mix ru j).flatMap Bk.unC)[j * 3 + 2]? = some (.bool (ru j).d) := by
  rcases j with _ | _ | _ | _ | _ | _ | _ | _ | _ | _ | _ | _ | _ | _ | _ | _ | j
  all_goals first | exact ⟨rfl, rfl, rfl⟩ | omega
theorem mix_cells {w : World} {q : Nat} {s : Bk.St} {ru : Nat → Bk.Un} {rv : Int} {lm km H : Value} (h : BdAt w q s ru rv lm km H) : SlF Bk.unC w (some ⟨q, 26, none⟩) 16 16 (Bd.mix ru 0) := by
  refine ⟨fun _ => ⟨q, 26, rfl, h.lt, fun j u hj => ?_⟩, rfl, Nat.le_refl _, by unfold maxLen; omega, fun e => by cases e⟩
  have hl : j < 48 := (List.getElem?_eq_some_iff.1 hj).1
  rw [cell_of_row w q _ _ _ _ h.row]
  rcases j with _ | _ | _ | _ | _ | _ | _ | _ | _ | _ | _ | _ | _ | _ | _ | _ | _ | _ | _ | _ | _ | _ | _ | _ | _ | _ | _ | _ | _ | _ | _ | _ | _ | _ | _ | _ | _ | _ | _ | _ | _ | _ | _ | _ | _ | _ | _ | _ | j
  all_goals first | exact hj | omega
theorem bclone_un2 (w : World) (q o : Nat) (l : List Bk.Un) (hs : SlF Bk.unC w (some ⟨q, o, none⟩) 16 16 l) : Calls Tryz.prog 49 #[.slice (some ⟨q, o, none⟩) 16 16] w (fun e w' => ∃ g c, e = .returned (.slice (some ⟨g, 0, none⟩) 16 c) ∧ w'.ownsRow w.heap.size 37 3 (.slice (some ⟨g, 0, none⟩) 16 c) 16 (l.flatMap Bk.unC) ∧ Below w.heap.size w w') := by
  have hl := hs.len
  have hnil := fun W a n c => Lib.run_eql_slice_nil (P := Tryz.prog) W 62 37 a n c 0 0 Tryz.underlying62
  have O0 := Lib.hid (own_none (enc := Bk.unC) (k := 3) (e := 37) w)
  have hb1 : Below w.heap.size w (w.alloc (.cells #[] 37)) := (Below.refl _ _).alloc (Nat.le_refl _) _
  have S1 := Lib.hid (hs.on hb1)
  have B1 := Lib.hid hb1
  have HL := Lib.hid hl
  clear hs hl hb1
  go_enter Tryz.func49, Tryz.ntmps49
  go_upto_region 3 with fail
  go_wp2_with (at_builtin; refine wpList_append_all unC_len unC_one Tryz.underlying62 un_info rfl (by omega) rfl (.tmp 5) (.tmp 6) rfl w.heap.size _ [] l rfl O0.out rfl S1.out (by have := HL.out; simp; unfold maxLen; omega) (by have := HL.out; simp; omega) (by have := B1.out.size; omega) ?_; intro v1 w1 ho1 hb1 _ _; have O1 := Lib.hid ho1; have B2 := Lib.hid hb1; clear ho1 hb1)
  go_ret
  have ho := O1.out
  rw [List.nil_append] at ho
  have h16 := ho
  unfold OwF at h16
  rw [← HL.out] at h16
  obtain ⟨g, c, rfl⟩ := Joins.ownsRow_form h16 (by omega)
  exact ⟨g, c, rfl, h16, B1.out.trans B2.out⟩
set_option maxHeartbeats 3200000 in
theorem bunits_any (q : Nat) (s : Bk.St) (ru : Nat → Bk.Un) (rv : Int) (lo ko : Option Nat) (H : Value) (K : Kv.St) (w : World) (h : BdIs w q s ru rv lo ko H K) : Calls Tryz.prog 28 #[.pointer (some ⟨q, 0, none⟩)] w (BList Bk.unC (Bk.units s) w) := by
  have A0 := Lib.hid h.at_
  have HR := Lib.hid (mix_units h.raw)
  have CC := Lib.hid (bclone_un2 w q 26 _ (mix_cells h.at_))
  have lq := h.lt.1
  clear h
  go_enter Tryz.func28, Tryz.ntmps28
  go_upto_region 3 with fail
  go_wp2_with (go_at_call 49; (with_reducible refine CC.out.mono ?_); rintro e w1 hp; obtain ⟨g, c9, rfl, ho, hb⟩ := hp; have O1 := Lib.hid ho; have B1 := Lib.hid hb; clear ho hb)
  go_loopw [15] (fun i wr => ∃ j : Nat, j ≤ 16 ∧ i = .int .i64 j ∧ wr.ownsRow w.heap.size 37 3 (.slice (some ⟨g, 0, none⟩) 16 c9) 16 ((Bd.mix ru j).flatMap Bk.unC) ∧ Below w.heap.size w wr) (fun i wr => 16 - (intOf i).toNat)
  case atStart => exact ⟨0, Nat.zero_le _, rfl, O1.out, B1.out⟩
  case round =>
    obtain ⟨j, hj, rfl, ho, hbr⟩ := hrel
    have O := Lib.hid ho
    have B := Lib.hid hbr
    clear ho hbr
    have i1 : (0 : Int) ≤ (j : Int) := by omega
    by_cases hlt : j < 16
    · have q1 : ((j : Nat) : Int) < 16 := by omega
      have lg := (O.out.lt g rfl).2
      have lb := (O.out.lt g rfl).1
      have hm := mix_get ru hlt
      have u0 := (O.out.cellAt (j * 3) (by omega)).trans hm.1
      have u1 := (O.out.cellAt (j * 3 + 1) (by omega)).trans hm.2.1
      have u2 := (O.out.cellAt (j * 3 + 2) (by omega)).trans hm.2.2
      have MS := Lib.hid (mix_set ru hlt)
      clear hm
      generalize (ru j).v = uv at *
      generalize (ru j).q = uq at *
      generalize (ru j).d = ud at *
      go_upto_region 7 with fail
      have hb2 : Below wr.heap.size wr (wr.alloc (.cells #[.int .i64 uv, .int .i64 uq, .bool ud] 37)) := (Below.refl _ _).alloc (Nat.le_refl _) _
      have hn : (wr.alloc (.cells #[.int .i64 uv, .int .i64 uq, .bool ud] 37)).heap[wr.heap.size]? = some (.cells #[.int .i64 uv, .int .i64 uq, .bool ud] 37 (0, 0)) := heap_alloc_new wr _
      have B2 := Lib.hid (B.out.trans (hb2.mono B.out.size))
      have O2 := Lib.hid (World.ownsRow.alloc O.out (.cells #[.int .i64 uv, .int .i64 uq, .bool ud] 37))
      have e1 : (wr.alloc (.cells #[.int .i64 uv, .int .i64 uq, .bool ud] 37)).cell? ⟨wr.heap.size, 1, none⟩ = some (.int .i64 uq) := by rw [cell_of_row _ wr.heap.size 1 _ _ _ hn]; rfl
      have e2 : (wr.alloc (.cells #[.int .i64 uv, .int .i64 uq, .bool ud] 37)).cell? ⟨wr.heap.size, 2, none⟩ = some (.bool ud) := by rw [cell_of_row _ wr.heap.size 2 _ _ _ hn]; rfl
      have ec := (World.ownsRow.alloc O.out (.cells #[.int .i64 uv, .int .i64 uq, .bool ud] 37)).cellAt (j * 3 + 2) (by omega)
      have fc := (World.ownsRow.alloc O.out (.cells #[.int .i64 uv, .int .i64 uq, .bool ud] 37)).frozenAt (j * 3 + 2)
      have ec2 := ec.trans ((O.out.cellAt (j * 3 + 2) (by omega)).symm.trans u2)
      clear hb2 hn u0 u1 u2 ec
      generalize wr.alloc (.cells #[.int .i64 uv, .int .i64 uq, .bool ud] 37) = W2 at *
      obtain ⟨g2, hg2⟩ : ∃ g2, g2 = wr.heap.size := ⟨_, rfl⟩
      rw [← hg2] at e1 e2 ⊢
      clear hg2
      have FIN : Hid (∀ b, b = (ud || decide (uq = 0)) → (W2.setCell ⟨g, j * 3 + 2, none⟩ (.bool b)).ownsRow w.heap.size 37 3 (.slice (some ⟨g, 0, none⟩) 16 c9) 16 ((Bd.mix ru (j + 1)).flatMap Bk.unC) ∧ Below w.heap.size w (W2.setCell ⟨g, j * 3 + 2, none⟩ (.bool b))) := by
        intro b hb
        have h1 := (O2.out.stored (j * 3 + 2) (.bool b)).1
        rw [hb, MS.out] at h1
        exact ⟨hb ▸ h1, B2.out.setCell (p := ⟨g, j * 3 + 2, none⟩) lb _⟩
      clear MS
      cases ud with
      | true =>
        go_wp2_with fail
        refine ⟨⟨j + 1, by omega, by go_num, (FIN.out true (by simp)).1, (FIN.out true (by simp)).2⟩, by simp [intOf]; omega⟩
      | false =>
        by_cases h0 : uq = 0
        · have q2 : (uq == 0) = true := by simpa using h0
          go_wp2_with fail
          refine ⟨⟨j + 1, by omega, by go_num, (FIN.out true (by simp [h0])).1, (FIN.out true (by simp [h0])).2⟩, by simp [intOf]; omega⟩
        · have q2 : (uq == 0) = false := by simpa using h0
          go_wp2_with fail
          refine ⟨⟨j + 1, by omega, by go_num, (FIN.out false (by simp [h0])).1, (FIN.out false (by simp [h0])).2⟩, by simp [intOf]; omega⟩
    · have q1 : (16 : Int) ≤ (j : Nat) := by omega
      obtain rfl : j = 16 := by omega
      have O2 := O.out
      rw [HR.out] at O2
      have O3 : OwF Bk.unC 3 37 wr w.heap.size (.slice (some ⟨g, 0, none⟩) 16 c9) (Bk.units s) := O2
      have O4 := Lib.hid O3
      clear O2 O3 
      go_wp2_with fail
      go_ret
      refine ⟨_, c9, rfl, O4.out.sl, B.out, fun b o e => ?_⟩
      injection e with e
      injection e with e
      subst e
      exact (O4.out.lt g rfl).1
end Go.Proofs.YtnacjhnfkkddcaaGreatDoor
namespace Go.Proofs.YtnacjhnfkkddcaaGreatDoor
open Go.RowKit Go.Deep Go.Maps
set_option maxRecDepth 100000
set_option linter.unusedSimpArgs false
set_option linter.unusedVariables false
abbrev BP (w0 : World) (F : Nat → Prop) (q : Nat) (s : Bk.St) (W : World) : Prop := BAt BdP w0 F q s W
section
variable {w0 W W' : World} {F G : Nat → Prop} {q : Nat} {s : Bk.St}
theorem bp_on (h : BP w0 F q s W) (hb : Below W.heap.size W W') : BP w0 F q s W' := by
  obtain ⟨X, h1, h2, h3, h4⟩ := h
  exact ⟨X, bdp_below h1 hb, h2, fun b hb2 => ⟨(h3 b hb2).1, Nat.lt_of_lt_of_le (h3 b hb2).2 hb.size⟩, h4.trans (hb.mono h4.size)⟩
theorem bp_below (h : BP w0 F q s W) : Below w0.heap.size w0 W := by
  obtain ⟨X, h1, h2, h3, h4⟩ := h
  exact h4
theorem bp_view (h : BP w0 F q s W) : Calls Tryz.prog 21 #[.pointer (some ⟨q, 0, none⟩)] W (BRet (.agg (Bk.viewC s)) W) := by
  obtain ⟨X, ⟨ru, rv, lo, ko, H, K, h1, _⟩, _⟩ := h
  exact bview_any q s ru rv lo ko H K W h1
theorem bp_units (h : BP w0 F q s W) : Calls Tryz.prog 28 #[.pointer (some ⟨q, 0, none⟩)] W (BList Bk.unC (Bk.units s) W) := by
  obtain ⟨X, ⟨ru, rv, lo, ko, H, K, h1, _⟩, _⟩ := h
  exact bunits_any q s ru rv lo ko H K W h1
theorem bp_hist (h : BP w0 F q s W) : Calls Tryz.prog 26 #[.pointer (some ⟨q, 0, none⟩)] W (BList Bk.rcC s.h W) := by
  obtain ⟨X, ⟨ru, rv, lo, ko, H, K, h1, _⟩, _⟩ := h
  exact bhist_any q s ru rv lo ko H K W h1
theorem bp_made {m : Int} {l : List Rc.R} {f : Value → Value} {w w' : World} {e : Ending} (h : BMade BdP (Bk.all m l) f w e w') : ∃ q, e = .returned (f (.pointer (some ⟨q, 0, none⟩))) ∧ BP w (fun _ => False) q (Bk.all m l) w' := by
  obtain ⟨q, X, rfl, h1, h2, h3⟩ := h
  exact ⟨q, rfl, X, h1, h2, fun b hb => hb.elim, h3⟩
end
theorem wpList_built {P : Program} {ops : Array Oper} {rest : List Oper} {o : Oper} {a : Act} {w : World} {Q : Exit → Act → World → Prop} (hg : o.guard = none) (t : TypeId) (parts : Array (Nat × Operand)) (ho : o.op = .build t parts) (cells : Array Value)
    (hf : P.built t (parts.map fun (i, x) => (i, a.eval x)).toList = some cells) (h : wpList P ops Q rest (a.put o.dst (.agg cells)) w) : wpList P ops Q (o :: rest) a w :=
  wpList_plain hg fun _ hK => by
    unfold Oper.wp execOp
    simp only [ho, Sem.run_bind, run_build w t _ cells hf, Result.andThen_ok]
    exact hK _ _ h
theorem vf3 (s : Bk.St) (w : World) : (Instr.field 48 (.agg (Bk.viewC s)) 3).run Tryz.prog w = .ok (.int .i64 s.stable) w := by
  simp [Instr.field, run_underlying Tryz.underlying48, asAgg, part, isAgg, run_underlying Tryz.underlying3, go_sem, Bk.viewC]
theorem vf5 (s : Bk.St) (w : World) : (Instr.field 48 (.agg (Bk.viewC s)) 5).run Tryz.prog w = .ok (.int .i64 s.ph) w := by
  simp [Instr.field, run_underlying Tryz.underlying48, asAgg, part, isAgg, run_underlying Tryz.underlying3, go_sem, Bk.viewC]
end Go.Proofs.YtnacjhnfkkddcaaGreatDoor
namespace Go.Proofs.YtnacjhnfkkddcaaGreatDoor
open Go.RowKit Go.Deep Go.Maps
set_option maxRecDepth 100000
set_option linter.unusedSimpArgs false
set_option linter.unusedVariables false
def lr1 : Rc.R := ⟨1, 1, 0, 0, 9, ⟨#[]⟩, ⟨0, 0, 0, 0, 0, 0, 0, 0, 0, 0, 0, 0⟩⟩
def lr2 : Rc.R := ⟨2, 1, 0, 1, 0, ⟨#[120]⟩, ⟨0, 0, 0, 0, 0, 0, 0, 0, 0, 0, 0, 0⟩⟩
def lsp : Spc.Sp := ⟨1, 1, 1, 0, 1, 0, 0, 0, 0, 1, 0, 9⟩
def lr3 : Rc.R := ⟨3, 1, 0, 0, 0, ⟨#[]⟩, lsp⟩
def lr4 : Rc.R := ⟨4, 1, 0, 3, 0, ⟨#[100, 111, 110, 101]⟩, ⟨0, 0, 0, 0, 0, 0, 0, 0, 0, 0, 0, 0⟩⟩
def lrs : List Rc.R := [lr1, lr2, lr3, lr4]
theorem lrs_n : Bk.allN 2 lrs = 4 := by kernel_rfl
theorem lrs_stable : (Bk.all 2 lrs).stable = 1 := by kernel_rfl
theorem lrs_ph : (Bk.all 2 lrs).ph = 3 := by kernel_rfl
theorem lrs_h : (Bk.all 2 lrs).h.length = 2 := by kernel_rfl
theorem lrs_in : ∀ r ∈ lrs, Rc.In r := by
  intro r hr
  simp only [lrs, List.mem_cons, List.not_mem_nil, or_false] at hr
  rcases hr with rfl | rfl | rfl | rfl
  all_goals refine ⟨by intro x hx; simp [Rc.nums, lr1, lr2, lr3, lr4] at hx; unfold Spc.i64; omega, by decide, by intro x hx; simp [Spc.flds, lr1, lr2, lr3, lr4, lsp] at hx; unfold Spc.i64; omega⟩
theorem lrs_row (w : World) : SlF Bk.rcC (w.alloc (.cells (lrs.flatMap Bk.rcC).toArray 53)) (some ⟨w.heap.size, 0, none⟩) 4 4 lrs := by
  refine ⟨fun _ => ⟨w.heap.size, 0, rfl, by simp, fun j u hj => ?_⟩, rfl, Nat.le_refl _, by unfold maxLen; omega, fun e => by cases e⟩
  rw [cell_of_row _ w.heap.size _ _ _ _ (heap_alloc_new w _), Nat.zero_add, List.getElem?_toArray]
  exact hj
end Go.Proofs.YtnacjhnfkkddcaaGreatDoor
