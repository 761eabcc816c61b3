import Derived.Deep.RegionWith
import Derived.Laws.Tables
import Derived.Test.YtnacjhnfkkddcaaGreatDoorQp06
import Derived.Test.YtnacjhnfkkddcaaGreatDoorQp17
import Derived.Laws.Cover3
set_option maxHeartbeats 6400000
set_option maxRecDepth 100000
set_option linter.unusedSimpArgs false
set_option linter.unusedVariables false
namespace Go.Proofs.YtnacjhnfkkddcaaGreatDoor
open Go.RowKit Go.Deep Go.Maps
section
variable {w : World} {g : Nat} {a b c : Int}
theorem jjg : (Tryz.prog.info? 138).map (·.size) = some 3 := by kernel_rfl
theorem LsCells.c0 (h : w.heap[g]? = some (.cells #[.int .i64 a, .int .i64 b, .int .i64 c] 138 (0, 0))) : w.cell? ⟨g, 0, none⟩ = some (.int .i64 a) := by rw [cell_of_row w g 0 _ _ _ h]; rfl
theorem LsCells.c1 (h : w.heap[g]? = some (.cells #[.int .i64 a, .int .i64 b, .int .i64 c] 138 (0, 0))) : w.cell? ⟨g, 1, none⟩ = some (.int .i64 b) := by rw [cell_of_row w g 1 _ _ _ h]; rfl
theorem LsCells.c2 (h : w.heap[g]? = some (.cells #[.int .i64 a, .int .i64 b, .int .i64 c] 138 (0, 0))) : w.cell? ⟨g, 2, none⟩ = some (.int .i64 c) := by rw [cell_of_row w g 2 _ _ _ h]; rfl
end
theorem jcz (W : World) (q : Nat) (cs : Array Value) (ty : TypeId) (mo : Option Nat) (s : Ls.St) (h : LsIs W q cs ty mo s) (k : ByteArray) (hk : k.size ≤ maxLen) :
  Calls Tryz.prog 103 #[.pointer (some ⟨q, 0, none⟩), .string k] W (LGet s k W) := by
 obtain ⟨W1, hW1⟩ : ∃ W1, W1 = W.alloc (.cells #[.int .i64 0, .int .i64 0, .int .i64 0] 138) := ⟨_, rfl⟩
 have B1 := zh ((Below.refl W.heap.size W).alloc (Nat.le_refl _) (.cells #[.int .i64 0, .int .i64 0, .int .i64 0] 138))
 have R1 := zh (heap_alloc_new W (.cells #[.int .i64 0, .int .i64 0, .int .i64 0] 138))
 rw [← hW1] at B1 R1
 have H1 := h.on B1.out
 have hlk := H1.look k hk
 obtain ⟨c0, c1, f1, hq⟩ := H1.cells
 unfold LGet lval
 have TK := Ls.taken_iff h.good k
 generalize (Ls.find s.l k).isSome = x at *
 generalize Ls.holderOf s.l k = a at *
 generalize Ls.epochOf s.l k = b at *
 generalize Ls.tillOf s.l k = c at *
 have C := zh (fun W => jhw W a b c TK)
 clear h H1 TK
 go_enter Tryz.func103, Tryz.ntmps103
 go_upto_region 3 with fail
 obtain ⟨g, hg⟩ : ∃ g, g = W.heap.size := ⟨_, rfl⟩
 rw [← hW1, ← hg]
 rw [← hg] at R1
 have B2 := zh (B1.out.alloc (by have := B1.out.size; omega) (.cells #[.int .i64 a, .int .i64 b, .int .i64 c] 138))
 have R2 := zh (jaf R1.out ((Below.refl W1.heap.size W1).alloc (Nat.le_refl _) (.cells #[.int .i64 a, .int .i64 b, .int .i64 c] 138)))
 have R6 := zh (heap_alloc_new W1 (.cells #[.int .i64 a, .int .i64 b, .int .i64 c] 138))
 have HG := zh hg
 clear hW1 hg
 go_upto_region 4 with fail
 obtain ⟨g6, hg6⟩ : ∃ g6, g6 = W1.heap.size := ⟨_, rfl⟩
 have NE : Hid (g6 ≠ g) := by have := (Array.getElem?_eq_some_iff.1 R1.out).1; show _ ≠ _; omega
 rw [← hg6] at R6 ⊢
 have BG : Hid (W.heap.size ≤ g) := Nat.le_of_eq HG.out.symm
 clear HG hg6 R1 B1 c0 c1 f1 hq hlk
 generalize W1.alloc (.cells #[.int .i64 a, .int .i64 b, .int .i64 c] 138) = W6 at *
 refine wp_region_held_drew (S := fun W => W.heap[g6]? = some (.cells #[.int .i64 a, .int .i64 b, .int .i64 c] 138 (0, 0))) (by kernel_rfl) R6.out (fun hS => ?_)
 have B3 := zh B2.out.drew
 refine tZ 0 rfl (by intro W hW; have d0 := LsCells.c0 hW; have d1 := LsCells.c1 hW; have d2 := LsCells.c2 hW; go_simp; (try with_reducible rfl)) hS ?_
 refine tZ 1 rfl (by intro W hW; have d0 := LsCells.c0 hW; have d1 := LsCells.c1 hW; have d2 := LsCells.c2 hW; go_simp; (try with_reducible rfl)) hS ?_
 simp only [Act.put, zT, zO, zS]
 refine rO 2 (fun K hK => ?_)
 go_simp
 with_reducible refine (C.out _).mono ?_
 rintro e w7 ⟨rfl, hb⟩
 have hS2 := jaf hS hb
 have RG := zh (jaf (W := W6.drew) R2.out hb)
 have B4 := zh (B3.out.trans (hb.mono B3.out.size))
 clear hS hb
 have hS := hS2
 clear hS2
 refine hK.out _ _ hS (fun _ => ?_)
 clear hK K
 try simp only [Act.put, zT, zO, zS]
 refine rO 3 (fun K hK => ?_)
 refine wp_store_row 138 (.tmp 4) (.tmp 16) rfl g #[.int .i64 a, .int .i64 b, .int .i64 c] rfl rfl 138 _ RG.out jjg rfl (by simp [Value.oneCell']) ?_
 have hS2 := (setRow_other w7 g g6 #[.int .i64 a, .int .i64 b, .int .i64 c] NE.out).trans hS
 have RS := setRow_heap w7 g _ #[.int .i64 a, .int .i64 b, .int .i64 c] _ _ RG.out
 have B5 := zh (below_setRow B4.out BG.out #[.int .i64 a, .int .i64 b, .int .i64 c])
 have e0 := LsCells.c0 RS
 have e1 := LsCells.c1 RS
 have e2 := LsCells.c2 RS
 clear hS RG RS
 have hS := hS2
 clear hS2
 generalize w7.setRow g #[.int .i64 a, .int .i64 b, .int .i64 c] = w8 at *
 refine hK.out _ _ hS (fun _ => ?_)
 clear hK K
 try simp only [Act.put]
 refine tY 4 hS ?_
 simp only [Act.put, zT, zO, zS]
 refine wpAnyH_done (by kernel_rfl) ?_ _
 go_wp2_with fail
 exact bodyPost_ret (v := .tuple #[leV a b c, .bool x]) (by simp [results, Tryz.results103, go_sem, e0, e1, e2]) rfl ⟨rfl, B5.out⟩
theorem jh2 (W : World) (q : Nat) (cs : Array Value) (ty : TypeId) (mo : Option Nat) (s : Ls.St) (h : LsIs W q cs ty mo s) (k : ByteArray) (hk : k.size ≤ maxLen) (now : Int) {x : Bool} (hx : x = true ↔ Ls.Free s k now) :
  Calls Tryz.prog 50 #[.pointer (some ⟨q, 0, none⟩), .string k, .int .i64 now] W (fun e w' => e = .returned (.bool x) ∧ Below W.heap.size W w') := by
 have TT := Ls.till_time h.good k
 have m0 := h.good.m0
 have m1 := h.good.m1
 rw [Ls.free_iff h.good] at hx
 obtain ⟨a, ha⟩ : ∃ a, a = Ls.holderOf s.l k := ⟨_, rfl⟩
 obtain ⟨b, hb⟩ : ∃ b, b = Ls.epochOf s.l k := ⟨_, rfl⟩
 obtain ⟨c, hc⟩ : ∃ c, c = Ls.tillOf s.l k := ⟨_, rfl⟩
 rw [← hc] at TT hx
 have C := zh (fun W => jfc W a b c now s.margin TT.1 TT.2 m0 m1 hx)
 have EA := zh ha.symm
 have EB := zh hb.symm
 have EC := zh hc.symm
 have HKS := zh hk
 have H := zh h
 clear TT m0 m1 hx ha hb hc hk h
 go_enter Tryz.func50, Tryz.ntmps50
 go_upto_region 1 with fail
 refine wp_region_held_drew (S := fun W => LsIs W q cs ty mo s) (by kernel_rfl) (H.out.on (Below.refl W.heap.size W).drew) (fun hS => ?_)
 refine tY 0 hS ?_
 refine tY 1 hS ?_
 refine tY 2 hS ?_
 refine tY 3 hS ?_
 refine tY 4 hS ?_
 refine tY 5 hS ?_
 simp only [Act.put, zT, zO, zS]
 refine tZ 6 rfl (by intro W hW; obtain ⟨c0, c1, f1, hq⟩ := hW.cells; have hlk := hW.look k HKS.out; rw [EA.out, EB.out, EC.out] at hlk; unfold leV at hlk; go_simp; (try with_reducible rfl)) hS ?_
 refine tY 7 hS ?_
 refine tZ 8 rfl (by intro W hW; obtain ⟨c0, c1, f1, hq⟩ := hW.cells; have hlk := hW.look k HKS.out; rw [EA.out, EB.out, EC.out] at hlk; unfold leV at hlk; go_simp; (try with_reducible rfl)) hS ?_
 refine tY 9 hS ?_
 refine tY 10 hS ?_
 refine tY 11 hS ?_
 simp only [Act.put, zT, zO, zS]
 refine tY 12 hS ?_
 refine tZ 13 rfl (by intro W hW; obtain ⟨c0, c1, f1, hq⟩ := hW.cells; have hlk := hW.look k HKS.out; rw [EA.out, EB.out, EC.out] at hlk; unfold leV at hlk; go_simp; (try with_reducible rfl)) hS ?_
 simp only [Act.put, zT, zO, zS]
 refine rO 14 (fun K hK => ?_)
 go_simp
 with_reducible refine (C.out _).mono ?_
 rintro e w7 ⟨rfl, hb⟩
 have hS2 := hS.on hb
 have B3 := zh ((Below.refl W.heap.size W).drew.trans hb)
 clear hS hb
 have hS := hS2
 clear hS2
 refine hK.out _ _ hS (fun _ => ?_)
 clear hK K
 refine tY 15 hS ?_
 refine tY 16 hS ?_
 simp only [Act.put, zT, zO, zS]
 refine wpAnyH_done (by kernel_rfl) ?_ _
 go_wp2_with fail
 go_ret
 exact ⟨rfl, B3.out⟩
theorem jk8 (t k e : TypeId) (m : Option Nat) (w : World) (h : Tryz.prog.underlying t = some (.map k e)) : (binOp .eql t (.map m) (.map none)).run Tryz.prog w = .ok (.bool m.isNone) w := by
 simp only [binOp]
 simp [run_equal_map_nil w t k e m h]
def jnr (W : World) (q : Nat) (cs : Array Value) (ty : TypeId) (mo : Option Nat) (s' : Ls.St) (e : Ending) (w' : World) : Prop :=
 ∃ mo', e = .returned (.tuple #[]) ∧ LsIs w' q (cs.setIfInBounds 1 (.map mo')) ty mo' s' ∧ Kept (fun i => i = q ∨ mo = some i) W w' ∧ ∀ m, mo' = some m → mo = some m ∨ W.heap.size ≤ m
theorem jes (W : World) (q : Nat) (cs : Array Value) (ty : TypeId) (mo : Option Nat) (s : Ls.St) (h : LsIs W q cs ty mo s) (k : ByteArray) (hk : k.size ≤ maxLen) (a b c : Int) (d : Bool) (hg2 : Ls.Good ⟨s.margin, Ls.put s.l ⟨k, a, b, c, d⟩⟩) (hf2 : Ls.Few ⟨s.margin, Ls.put s.l ⟨k, a, b, c, d⟩⟩ 2199023255553) :
  Calls Tryz.prog 155 #[.pointer (some ⟨q, 0, none⟩), .string k, leV a b c] W (jnr W q cs ty mo ⟨s.margin, Ls.put s.l ⟨k, a, b, c, d⟩⟩) := by
 have GD := zh hg2
 have FW := zh hf2
 have LN : Hid (s.l.length < maxLen) := by have := h.few.2; show _ < _; unfold maxLen; omega
 have heq := fun m w => jk8 _ _ _ m w Tryz.underlying76
 obtain ⟨W1, hW1⟩ : ∃ W1, W1 = W.alloc (.cells #[.int .i64 a, .int .i64 b, .int .i64 c] 138) := ⟨_, rfl⟩
 have hb1 := (Below.refl W.heap.size W).alloc (Nat.le_refl _) (.cells #[.int .i64 a, .int .i64 b, .int .i64 c] 138)
 have hr1 := heap_alloc_new W (.cells #[.int .i64 a, .int .i64 b, .int .i64 c] 138)
 rw [← hW1] at hb1 hr1
 obtain ⟨g, hg⟩ : ∃ g, g = W.heap.size := ⟨_, rfl⟩
 rw [← hg] at hr1
 have R1 := zh hr1
 have B1 := zh hb1
 have H1 := zh (h.on hb1)
 have HG := zh hg
 have HW := zh hW1
 have HL := zh h.cells.2.2.2
 have HKS := zh hk
 have HML : Hid (∀ m, mo = some m → m < W.heap.size) := fun m e => by subst e; exact MapW.Opt.lt h.map
 clear h hk hg2 hf2 hW1 hb1 hr1 hg
 cases mo with
 | some m =>
  have D1 := zh (H1.out.on (Below.refl W1.heap.size W1).drew)
  obtain ⟨wd, hrun, hmd, htd⟩ := MapW.At.put (M := LM) D1.out.map LN.out k (a, b, c) HKS.out
  have MD := zh hmd
  have TD := zh htd
  have RW : Hid (wd.heap[q]? = some (.cells cs ty (0, 0))) := (htd.grown.block q (by have := HL.out; have := B1.out.size; show q < W1.heap.size; omega) (fun e => H1.out.ne (by injection e))).trans D1.out.row
  have K2 : Hid (Kept (fun i => i = q ∨ some m = some i) W wd) := ((Kept.of_below (F := fun i => i = q ∨ some m = some i) B1.out).trans (Kept.of_below (F := fun _ => False) (Below.refl W1.heap.size W1).drew) fun _ _ hf => hf.elim).trans (G := fun i => i = m) (Kept.of_grown htd.grown (fun k hk => by injection hk with hk; exact hk.symm)) fun i _ hi => .inr (by rw [hi])
  have hrun2 : (Instr.mapUpdate 76 (.map (some m)) (.string k) (.agg #[.int .i64 a, .int .i64 b, .int .i64 c])).run Tryz.prog W1.drew = .ok () wd := hrun
  clear hrun hmd htd
  obtain ⟨c0, c1, f1, hq⟩ := H1.out.cells
  have d0 := LsCells.c0 R1.out
  have d1 := LsCells.c1 R1.out
  have d2 := LsCells.c2 R1.out
  unfold leV
  go_enter Tryz.func155, Tryz.ntmps155
  go_upto_region 1 with fail
  rw [← HW.out, ← HG.out]
  go_upto_region 3 with fail
  go_region
  go_wp2_with fail
  go_end0
  refine ⟨some m, rfl, ?_, K2.out, fun x hx => .inl hx⟩
  rw [set_same H1.out.k1]
  refine ⟨RW.out, H1.out.k0, H1.out.k1, ?_, GD.out, FW.out⟩
  have := MD.out
  rw [← show Ls.zOf (Ls.put s.l ⟨k, a, b, c, d⟩) = _ from Ls.zOf_put s.l ⟨k, a, b, c, d⟩, Ls.zOf_some, ← Ls.put_length H1.out.good.rise ⟨k, a, b, c, d⟩] at this
  exact this
 | none =>
  have hmm := @run_makeMap Tryz.prog
  have BM := zh ((Below.refl W1.heap.size W1).alloc (Nat.le_refl _) (.map #[] 0))
  have S0 := zh (MapW.At.made (M := LM) W1)
  have EL : Hid ((∀ k, Ls.zOf s.l k = none) ∧ s.l.length = 0) := H1.out.map
  have RW0 := zh (H1.out.on BM.out).row
  have GD0 := zh H1.out.good
  have HK0 := zh H1.out.k0
  have HK1 := zh H1.out.k1
  have f1 : W1.frozen? ⟨q, 1, none⟩ = false := H1.out.cells.2.2.1
  obtain ⟨c0, c1, _, hq⟩ := H1.out.cells
  have EW : Hid ((W1.alloc (.map #[] 0)).setCell ⟨q, 1, none⟩ (.map (some W1.heap.size)) = (W1.setCell ⟨q, 1, none⟩ (.map (some W1.heap.size))).alloc (.map #[] 0)) := World.setCell_alloc_past _ _ _ _ hq
  have RQ : Hid (((W1.alloc (.map #[] 0)).setCell ⟨q, 1, none⟩ (.map (some W1.heap.size))).heap[q]? = some (.cells (cs.setIfInBounds 1 (.map (some W1.heap.size))) ty (0, 0))) := heap_setCell_same _ _ _ _ _ _ RW0.out
  have MP : Hid (LM.At ((W1.alloc (.map #[] 0)).setCell ⟨q, 1, none⟩ (.map (some W1.heap.size))) W1.heap.size (Ls.zOf s.l) s.l.length) := by
   have h0 := S0.out.keep (heap_setCell_other (W1.alloc (.map #[] 0)) ⟨q, 1, none⟩ W1.heap.size (.map (some W1.heap.size)) (by simp; omega))
   rw [show (fun _ : ByteArray => (none : Option (Int × Int × Int))) = Ls.zOf s.l from (funext EL.out.1).symm] at h0
   show LM.At _ _ (Ls.zOf s.l) s.l.length
   rw [EL.out.2]
   exact h0
  have KP : Hid (Kept (fun i => i = q ∨ none = some i) W ((W1.alloc (.map #[] 0)).setCell ⟨q, 1, none⟩ (.map (some W1.heap.size)))) := (Kept.of_below (F := fun i => i = q ∨ none = some i) (B1.out.trans (BM.out.mono B1.out.size))).trans (G := fun i => i = q) (Kept.of_grown (row := some q) (jan _ _ _ _) (fun k hk => by injection hk with hk; exact hk.symm)) fun i _ hi => .inl hi
  have RG : Hid (((W1.alloc (.map #[] 0)).setCell ⟨q, 1, none⟩ (.map (some W1.heap.size))).heap[g]? = some (.cells #[.int .i64 a, .int .i64 b, .int .i64 c] 138 (0, 0))) := (heap_setCell_other (W1.alloc (.map #[] 0)) ⟨q, 1, none⟩ g (.map (some W1.heap.size)) (by have := HL.out; have := HG.out; simp; omega)).trans (jaf R1.out BM.out)
  rw [EW.out] at RQ MP KP RG
  unfold leV
  go_enter Tryz.func155, Tryz.ntmps155
  go_upto_region 1 with fail
  rw [← HW.out, ← HG.out]
  go_upto_region 3 with fail
  obtain ⟨m, hm⟩ : ∃ m, m = W1.heap.size := ⟨_, rfl⟩
  have NW : Hid (W.heap.size ≤ m) := by have := B1.out.size; show _ ≤ _; omega
  rw [← hm] at RQ MP KP RG ⊢
  clear hm hmm c0 c1 f1 hq BM S0 RW0 EW H1 R1 HW
  generalize (W1.setCell ⟨q, 1, none⟩ (.map (some m))).alloc (.map #[] 0) = W5 at *
  have hqm : q ≠ m := fun e => by
   obtain ⟨es, clock, hb⟩ := MapW.At.block (M := LM) MP.out
   have := RQ.out
   rw [e, hb] at this
   injection this with this
   cases this
  have HQM := zh hqm
  have c1 : W5.cell? ⟨q, 1, none⟩ = some (.map (some m)) := by rw [cell_of_row W5 q 1 _ _ _ RQ.out]; exact set_k1 HK1.out
  have d0 := LsCells.c0 RG.out
  have d1 := LsCells.c1 RG.out
  have d2 := LsCells.c2 RG.out
  have D1 := zh (MapW.At.on (M := LM) MP.out (Below.refl W5.heap.size W5).drew)
  obtain ⟨wd, hrun, hmd, htd⟩ := MapW.At.put (M := LM) D1.out LN.out k (a, b, c) HKS.out
  have MD := zh hmd
  have RW : Hid (wd.heap[q]? = some (.cells (cs.setIfInBounds 1 (.map (some m))) ty (0, 0))) := (htd.grown.block q (Array.getElem?_eq_some_iff.1 RQ.out).1 (fun e => HQM.out (by injection e))).trans RQ.out
  have K2 : Hid (Kept (fun i => i = q ∨ none = some i) W wd) := (KP.out.trans (Kept.of_below (F := fun _ => False) (Below.refl W5.heap.size W5).drew) fun _ _ hf => hf.elim).trans (G := fun i => i = m) (Kept.of_grown htd.grown (fun k hk => by injection hk with hk; exact hk.symm)) fun i hi e => by have := NW.out; omega
  have hrun2 : (Instr.mapUpdate 76 (.map (some m)) (.string k) (.agg #[.int .i64 a, .int .i64 b, .int .i64 c])).run Tryz.prog W5.drew = .ok () wd := hrun
  clear hrun hmd htd hqm
  go_region
  go_wp2_with fail
  go_end0
  refine ⟨some m, rfl, ⟨RW.out, set_k0 HK0.out, set_k1 HK1.out, ?_, GD.out, FW.out⟩, K2.out, fun x hx => .inr (by injection hx with hx; have := NW.out; omega)⟩
  have := MD.out
  rw [← show Ls.zOf (Ls.put s.l ⟨k, a, b, c, d⟩) = _ from Ls.zOf_put s.l ⟨k, a, b, c, d⟩, Ls.zOf_some, ← Ls.put_length GD0.out.rise ⟨k, a, b, c, d⟩] at this
  exact this
theorem jjh (W : World) (p : Value) (k : ByteArray) (a b c : Int) (f : Bool) (CG : Calls Tryz.prog 103 #[p, .string k] W (fun e w' => e = .returned (.tuple #[leV a b c, .bool f]) ∧ Below W.heap.size W w')) (ho ep now : Int) {z : Bool} (hz : z = true ↔ (a = ho ∧ b = ep) ∧ (c ≠ 0 ∧ now < c)) :
  Calls Tryz.prog 100 #[p, .string k, .int .i64 ho, .int .i64 ep, .int .i64 now] W (fun e w' => e = .returned (.bool z) ∧ Below W.heap.size W w') := by
 have CG := zh CG
 by_cases h1 : a = ho ∧ b = ep
 ·have C1 := zh (fun W => jft W a b c ho ep (x := true) (by simp [h1]))
  have C2 := zh (fun W => jdu W a b c now (x := z) (by rw [hz]; simp [h1]))
  clear hz h1
  unfold leV at *
  go_enter Tryz.func100, Tryz.ntmps100
  go_upto_region 2 with (go_at_call 103; (with_reducible refine CG.out.mono ?_); rintro e w1 ⟨rfl, hb⟩; have B1 := zh hb; clear hb)
  have B2 := zh (B1.out.alloc (by have := B1.out.size; omega) (.cells #[.int .i64 a, .int .i64 b, .int .i64 c] 138))
  have R2 := zh (heap_alloc_new w1 (.cells #[.int .i64 a, .int .i64 b, .int .i64 c] 138))
  obtain ⟨g, hg⟩ : ∃ g, g = w1.heap.size := ⟨_, rfl⟩
  rw [← hg] at R2 ⊢
  generalize w1.alloc (.cells #[.int .i64 a, .int .i64 b, .int .i64 c] 138) = w2 at *
  have d0 := LsCells.c0 R2.out
  have d1 := LsCells.c1 R2.out
  have d2 := LsCells.c2 R2.out
  have HG := zh hg
  clear hg
  go_wp2_with (first
   | (go_at_call 151; (with_reducible refine (C1.out _).mono ?_); rintro e w3 ⟨rfl, hb⟩; have B3 := zh (B2.out.trans (hb.mono B2.out.size)); have R3 := jaf R2.out hb; have e0 := LsCells.c0 R3; have e1 := LsCells.c1 R3; have e2 := LsCells.c2 R3; clear hb R3)
   | (go_at_call 152; (with_reducible refine (C2.out _).mono ?_); rintro e w4 ⟨rfl, hb⟩; have B4 := zh (B3.out.trans (hb.mono B3.out.size)); clear hb))
  go_ret
  exact ⟨rfl, B4.out⟩
 ·have C1 := zh (fun W => jft W a b c ho ep (x := false) (by simpa using h1))
  obtain rfl : z = false := by rw [Bool.eq_false_iff]; intro h; exact h1 (hz.1 h).1
  clear hz h1
  unfold leV at *
  go_enter Tryz.func100, Tryz.ntmps100
  go_upto_region 2 with (go_at_call 103; (with_reducible refine CG.out.mono ?_); rintro e w1 ⟨rfl, hb⟩; have B1 := zh hb; clear hb)
  have B2 := zh (B1.out.alloc (by have := B1.out.size; omega) (.cells #[.int .i64 a, .int .i64 b, .int .i64 c] 138))
  have R2 := zh (heap_alloc_new w1 (.cells #[.int .i64 a, .int .i64 b, .int .i64 c] 138))
  obtain ⟨g, hg⟩ : ∃ g, g = w1.heap.size := ⟨_, rfl⟩
  rw [← hg] at R2 ⊢
  generalize w1.alloc (.cells #[.int .i64 a, .int .i64 b, .int .i64 c] 138) = w2 at *
  have d0 := LsCells.c0 R2.out
  have d1 := LsCells.c1 R2.out
  have d2 := LsCells.c2 R2.out
  have HG := zh hg
  clear hg
  go_wp2_with (go_at_call 151; (with_reducible refine (C1.out _).mono ?_); rintro e w3 ⟨rfl, hb⟩; have B3 := zh (B2.out.trans (hb.mono B2.out.size)); clear hb)
  go_ret
  exact ⟨rfl, B3.out⟩
theorem jgr (W : World) (q : Nat) (cs : Array Value) (ty : TypeId) (mo : Option Nat) (s : Ls.St) (h : LsIs W q cs ty mo s) (k : ByteArray) (hk : k.size ≤ maxLen) (ho ep now : Int) {z : Bool} (hz : z = true ↔ Ls.Holds s k ho ep now) :
  Calls Tryz.prog 100 #[.pointer (some ⟨q, 0, none⟩), .string k, .int .i64 ho, .int .i64 ep, .int .i64 now] W (fun e w' => e = .returned (.bool z) ∧ Below W.heap.size W w') :=
 jjh W _ k _ _ _ _ (jcz W q cs ty mo s h k hk) ho ep now (hz.trans (Ls.holds_is h.good k ho ep now))
open Classical in
noncomputable def Ls.notE (s : Ls.St) (k : ByteArray) (h ep : Int) : Nat := match Ls.find s.l k with
 | none => 5
 | some e => if Ls.Other e h ep then 8 else 0
open Classical in
theorem Ls.notE_is {s : Ls.St} {k : ByteArray} {h ep : Int} {f x : Bool} (hf : (Ls.find s.l k).isSome = f) (hx : x = true ↔ Ls.holderOf s.l k = h ∧ Ls.epochOf s.l k = ep) : Ls.notE s k h ep = if f then (if x then 0 else 8) else 5 := by
 unfold Ls.notE Ls.holderOf Ls.epochOf at *
 cases he : Ls.find s.l k with
 | none => rw [he] at hf; subst hf; rfl
 | some e =>
  rw [he] at hf hx
  subst hf
  show (if Ls.Other e h ep then 8 else 0) = if x then 0 else 8
  unfold Ls.Other
  by_cases h1 : e.holder = h ∧ e.epoch = ep
  ·rw [if_neg (by omega), if_pos (hx.2 h1)]
  ·rw [if_pos (by omega), if_neg (fun h => h1 (hx.1 h))]
theorem jgs (W : World) (q : Nat) (cs : Array Value) (ty : TypeId) (mo : Option Nat) (s : Ls.St) (h : LsIs W q cs ty mo s) (k : ByteArray) (hk : k.size ≤ maxLen) (ho ep : Int) :
  Calls Tryz.prog 154 #[.pointer (some ⟨q, 0, none⟩), .string k, .int .i64 ho, .int .i64 ep] W (fun e w' => e = .returned (.int .i64 (Ls.notE s k ho ep : Nat)) ∧ Below W.heap.size W w') := by
 have CG := zh (jcz W q cs ty mo s h k hk)
 obtain ⟨x, hx⟩ : ∃ x : Bool, x = true ↔ Ls.holderOf s.l k = ho ∧ Ls.epochOf s.l k = ep := ⟨decide _, decide_eq_true_iff⟩
 have EN := zh (Ls.notE_is (f := (Ls.find s.l k).isSome) rfl hx)
 unfold LGet lval at CG
 rw [EN.out]
 clear EN
 generalize (Ls.find s.l k).isSome = f at *
 generalize Ls.holderOf s.l k = a at *
 generalize Ls.epochOf s.l k = b at *
 generalize Ls.tillOf s.l k = c at *
 have C1 := zh (fun W => jft W a b c ho ep hx)
 clear h hk hx
 unfold leV at *
 cases f with
 | false =>
  go_enter Tryz.func154, Tryz.ntmps154
  go_upto_region 2 with (go_at_call 103; (with_reducible refine CG.out.mono ?_); rintro e w1 ⟨rfl, hb⟩; have B1 := zh hb; clear hb)
  have B2 := zh (B1.out.alloc (by have := B1.out.size; omega) (.cells #[.int .i64 a, .int .i64 b, .int .i64 c] 138))
  go_wp2_with fail
  go_ret
  exact ⟨rfl, B2.out⟩
 | true =>
  cases x with
  | false =>
   go_enter Tryz.func154, Tryz.ntmps154
   go_upto_region 2 with (go_at_call 103; (with_reducible refine CG.out.mono ?_); rintro e w1 ⟨rfl, hb⟩; have B1 := zh hb; clear hb)
   have B2 := zh (B1.out.alloc (by have := B1.out.size; omega) (.cells #[.int .i64 a, .int .i64 b, .int .i64 c] 138))
   go_wp2_with (go_at_call 151; (with_reducible refine (C1.out _).mono ?_); rintro e w3 ⟨rfl, hb⟩; have B3 := zh (B2.out.trans (hb.mono B2.out.size)); clear hb)
   go_ret
   exact ⟨rfl, B3.out⟩
  | true =>
   go_enter Tryz.func154, Tryz.ntmps154
   go_upto_region 2 with (go_at_call 103; (with_reducible refine CG.out.mono ?_); rintro e w1 ⟨rfl, hb⟩; have B1 := zh hb; clear hb)
   have B2 := zh (B1.out.alloc (by have := B1.out.size; omega) (.cells #[.int .i64 a, .int .i64 b, .int .i64 c] 138))
   go_wp2_with (go_at_call 151; (with_reducible refine (C1.out _).mono ?_); rintro e w3 ⟨rfl, hb⟩; have B3 := zh (B2.out.trans (hb.mono B2.out.size)); clear hb)
   go_ret
   exact ⟨rfl, B3.out⟩
structure LsX (W : World) (X : Nat → Prop) (q : Nat) (mo : Option Nat) : Prop where
 q : X q
 m : ∀ m, mo = some m → X m
 lt : ∀ i, X i → i < W.heap.size
def jfd (q : Nat) (cs : Array Value) (ty : TypeId) (mo : Option Nat) (s' : Ls.St) (v : Value) (W : World) (e : Ending) (w' : World) : Prop :=
 ∃ mo', e = .returned v ∧ LsIs w' q (cs.setIfInBounds 1 (.map mo')) ty mo' s' ∧ Kept (fun i => i = q ∨ mo = some i) W w' ∧ ∀ m, mo' = some m → mo = some m ∨ W.heap.size ≤ m
theorem jc5 {W w' : World} {X : Nat → Prop} {q : Nat} {cs : Array Value} {ty : TypeId} {mo : Option Nat} {s : Ls.St} (_ : LsX W X q mo) (h : LsIs W q cs ty mo s) (hb : Below W.heap.size W w') (v : Value) : jfd q cs ty mo s v W (.returned v) w' :=
 ⟨mo, rfl, by rw [set_same h.k1]; exact h.on hb, Kept.of_below hb, fun _ hi => .inl hi⟩
theorem jfv {W W1 w' : World} {X : Nat → Prop} {q : Nat} {cs : Array Value} {ty : TypeId} {mo mo' : Option Nat} {s' : Ls.St} (_ : LsX W X q mo) (hb : Below W.heap.size W W1) (h : LsIs w' q (cs.setIfInBounds 1 (.map mo')) ty mo' s') (hk : Kept (fun i => i = q ∨ mo = some i) W1 w') (hm : ∀ m, mo' = some m → mo = some m ∨ W1.heap.size ≤ m) (v : Value) : jfd q cs ty mo s' v W (.returned v) w' :=
 ⟨mo', rfl, h, (Kept.of_below (F := fun i => i = q ∨ mo = some i) hb).trans hk fun _ _ h => h, fun m e => (hm m e).imp id (Nat.le_trans hb.size)⟩
namespace Ls
theorem few_same {s : St} {n : Nat} {m : Int} {e x : En} (hf : Few s n) (hr : Rise s.l) (he : find s.l x.name = some e) (hx : x.epoch = e.epoch) : Few ⟨m, put s.l x⟩ n := by
 refine ⟨fun y hy => ?_, ?_⟩
 ·rcases mem_put hy with rfl | hy
  ·rw [hx]; exact hf.1 e (find_some he).1
  ·exact hf.1 y hy
 ·show (put s.l x).length ≤ n
  rw [put_length hr, he]
  exact hf.2
theorem note_found {s : St} {k : ByteArray} {h ep : Int} (h0 : notE s k h ep = 0) : ∃ e, find s.l k = some e ∧ e.holder = h ∧ e.epoch = ep := by
 unfold notE at h0
 cases he : find s.l k with
 | none => rw [he] at h0; cases h0
 | some e =>
  rw [he] at h0
  refine ⟨e, rfl, ?_⟩
  by_cases h1 : Other e h ep
  ·simp [h1] at h0
  ·unfold Other at h1; omega
theorem renew_no {s : St} {k : ByteArray} {h ep now ttl : Int} (hr : Right k h now ttl) (h0 : notE s k h ep ≠ 0) : renewE s k h ep now ttl = notE s k h ep := by
 unfold renewE notE at *
 rw [if_neg (fun h => h hr)]
 cases he : find s.l k with
 | none => rfl
 | some e =>
  rw [he] at h0
  by_cases h1 : Other e h ep
  ·simp [h1]
  ·simp [h1] at h0
open Classical in
theorem renew_is {s : St} (hs : Good s) {k : ByteArray} {h ep now ttl : Int} (hr : Right k h now ttl) (h0 : notE s k h ep = 0) : (tillOf s.l k ≠ 0 ∧ now < tillOf s.l k → renewE s k h ep now ttl = 0) ∧ (¬ (tillOf s.l k ≠ 0 ∧ now < tillOf s.l k) → renewE s k h ep now ttl = 9) := by
 obtain ⟨e, he, e1, e2⟩ := note_found h0
 have h1 := hs.each e (find_some he).1
 have ht : tillOf s.l k = e.till := by unfold tillOf; rw [he]
 have hno : ¬ Other e h ep := by unfold Other; omega
 have hE : renewE s k h ep now ttl = if e.dropped = true ∨ e.till ≤ now then 9 else 0 := by
  unfold renewE
  rw [if_neg (fun h => h hr), he]
  show (if Other e h ep then 8 else _) = _
  rw [if_neg hno]
 rw [ht, hE]
 cases hd : e.dropped with
 | true =>
  have := h1.2.2.2.2.2.2.1 hd
  exact ⟨fun h => absurd this h.1, fun _ => by simp⟩
 | false =>
  have := h1.2.2.2.2.2.2.2 hd
  exact ⟨fun h => by rw [if_neg]; rintro (h2 | h2); cases h2; omega, fun h => by rw [if_pos]; exact .inr (by omega)⟩
theorem renewed_is {s : St} (hs : Good s) (hf : Few s 2199023255553) {k : ByteArray} {h ep now ttl : Int} (hr : Right k h now ttl) (h0 : notE s k h ep = 0) (h2 : tillOf s.l k ≠ 0 ∧ now < tillOf s.l k) :
  renewed s k now ttl = ⟨s.margin, put s.l ⟨k, holderOf s.l k, epochOf s.l k, max (tillOf s.l k) (late now ttl), false⟩⟩ ∧ Good (renewed s k now ttl) ∧ Few (renewed s k now ttl) 2199023255553 := by
 obtain ⟨e, he, e1, e2⟩ := note_found h0
 have h1 := hs.each e (find_some he).1
 have hn := (find_some he).2
 have ht : tillOf s.l k = e.till := by unfold tillOf; rw [he]
 have hh : holderOf s.l k = e.holder := by unfold holderOf; rw [he]
 have hp : epochOf s.l k = e.epoch := by unfold epochOf; rw [he]
 have hd : e.dropped = false := by
  cases hd : e.dropped with
  | false => rfl
  | true => exact absurd (h1.2.2.2.2.2.2.1 hd) (by rw [← ht]; exact h2.1)
 have E : renewed s k now ttl = ⟨s.margin, put s.l ⟨k, holderOf s.l k, epochOf s.l k, max (tillOf s.l k) (late now ttl), false⟩⟩ := by
  unfold renewed
  rw [he, ht, hh, hp]
  show St.mk _ (put s.l ⟨e.name, _, _, _, e.dropped⟩) = _
  rw [hn, hd]
 refine ⟨E, renewed_good hs hr he hd, ?_⟩
 rw [E]
 exact few_same hf hs.rise he hp
theorem drop_no {s : St} {k : ByteArray} {h ep : Int} (h0 : notE s k h ep ≠ 0) : dropE s k h ep = notE s k h ep := by
 unfold dropE notE at *
 cases he : find s.l k with
 | none => rfl
 | some e =>
  rw [he] at h0
  by_cases h1 : Other e h ep
  ·simp [h1]
  ·simp [h1] at h0
open Classical in
theorem drop_is {s : St} (hs : Good s) {k : ByteArray} {h ep : Int} (h0 : notE s k h ep = 0) : (tillOf s.l k ≠ 0 → dropE s k h ep = 0) ∧ (tillOf s.l k = 0 → dropE s k h ep = 10) := by
 obtain ⟨e, he, e1, e2⟩ := note_found h0
 have h1 := hs.each e (find_some he).1
 have ht : tillOf s.l k = e.till := by unfold tillOf; rw [he]
 have hno : ¬ Other e h ep := by unfold Other; omega
 have hE : dropE s k h ep = if e.dropped = true then 10 else 0 := by
  unfold dropE
  rw [he]
  show (if Other e h ep then 8 else _) = _
  rw [if_neg hno]
 rw [ht, hE]
 cases hd : e.dropped with
 | true =>
  have := h1.2.2.2.2.2.2.1 hd
  exact ⟨fun h => absurd this h, fun _ => rfl⟩
 | false =>
  have := h1.2.2.2.2.2.2.2 hd
  exact ⟨fun h => by rw [if_neg (by simp)], fun h => by omega⟩
theorem dropped_is {s : St} (hs : Good s) (hf : Few s 2199023255553) {k : ByteArray} {h ep : Int} (h0 : notE s k h ep = 0) :
  droppedS s k = ⟨s.margin, put s.l ⟨k, h, ep, 0, true⟩⟩ ∧ Good (droppedS s k) ∧ Few (droppedS s k) 2199023255553 := by
 obtain ⟨e, he, e1, e2⟩ := note_found h0
 have hn := (find_some he).2
 have E : droppedS s k = ⟨s.margin, put s.l ⟨k, h, ep, 0, true⟩⟩ := by
  unfold droppedS
  rw [he]
  show St.mk _ (put s.l ⟨e.name, e.holder, e.epoch, 0, true⟩) = _
  rw [hn, e1, e2]
 refine ⟨E, dropped_good hs k, ?_⟩
 rw [E]
 exact few_same hf hs.rise he e2.symm
end Ls
theorem jji (W : World) (X : Nat → Prop) (q : Nat) (cs : Array Value) (ty : TypeId) (mo : Option Nat) (s : Ls.St) (hx : LsX W X q mo) (h : LsIs W q cs ty mo s) (k : ByteArray) (hk : k.size ≤ maxLen) (ho ep : Int) :
  Calls Tryz.prog 149 #[.pointer (some ⟨q, 0, none⟩), .string k, .int .i64 ho, .int .i64 ep] W (jfd q cs ty mo (Ls.dropS s k ho ep) (.int .i64 (Ls.dropE s k ho ep : Nat)) W) := by
 have HX := zh hx
 have H0 := zh h
 have HKS := zh hk
 have CN := zh (jgs W q cs ty mo s h k hk ho ep)
 clear hx h hk
 by_cases h0 : Ls.notE s k ho ep = 0
 case neg =>
  have e1 := Ls.drop_no h0
  have e3 : Ls.dropS s k ho ep = s := by unfold Ls.dropS; rw [if_neg (by rw [e1]; exact h0)]
  rw [e1, e3]
  obtain ⟨z, hz⟩ : ∃ z, z = Ls.notE s k ho ep := ⟨_, rfl⟩
  rw [← hz] at h0 CN ⊢
  have hz0 : ((z : Int) == 0) = false := by rw [beq_eq_false_iff_ne]; omega
  have HZ := zh h0
  clear e1 e3 hz h0
  go_enter Tryz.func149, Tryz.ntmps149
  go_wp2_with (go_at_call 154; (with_reducible refine CN.out.mono ?_); rintro e w1 ⟨rfl, hb⟩; have B1 := zh hb; clear hb)
  go_ret
  exact jc5 HX.out H0.out B1.out _
 case pos =>
  rw [h0] at CN
  have HI := Ls.drop_is H0.out.good h0
  have HD := zh (Ls.dropped_is H0.out.good H0.out.few h0)
  obtain ⟨a, ha⟩ : ∃ a, a = Ls.holderOf s.l k := ⟨_, rfl⟩
  obtain ⟨b, hb⟩ : ∃ b, b = Ls.epochOf s.l k := ⟨_, rfl⟩
  obtain ⟨c, hc⟩ : ∃ c, c = Ls.tillOf s.l k := ⟨_, rfl⟩
  rw [← hc] at HI
  have EA := zh ha.symm
  have EB := zh hb.symm
  have EC := zh hc.symm
  have CD := zh (fun W => jcf W a b c)
  clear ha hb hc h0
  by_cases hc0 : c = 0
  ·have e1 := HI.2 hc0
   have e3 : Ls.dropS s k ho ep = s := by unfold Ls.dropS; rw [if_neg (by rw [e1]; omega)]
   rw [e1, e3]
   rw [show (c == 0) = true by simp [hc0]] at CD
   clear e1 e3 hc0 HI HD
   go_enter Tryz.func149, Tryz.ntmps149
   go_upto_region 6 with (go_at_call 154; (with_reducible refine CN.out.mono ?_); rintro e w1 ⟨rfl, hb⟩; have B1 := zh hb; clear hb)
   have H1 := zh (H0.out.on B1.out)
   obtain ⟨c0, c1, f1, hq⟩ := H1.out.cells
   have hlk := H1.out.look k HKS.out
   rw [EA.out, EB.out, EC.out] at hlk
   unfold leV at *
   go_wp2_with (go_at_call 138; (with_reducible refine (CD.out _).mono ?_); rintro e w2 ⟨rfl, hb⟩; have B2 := zh (B1.out.trans (hb.mono B1.out.size)); clear hb)
   go_ret
   exact jc5 HX.out H0.out B2.out _
  ·have e1 := HI.1 hc0
   have e3 : Ls.dropS s k ho ep = ⟨s.margin, Ls.put s.l ⟨k, ho, ep, 0, true⟩⟩ := by unfold Ls.dropS; rw [if_pos e1, HD.out.1]
   have GD := HD.out.2.1
   have FW := HD.out.2.2
   rw [HD.out.1] at GD FW
   rw [e1, e3]
   rw [show (c == 0) = false by simp [hc0]] at CD
   have CP : Hid (∀ W, LsIs W q cs ty mo s → Calls Tryz.prog 155 #[.pointer (some ⟨q, 0, none⟩), .string k, .agg #[.int .i64 ho, .int .i64 ep, .int .i64 0]] W (jnr W q cs ty mo ⟨s.margin, Ls.put s.l ⟨k, ho, ep, 0, true⟩⟩)) := fun W h => jes W q cs ty mo s h k HKS.out ho ep 0 true GD FW
   clear e1 e3 hc0 HI HD GD FW
   go_enter Tryz.func149, Tryz.ntmps149
   go_upto_region 6 with (go_at_call 154; (with_reducible refine CN.out.mono ?_); rintro e w1 ⟨rfl, hb⟩; have B1 := zh hb; clear hb)
   have H1 := zh (H0.out.on B1.out)
   obtain ⟨c0, c1, f1, hq⟩ := H1.out.cells
   have hlk := H1.out.look k HKS.out
   rw [EA.out, EB.out, EC.out] at hlk
   unfold leV at *
   go_wp2_with (first
    | (go_at_call 138; (with_reducible refine (CD.out _).mono ?_); rintro e w2 ⟨rfl, hb⟩; have B2 := zh (B1.out.trans (hb.mono B1.out.size)); have H2 := zh (H1.out.on hb); clear hb)
    | (go_at_call 155; (with_reducible refine (CP.out _ H2.out).mono ?_); rintro e w5 ⟨mo5, rfl, hm5, hk5, hn5⟩; have M5 := zh hm5; have K5 := zh hk5; have N5 := zh hn5; clear hm5 hk5 hn5))
   go_ret
   exact jfv HX.out B2.out M5.out K5.out N5.out _
theorem jh3 (W : World) (X : Nat → Prop) (q : Nat) (cs : Array Value) (ty : TypeId) (mo : Option Nat) (s : Ls.St) (hx : LsX W X q mo) (h : LsIs W q cs ty mo s) (k : ByteArray) (hk : k.size ≤ maxLen) (ho ep now ttl : Int) :
  Calls Tryz.prog 101 #[.pointer (some ⟨q, 0, none⟩), .string k, .int .i64 ho, .int .i64 ep, .int .i64 now, .int .i64 ttl] W (jfd q cs ty mo (Ls.renewS s k ho ep now ttl) (.tuple #[.int .i64 (Ls.renewN s k ho ep now ttl), .int .i64 (Ls.renewE s k ho ep now ttl : Nat)]) W) := by
 have HX := zh hx
 have H0 := zh h
 have HKS := zh hk
 have CN := zh (jgs W q cs ty mo s h k hk ho ep)
 clear hx h hk
 by_cases hr : Ls.Right k ho now ttl
 case neg =>
  have e1 : Ls.renewE s k ho ep now ttl = 1 := by unfold Ls.renewE; rw [if_pos hr]
  have e2 : Ls.renewN s k ho ep now ttl = 0 := by unfold Ls.renewN; rw [if_neg (by rw [e1]; omega)]
  have e3 : Ls.renewS s k ho ep now ttl = s := by unfold Ls.renewS; rw [if_neg (by rw [e1]; omega)]
  rw [e1, e2, e3]
  have CM := zh (jdj W k ho now ttl HKS.out (x := false) (by simpa using hr))
  clear e1 e2 e3 hr CN
  go_enter Tryz.func101, Tryz.ntmps101
  go_wp2_with (go_at_call 153; (with_reducible refine CM.out.mono ?_); rintro e w1 ⟨rfl, rfl⟩)
  exact bodyPost_ret (v := .tuple #[.int .i64 0, .int .i64 1]) (by simp [results, Tryz.results101, go_sem]) rfl (jc5 HX.out H0.out (Below.refl _ _) _)
 have CM := zh (jdj W k ho now ttl HKS.out (x := true) (by simpa using hr))
 have HR := zh hr
 by_cases h0 : Ls.notE s k ho ep = 0
 case neg =>
  have e1 := Ls.renew_no (now := now) (ttl := ttl) hr h0
  have e2 : Ls.renewN s k ho ep now ttl = 0 := by unfold Ls.renewN; rw [if_neg (by rw [e1]; exact h0)]
  have e3 : Ls.renewS s k ho ep now ttl = s := by unfold Ls.renewS; rw [if_neg (by rw [e1]; exact h0)]
  rw [e1, e2, e3]
  obtain ⟨z, hz⟩ : ∃ z, z = Ls.notE s k ho ep := ⟨_, rfl⟩
  rw [← hz] at h0 CN ⊢
  have hz0 : ((z : Int) == 0) = false := by rw [beq_eq_false_iff_ne]; omega
  have HZ := zh h0
  clear e1 e2 e3 hz h0 hr
  go_enter Tryz.func101, Tryz.ntmps101
  go_wp2_with (first
   | (go_at_call 153; (with_reducible refine CM.out.mono ?_); rintro e w1 ⟨rfl, rfl⟩)
   | (go_at_call 154; (with_reducible refine CN.out.mono ?_); rintro e w2 ⟨rfl, hb⟩; have B1 := zh hb; clear hb))
  exact bodyPost_ret (v := .tuple #[.int .i64 0, .int .i64 (z : Nat)]) (by simp [results, Tryz.results101, go_sem]) rfl (jc5 HX.out H0.out B1.out _)
 rw [h0] at CN
 have HI := Ls.renew_is (now := now) (ttl := ttl) H0.out.good hr h0
 have HD := zh (fun h2 => Ls.renewed_is (now := now) (ttl := ttl) H0.out.good H0.out.few hr h0 h2)
 obtain ⟨a, ha⟩ : ∃ a, a = Ls.holderOf s.l k := ⟨_, rfl⟩
 obtain ⟨b, hb⟩ : ∃ b, b = Ls.epochOf s.l k := ⟨_, rfl⟩
 obtain ⟨c, hc⟩ : ∃ c, c = Ls.tillOf s.l k := ⟨_, rfl⟩
 rw [← hc] at HI HD
 rw [← ha, ← hb] at HD
 have EA := zh ha.symm
 have EB := zh hb.symm
 have EC := zh hc.symm
 clear ha hb hc h0 hr
 by_cases hhe : c ≠ 0 ∧ now < c
 case neg =>
  have e1 := HI.2 hhe
  have e2 : Ls.renewN s k ho ep now ttl = 0 := by unfold Ls.renewN; rw [if_neg (by rw [e1]; omega)]
  have e3 : Ls.renewS s k ho ep now ttl = s := by unfold Ls.renewS; rw [if_neg (by rw [e1]; omega)]
  rw [e1, e2, e3]
  have CH := zh (fun W => jdu W a b c now (x := false) (by simpa using hhe))
  clear e1 e2 e3 hhe HI HD
  go_enter Tryz.func101, Tryz.ntmps101
  go_upto_region 6 with (first
   | (go_at_call 153; (with_reducible refine CM.out.mono ?_); rintro e w1 ⟨rfl, rfl⟩)
   | (go_at_call 154; (with_reducible refine CN.out.mono ?_); rintro e w2 ⟨rfl, hb⟩; have B1 := zh hb; clear hb))
  have H1 := zh (H0.out.on B1.out)
  obtain ⟨c0, c1, f1, hq⟩ := H1.out.cells
  have hlk := H1.out.look k HKS.out
  rw [EA.out, EB.out, EC.out] at hlk
  unfold leV at *
  have B2 := zh (B1.out.alloc (by have := B1.out.size; omega) (.cells #[.int .i64 a, .int .i64 b, .int .i64 c] 138))
  go_wp2_with (go_at_call 152; (with_reducible refine (CH.out _).mono ?_); rintro e w3 ⟨rfl, hb⟩; have B3 := zh (B2.out.trans (hb.mono B2.out.size)); clear hb)
  exact bodyPost_ret (v := .tuple #[.int .i64 0, .int .i64 9]) (by simp [results, Tryz.results101, go_sem]) rfl (jc5 HX.out H0.out B3.out _)
 case pos =>
  have e1 := HI.1 hhe
  have HD2 := HD.out hhe
  have e2 : Ls.renewN s k ho ep now ttl = max c (Ls.late now ttl) := by unfold Ls.renewN; rw [if_pos e1, EC.out]
  have e3 : Ls.renewS s k ho ep now ttl = ⟨s.margin, Ls.put s.l ⟨k, a, b, max c (Ls.late now ttl), false⟩⟩ := by unfold Ls.renewS; rw [if_pos e1, HD2.1]
  have GD := HD2.2.1
  have FW := HD2.2.2
  rw [HD2.1] at GD FW
  rw [e1, e2, e3]
  have CH := zh (fun W => jdu W a b c now (x := true) (by simpa using hhe))
  have CL := zh (fun W => jc4 W now ttl (by have := HR.out.2.2.2.2.1.1; omega) (by have := HR.out.2.2.2.2.1.2; omega) (by have := HR.out.2.2.2.2.2.1; omega) (by have := HR.out.2.2.2.2.2.2; omega))
  generalize Ls.late now ttl = d at *
  have CP : Hid (∀ W, LsIs W q cs ty mo s → Calls Tryz.prog 155 #[.pointer (some ⟨q, 0, none⟩), .string k, .agg #[.int .i64 a, .int .i64 b, .int .i64 (max c d)]] W (jnr W q cs ty mo ⟨s.margin, Ls.put s.l ⟨k, a, b, max c d, false⟩⟩)) := fun W h => jes W q cs ty mo s h k HKS.out a b (max c d) false GD FW
  clear e1 e2 e3 hhe HI HD HD2 GD FW
  go_enter Tryz.func101, Tryz.ntmps101
  go_upto_region 6 with (first
   | (go_at_call 153; (with_reducible refine CM.out.mono ?_); rintro e w1 ⟨rfl, rfl⟩)
   | (go_at_call 154; (with_reducible refine CN.out.mono ?_); rintro e w2 ⟨rfl, hb⟩; have B1 := zh hb; clear hb))
  have H1 := zh (H0.out.on B1.out)
  obtain ⟨c0, c1, f1, hq⟩ := H1.out.cells
  have hlk := H1.out.look k HKS.out
  rw [EA.out, EB.out, EC.out] at hlk
  unfold leV at *
  go_upto_region 7 with fail
  have B2 := zh (B1.out.alloc (by have := B1.out.size; omega) (.cells #[.int .i64 a, .int .i64 b, .int .i64 c] 138))
  have R2 := zh (heap_alloc_new w2 (.cells #[.int .i64 a, .int .i64 b, .int .i64 c] 138))
  have H2 := zh (H1.out.on ((Below.refl w2.heap.size w2).alloc (Nat.le_refl _) (.cells #[.int .i64 a, .int .i64 b, .int .i64 c] 138)))
  obtain ⟨g, hg⟩ : ∃ g, g = w2.heap.size := ⟨_, rfl⟩
  rw [← hg] at R2 ⊢
  have GB : Hid (w2.heap.size ≤ g) := Nat.le_of_eq hg.symm
  clear hg c0 c1 f1 hq hlk
  have NG : Hid (¬ (g = q ∨ mo = some g)) := fun h => by
   have := GB.out
   have := B1.out.size
   rcases h with rfl | h
   ·have := HX.out.lt g HX.out.q; omega
   ·have := HX.out.lt g (HX.out.m g h); omega
  generalize w2.alloc (.cells #[.int .i64 a, .int .i64 b, .int .i64 c] 138) = w3 at *
  have d0 := LsCells.c0 R2.out
  have d1 := LsCells.c1 R2.out
  have d2 := LsCells.c2 R2.out
  go_upto_region 9 with (go_at_call 152; (with_reducible refine (CH.out _).mono ?_); rintro e w4 ⟨rfl, hb⟩; have B4 := zh (B2.out.trans (hb.mono B2.out.size)); have R4 := zh (jaf R2.out hb); have H4 := zh (H2.out.on hb); clear hb d0 d1 d2)
  have H5 := zh (H4.out.on (Below.refl w4.heap.size w4).drew)
  have B5 := zh B4.out.drew
  have d0 : w4.drew.cell? ⟨g, 0, none⟩ = some (.int .i64 a) := LsCells.c0 R4.out
  have d1 : w4.drew.cell? ⟨g, 1, none⟩ = some (.int .i64 b) := LsCells.c1 R4.out
  have d2 : w4.drew.cell? ⟨g, 2, none⟩ = some (.int .i64 c) := LsCells.c2 R4.out
  have f2 : w4.drew.frozen? ⟨g, 2, none⟩ = false := frozen_of_row _ g 2 _ _ (show w4.drew.heap[g]? = _ from R4.out)
  have lg : g < w4.drew.heap.size := (Array.getElem?_eq_some_iff.1 (show w4.drew.heap[g]? = _ from R4.out)).1
  have R5 : Hid (w4.drew.heap[g]? = some (.cells #[.int .i64 a, .int .i64 b, .int .i64 c] 138 (0, 0))) := R4.out
  have hdr : Hid (Below w1.heap.size w1 w4.drew) := B5.out
  refine wp_region_held_drew (S := fun _ => True) (by kernel_rfl) trivial (fun hS => ?_)
  refine tY 0 hS ?_
  refine tY 2 hS ?_
  refine tY 3 hS ?_
  simp only [Act.put, zT, zO, zS]
  refine jdp 1 4 rfl rfl (by kernel_rfl) rfl rfl (fun K hK => ?_) (fun K hK => ?_)
  ·go_simp
   refine hK.out _ _ hS (fun _ => ?_)
   clear hK K
   try simp only [Act.put, zT, zO, zS]
   refine rO 4 (fun K hK => ?_)
   go_simp
   with_reducible refine (CL.out _).mono ?_
   rintro e w6 ⟨rfl, hw⟩
   obtain rfl := hw.symm
   refine hK.out _ _ hS (fun _ => ?_)
   clear hK K
   refine tY 5 hS ?_
   refine tY 6 hS ?_
   simp only [Act.put, zT, zO, zS]
   refine rO 7 (fun K hK => ?_)
   go_simp
   refine hK.out _ _ hS (fun _ => ?_)
   clear hK K
   refine wpAnyH_done (by kernel_rfl) ?_ _
   have R6 : Hid ((w4.setCell ⟨g, 2, none⟩ (.int .i64 (max c d))).drew.heap[g]? = some (.cells #[.int .i64 a, .int .i64 b, .int .i64 (max c d)] 138 (0, 0))) := heap_setCell_same w4 g 2 _ _ (.int .i64 (max c d)) R4.out
   have B6 : Hid (Below w1.heap.size w1 (w4.setCell ⟨g, 2, none⟩ (.int .i64 (max c d))).drew) := (B4.out.setCell (p := ⟨g, 2, none⟩) (by have := GB.out; have := B1.out.size; show w1.heap.size ≤ g; omega) _).drew
   have H6 : Hid (LsIs (w4.setCell ⟨g, 2, none⟩ (.int .i64 (max c d))).drew q cs ty mo s) := (H4.out.keep (heap_setCell_other _ _ _ _ (fun e => NG.out (.inl e.symm))) (fun m hm => heap_setCell_other _ _ _ _ (fun e => NG.out (.inr (by rw [hm]; exact congrArg some e))))).on (Below.refl _ _).drew
   clear d0 d1 d2 f2 lg hS
   generalize (w4.setCell ⟨g, 2, none⟩ (.int .i64 (max c d))).drew = w6 at *
   have d0 := LsCells.c0 R6.out
   have d1 := LsCells.c1 R6.out
   have d2 := LsCells.c2 R6.out
   go_upto_region 11 with (go_at_call 155; (with_reducible refine (CP.out _ H6.out).mono ?_); rintro e w7 ⟨mo5, rfl, hm5, hk5, hn5⟩; have R7 := zh ((hk5.block g (Array.getElem?_eq_some_iff.1 R6.out).1 NG.out).trans R6.out); have M5 := zh hm5; have K5 := zh hk5; have N5 := zh hn5; clear hm5 hk5 hn5 d0 d1 d2)
   have d2 := LsCells.c2 R7.out
   go_wp2_with fail
   exact bodyPost_ret (v := .tuple #[.int .i64 (max c d), .int .i64 0]) (by simp [results, Tryz.results101, go_sem]) rfl (jfv HX.out B6.out M5.out K5.out N5.out _)
  ·go_simp
   with_reducible refine (CL.out _).mono ?_
   rintro e w6 ⟨rfl, hw⟩
   obtain rfl := hw.symm
   refine hK.out _ _ hS (fun _ => ?_)
   clear hK K
   try simp only [Act.put, zT, zO, zS]
   refine rO 1 (fun K hK => ?_)
   go_simp
   refine hK.out _ _ hS (fun _ => ?_)
   clear hK K
   refine tY 5 hS ?_
   refine tY 6 hS ?_
   simp only [Act.put, zT, zO, zS]
   refine rO 7 (fun K hK => ?_)
   go_simp
   refine hK.out _ _ hS (fun _ => ?_)
   clear hK K
   refine wpAnyH_done (by kernel_rfl) ?_ _
   have R6 : Hid ((w4.setCell ⟨g, 2, none⟩ (.int .i64 (max c d))).drew.heap[g]? = some (.cells #[.int .i64 a, .int .i64 b, .int .i64 (max c d)] 138 (0, 0))) := heap_setCell_same w4 g 2 _ _ (.int .i64 (max c d)) R4.out
   have B6 : Hid (Below w1.heap.size w1 (w4.setCell ⟨g, 2, none⟩ (.int .i64 (max c d))).drew) := (B4.out.setCell (p := ⟨g, 2, none⟩) (by have := GB.out; have := B1.out.size; show w1.heap.size ≤ g; omega) _).drew
   have H6 : Hid (LsIs (w4.setCell ⟨g, 2, none⟩ (.int .i64 (max c d))).drew q cs ty mo s) := (H4.out.keep (heap_setCell_other _ _ _ _ (fun e => NG.out (.inl e.symm))) (fun m hm => heap_setCell_other _ _ _ _ (fun e => NG.out (.inr (by rw [hm]; exact congrArg some e))))).on (Below.refl _ _).drew
   clear d0 d1 d2 f2 lg hS
   generalize (w4.setCell ⟨g, 2, none⟩ (.int .i64 (max c d))).drew = w6 at *
   have d0 := LsCells.c0 R6.out
   have d1 := LsCells.c1 R6.out
   have d2 := LsCells.c2 R6.out
   go_upto_region 11 with (go_at_call 155; (with_reducible refine (CP.out _ H6.out).mono ?_); rintro e w7 ⟨mo5, rfl, hm5, hk5, hn5⟩; have R7 := zh ((hk5.block g (Array.getElem?_eq_some_iff.1 R6.out).1 NG.out).trans R6.out); have M5 := zh hm5; have K5 := zh hk5; have N5 := zh hn5; clear hm5 hk5 hn5 d0 d1 d2)
   have d2 := LsCells.c2 R7.out
   go_wp2_with fail
   exact bodyPost_ret (v := .tuple #[.int .i64 (max c d), .int .i64 0]) (by simp [results, Tryz.results101, go_sem]) rfl (jfv HX.out B6.out M5.out K5.out N5.out _)
end Go.Proofs.YtnacjhnfkkddcaaGreatDoor
