/-
  Layer 16's laws: a step of both. Written by wip/tools/gen/wkdoes.py. No condition.
-/
import Derived.Test.YtgljepjflpijiaaWkDo
import Derived.Test.YtgljepjflpijiaaWkRef6
namespace Go.Proofs.Ytgljepjflpijiaa
open Go.RowKit Go.Deep
set_option linter.unusedSimpArgs false
set_option linter.unusedVariables false
set_option maxRecDepth 100000

/-- What a step makes of a worker. -/
def Wk.stepS (r : Wk.W) (s : WStep) : Wk.W :=
  if Su.um s.k 6 ≤ 1 then Wk.applyS r s.cmd else if Su.um s.k 6 = 2 then Wk.turnS r s.u 1 else if Su.um s.k 6 = 3 then Wk.turnS r s.u 2 else if Su.um s.k 6 = 4 then Wk.turnS r s.u 3 else Wk.fallS r
theorem WStep.cmd_in {s : WStep} (h : s.In) : Nt.In s.cmd := by
  unfold WStep.cmd
  split
  · exact h.m
  · have := Nt.good_in s.m
    exact ⟨by show Nt.i64 1; decide, this.e, this.s, this.u, this.v, this.t⟩
section
variable {L : WkP} {w0 W w w' : World} {F G : Nat → Prop} {q g : Nat} {x r z : Wk.W} {s : WStep}
theorem WkD.turn2 {x' : Wk.W} {v : Value} {e : Ending} (h : WkD L w0 F q W w g x r s z) (hG : ∀ b, (F b ∨ (g ≤ b ∧ b < g + 3)) → G b) (hp : WRes L w0 G q x' v w e w') : e = .returned v ∧ WkD L w0 F q W w' g x' r s z ∧ ∀ b, G b → w'.heap[b]? = w.heap[b]? := by
  obtain ⟨e1, e2, e3⟩ := hp
  exact ⟨e1, ⟨h.a.keep (e3 _ (hG _ (.inr ⟨by omega, by omega⟩))), (e3 _ (hG _ (.inr ⟨by omega, by omega⟩))).trans h.s, h.z.keep (e3 _ (hG _ (.inr ⟨by omega, by omega⟩))), fun b hb => (e3 _ (hG _ (.inl hb))).trans (h.f b hb), e2.less hG, h.hi, h.lo⟩, e3⟩
theorem ws_cell {w : World} {g : Nat} {s : WStep} (h : w.heap[g]? = some (.cells (wsC s) 40 (0, 0))) : w.cell? ⟨g, 1, none⟩ = some (.int .i64 s.u) := by rw [cell_of_row _ _ _ _ _ _ h]; rfl
theorem ws_range {w : World} {g : Nat} {s : WStep} (h : w.heap[g]? = some (.cells (wsC s) 40 (0, 0))) : w.rangeAt g 0 (wsC s).toList := fun j v hv => by
  rw [cell_of_row _ _ _ _ _ _ h, Nat.zero_add]
  simpa using hv
theorem ws_fields : Try.prog.underlying 40 = some (.struct (Try.prog.fieldsOf 40)) := by kernel_rfl
theorem ws_size (s : WStep) : (Try.prog.info? 40).map (·.size) = some (wsC s).size := by kernel_rfl
theorem take_ws {op : Oper} {a : Act} {W : World} (y : Operand) (ho : op.op = .load 40 y) (hy : a.eval y = .pointer (some ⟨g, 0, none⟩)) (h : W.heap[g]? = some (.cells (wsC s) 40 (0, 0))) : (execOp a.eval op).run Try.prog W = .ok (.value (wsV s)) W := by
  unfold execOp
  simp only [ho, hy, Instr.loadAt, Instr.sureAddr, Sem.run_bind, Sem.run_pure, Result.andThen_ok, run_loadVar_row (P := Try.prog) W g 40 40 (wsC s) (0, 0) _ h ws_fields rfl (ws_size s)]
end
theorem nt_rowOff {w : World} {q i : Nat} (h : q ≠ i) (cs : Array Value) : (w.setRow q cs).heap[i]? = w.heap[i]? := by
  simp only [World.setRow]
  rw [Array.getElem?_modify]
  simp [h]
set_option maxHeartbeats 6400000 in
theorem wkdoes_go {L : WkP} (hC : WC L) {w0 W : World} {F : Nat → Prop} {q : Nat} {r : Wk.W} (h : WIn L w0 F q r W) (hF : ∀ b, F b → b < W.heap.size) (s : WStep) (hs : s.In) (hk : Su.um s.k 6 = 2) :
    Calls Try.prog 12 #[wkp q, .agg (Wk.cells r), wsV s] W (WkDPost L w0 F q (Wk.turnS r s.u 1) W) := by
  have hm := (h.ok hC).new
  have hm2 : 1 ≤ r.many ∧ r.many ≤ 16 := ⟨hm.1, hm.2.1⟩
  have D0 := WkD.new hC h s
  obtain ⟨W1, hW⟩ : ∃ W1, W1 = ((W.alloc (.cells (Wk.cells r) 32)).alloc (.cells (wsC s) 40)).alloc (.cells Wk.zeros 32) := ⟨_, rfl⟩
  obtain ⟨g, hg⟩ : ∃ g, g = W.heap.size := ⟨_, rfl⟩
  rw [← hW, ← hg] at D0
  have D := Lib.hid D0
  have HW := Lib.hid hW
  have HG := Lib.hid hg
  have HC := Lib.hid hC; have HM := Lib.hid hm2; have HS := Lib.hid hs; have FF := Lib.hid hF
  have hz := wk_zero
  have K := Lib.hid (wkind_any s)
  rw [hk] at K
  have RT := Lib.hid (fun W => rwturn_any (s := r) s.u 1 (by omega) hm2 W)
  obtain ⟨y, hy⟩ : ∃ y, y = Wk.turnS r s.u 1 := ⟨_, rfl⟩
  obtain ⟨bb, hbb⟩ : ∃ b, b = decide (Wk.turnB r s.u 1) := ⟨_, rfl⟩
  have CW : Hid (∀ G w, WIn L w0 G q r w → Calls Try.prog 21 #[wkp q, .int .i64 s.u] w (WRes L w0 G q y (.bool bb) w)) := fun G w hw => by rw [hy, hbb]; exact win_go hC hw hs.u
  rw [← hy, ← hbb] at RT
  rw [← hy]
  clear hy hbb
  clear hC h hm hm2 hs hF D0 hW hg hk
  go_enter Try.func12, Try.ntmps12
  go_upto_region 1 with fail
  rw [← HW.out, ← HG.out]
  obtain ⟨c0, c1, c2, c3, c4, c5, c6, c7⟩ := D.out.cs
  go_wp2_with fail
  refine (K.out _).mono ?_
  rintro e w2 ⟨rfl, hb⟩
  replace D := Lib.hid (D.out.on HC.out hb FF.out)
  clear hb c0 c1 c2 c3 c4 c5 c6 c7
  obtain ⟨c0, c1, c2, c3, c4, c5, c6, c7⟩ := D.out.cs
  go_upto_region 7 with fail
  go_upto_region 8 with (first
    | ((with_reducible show wpList _ _ _ ({ dst := some 40, op := .load _ _, type := _, pos := _, after := _, guard := _ } :: _) _ _); refine wpList_load_wk rfl (.tmp 4) rfl rfl D.out.a ?_)
    | (go_at_call 29; (with_reducible refine (RT.out _).mono ?_); rintro e w3 ⟨rfl, hb⟩; replace D := Lib.hid (D.out.on HC.out hb FF.out); clear hb)
    | ((with_reducible show wpList _ _ _ ({ dst := none, op := .store _ _ _, type := _, pos := _, after := _, guard := _ } :: _) _ _); refine wpList_store_wk rfl (.tmp 10) (.tmp 44) rfl rfl rfl (WkAt.zero _) ?_))
  obtain ⟨x3, b3⟩ := wk_next w3 y
  have GX : Hid (g + 3 ≤ w3.heap.size) := by have := D.out.z.cs.2.2.2; show _ ≤ _; omega
  obtain ⟨G, hG⟩ : ∃ G : Nat → Prop, G = fun b => (F b ∨ (g ≤ b ∧ b < g + 3)) ∨ (w3.heap.size ≤ b ∧ b < ((w3.alloc (.cells Wk.zeros 32)).setRow w3.heap.size (Wk.cells y)).heap.size) := ⟨_, rfl⟩
  have I := Lib.hid (D.out.i.more HC.out b3)
  rw [← hG] at I
  have GS : Hid (∀ b, (F b ∨ (g ≤ b ∧ b < g + 3)) → G b) := fun b hb => by rw [hG]; exact .inl hb
  have GN : Hid (G w3.heap.size) := by show G _; rw [hG]; exact .inr ⟨Nat.le_refl _, x3.cs.2.2.2⟩
  replace D := Lib.hid (D.out.on HC.out b3 FF.out)
  have X := Lib.hid x3
  obtain ⟨gn, hgn⟩ : ∃ gn, gn = w3.heap.size := ⟨_, rfl⟩
  rw [← hgn] at X GN GX ⊢
  clear x3 b3 c0 c1 c2 c3 c4 c5 c6 c7 hG
  obtain ⟨w4, hw4⟩ : ∃ w4, w4 = (w3.alloc (.cells Wk.zeros 32)).setRow gn (Wk.cells y) := ⟨_, rfl⟩
  rw [← hgn] at D I
  rw [← hw4] at X D I ⊢
  clear hw4 hgn
  refine wp_region_held_drew (S := fun V => WkAt V gn y ∧ V.heap[g + 1]? = some (.cells (wsC s) 40 (0, 0))) (by kernel_rfl) ⟨X.out.on (Below.refl _ _).drew, blk_on D.out.s (Below.refl _ _).drew⟩ (fun hS => ?_)
  replace D := Lib.hid (D.out.on HC.out (Below.refl w4.heap.size w4).drew FF.out)
  replace I := Lib.hid (I.out.on HC.out (Below.refl w4.heap.size w4).drew)
  obtain ⟨w5, hw5⟩ : ∃ w5, w5 = w4.drew := ⟨_, rfl⟩
  rw [← hw5] at D I hS ⊢
  clear hw5 X
  refine tkYes 0 (v := .agg (Wk.cells y)) rfl (by kernel_rfl) (fun _ _ _ h => h) rfl (fun W hW => take_wk (.tmp 10) rfl rfl hW.1) hS ?_
  simp only [Act.put, List.setIfInBounds_toArray, List.set_cons_zero, List.set_cons_succ]
  refine tkYes 1 (v := ?_) rfl (by kernel_rfl) (fun _ _ _ h => h) rfl ?_ hS ?_
  rotate_left
  · intro W hW; go_simp; (try with_reducible rfl)
  simp only [Act.put, List.setIfInBounds_toArray, List.set_cons_zero, List.set_cons_succ]
  refine tkYes 2 (v := ?_) rfl (by kernel_rfl) (fun _ _ _ h => h) rfl ?_ hS ?_
  rotate_left
  · intro W hW; go_simp; (try with_reducible rfl)
  simp only [Act.put, List.setIfInBounds_toArray, List.set_cons_zero, List.set_cons_succ]
  refine tkYes 3 (v := ?_) rfl (by kernel_rfl) (fun _ _ _ h => h) rfl ?_ hS ?_
  rotate_left
  · intro W hW; have d1 := ws_cell hW.2; go_simp; (try with_reducible rfl)
  simp only [Act.put, List.setIfInBounds_toArray, List.set_cons_zero, List.set_cons_succ]
  refine tkYes 5 (v := ?_) rfl (by kernel_rfl) (fun _ _ _ h => h) rfl ?_ hS ?_
  rotate_left
  · intro W hW; go_simp; (try with_reducible rfl)
  simp only [Act.put, List.setIfInBounds_toArray, List.set_cons_zero, List.set_cons_succ]
  refine rnOne 4 rfl (by kernel_rfl) rfl (fun K hK => ?_)
  go_simp
  with_reducible refine (CW.out _ _ I.out).mono ?_
  intro e w7 hp
  obtain ⟨rfl, hd, hg7⟩ := D.out.turn2 GS.out hp
  replace D := Lib.hid hd
  replace hS := And.intro (hS.1.keep (hg7 _ GN.out)) ((hg7 _ (GS.out _ (.inr ⟨by omega, by omega⟩))).trans hS.2)
  clear hd hp hg7
  try go_simp
  refine hK.out _ _ hS (fun _ => ?_)
  clear hK K
  try simp only [Act.put, List.setIfInBounds_toArray, List.set_cons_zero, List.set_cons_succ]
  refine tkYes 6 (v := ?_) rfl (by kernel_rfl) (fun _ _ _ h => h) rfl ?_ hS ?_
  rotate_left
  · intro W hW; go_simp; (try with_reducible rfl)
  simp only [Act.put, List.setIfInBounds_toArray, List.set_cons_zero, List.set_cons_succ]
  refine rnOne 7 rfl (by kernel_rfl) rfl (fun K hK => ?_)
  refine wp_store_row 32 (.tmp 6) (.tmp 46) rfl (g + 2) (Wk.cells y) rfl rfl 32 _ D.out.z.row (wk_size _) rfl (wk_one _) ?_
  replace hS := And.intro (wk_offRow hS.1 (q := g + 2) (by have := GX.out; omega) (Wk.cells y)) ((nt_rowOff (q := g + 2) (by omega) (Wk.cells y)).trans hS.2)
  replace D := Lib.hid (D.out.put HC.out FF.out y)
  refine hK.out _ _ hS (fun _ => ?_)
  clear hK K
  try simp only [Act.put, List.setIfInBounds_toArray, List.set_cons_zero, List.set_cons_succ]
  refine tkYes 8 (v := ?_) rfl (by kernel_rfl) (fun _ _ _ h => h) rfl ?_ hS ?_
  rotate_left
  · intro W hW; go_simp; (try with_reducible rfl)
  simp only [Act.put, List.setIfInBounds_toArray, List.set_cons_zero, List.set_cons_succ]
  refine wpAnyH_done (by kernel_rfl) ?_ _
  go_wp2_with fail
  refine wkd_ret Try.results12 D.out rfl ?_ rfl
  simp
set_option maxHeartbeats 6400000 in
theorem wkdoes_hurt {L : WkP} (hC : WC L) {w0 W : World} {F : Nat → Prop} {q : Nat} {r : Wk.W} (h : WIn L w0 F q r W) (hF : ∀ b, F b → b < W.heap.size) (s : WStep) (hs : s.In) (hk : Su.um s.k 6 = 3) :
    Calls Try.prog 12 #[wkp q, .agg (Wk.cells r), wsV s] W (WkDPost L w0 F q (Wk.turnS r s.u 2) W) := by
  have hm := (h.ok hC).new
  have hm2 : 1 ≤ r.many ∧ r.many ≤ 16 := ⟨hm.1, hm.2.1⟩
  have D0 := WkD.new hC h s
  obtain ⟨W1, hW⟩ : ∃ W1, W1 = ((W.alloc (.cells (Wk.cells r) 32)).alloc (.cells (wsC s) 40)).alloc (.cells Wk.zeros 32) := ⟨_, rfl⟩
  obtain ⟨g, hg⟩ : ∃ g, g = W.heap.size := ⟨_, rfl⟩
  rw [← hW, ← hg] at D0
  have D := Lib.hid D0
  have HW := Lib.hid hW
  have HG := Lib.hid hg
  have HC := Lib.hid hC; have HM := Lib.hid hm2; have HS := Lib.hid hs; have FF := Lib.hid hF
  have hz := wk_zero
  have K := Lib.hid (wkind_any s)
  rw [hk] at K
  have RT := Lib.hid (fun W => rwturn_any (s := r) s.u 2 (by omega) hm2 W)
  obtain ⟨y, hy⟩ : ∃ y, y = Wk.turnS r s.u 2 := ⟨_, rfl⟩
  obtain ⟨bb, hbb⟩ : ∃ b, b = decide (Wk.turnB r s.u 2) := ⟨_, rfl⟩
  have CW : Hid (∀ G w, WIn L w0 G q r w → Calls Try.prog 23 #[wkp q, .int .i64 s.u] w (WRes L w0 G q y (.bool bb) w)) := fun G w hw => by rw [hy, hbb]; exact win_hurt hC hw hs.u
  rw [← hy, ← hbb] at RT
  rw [← hy]
  clear hy hbb
  clear hC h hm hm2 hs hF D0 hW hg hk
  go_enter Try.func12, Try.ntmps12
  go_upto_region 1 with fail
  rw [← HW.out, ← HG.out]
  obtain ⟨c0, c1, c2, c3, c4, c5, c6, c7⟩ := D.out.cs
  go_wp2_with fail
  refine (K.out _).mono ?_
  rintro e w2 ⟨rfl, hb⟩
  replace D := Lib.hid (D.out.on HC.out hb FF.out)
  clear hb c0 c1 c2 c3 c4 c5 c6 c7
  obtain ⟨c0, c1, c2, c3, c4, c5, c6, c7⟩ := D.out.cs
  go_upto_region 10 with fail
  go_upto_region 11 with (first
    | ((with_reducible show wpList _ _ _ ({ dst := some 56, op := .load _ _, type := _, pos := _, after := _, guard := _ } :: _) _ _); refine wpList_load_wk rfl (.tmp 4) rfl rfl D.out.a ?_)
    | (go_at_call 29; (with_reducible refine (RT.out _).mono ?_); rintro e w3 ⟨rfl, hb⟩; replace D := Lib.hid (D.out.on HC.out hb FF.out); clear hb)
    | ((with_reducible show wpList _ _ _ ({ dst := none, op := .store _ _ _, type := _, pos := _, after := _, guard := _ } :: _) _ _); refine wpList_store_wk rfl (.tmp 12) (.tmp 60) rfl rfl rfl (WkAt.zero _) ?_))
  obtain ⟨x3, b3⟩ := wk_next w3 y
  have GX : Hid (g + 3 ≤ w3.heap.size) := by have := D.out.z.cs.2.2.2; show _ ≤ _; omega
  obtain ⟨G, hG⟩ : ∃ G : Nat → Prop, G = fun b => (F b ∨ (g ≤ b ∧ b < g + 3)) ∨ (w3.heap.size ≤ b ∧ b < ((w3.alloc (.cells Wk.zeros 32)).setRow w3.heap.size (Wk.cells y)).heap.size) := ⟨_, rfl⟩
  have I := Lib.hid (D.out.i.more HC.out b3)
  rw [← hG] at I
  have GS : Hid (∀ b, (F b ∨ (g ≤ b ∧ b < g + 3)) → G b) := fun b hb => by rw [hG]; exact .inl hb
  have GN : Hid (G w3.heap.size) := by show G _; rw [hG]; exact .inr ⟨Nat.le_refl _, x3.cs.2.2.2⟩
  replace D := Lib.hid (D.out.on HC.out b3 FF.out)
  have X := Lib.hid x3
  obtain ⟨gn, hgn⟩ : ∃ gn, gn = w3.heap.size := ⟨_, rfl⟩
  rw [← hgn] at X GN GX ⊢
  clear x3 b3 c0 c1 c2 c3 c4 c5 c6 c7 hG
  obtain ⟨w4, hw4⟩ : ∃ w4, w4 = (w3.alloc (.cells Wk.zeros 32)).setRow gn (Wk.cells y) := ⟨_, rfl⟩
  rw [← hgn] at D I
  rw [← hw4] at X D I ⊢
  clear hw4 hgn
  refine wp_region_held_drew (S := fun V => WkAt V gn y ∧ V.heap[g + 1]? = some (.cells (wsC s) 40 (0, 0))) (by kernel_rfl) ⟨X.out.on (Below.refl _ _).drew, blk_on D.out.s (Below.refl _ _).drew⟩ (fun hS => ?_)
  replace D := Lib.hid (D.out.on HC.out (Below.refl w4.heap.size w4).drew FF.out)
  replace I := Lib.hid (I.out.on HC.out (Below.refl w4.heap.size w4).drew)
  obtain ⟨w5, hw5⟩ : ∃ w5, w5 = w4.drew := ⟨_, rfl⟩
  rw [← hw5] at D I hS ⊢
  clear hw5 X
  refine tkYes 0 (v := .agg (Wk.cells y)) rfl (by kernel_rfl) (fun _ _ _ h => h) rfl (fun W hW => take_wk (.tmp 12) rfl rfl hW.1) hS ?_
  simp only [Act.put, List.setIfInBounds_toArray, List.set_cons_zero, List.set_cons_succ]
  refine tkYes 1 (v := ?_) rfl (by kernel_rfl) (fun _ _ _ h => h) rfl ?_ hS ?_
  rotate_left
  · intro W hW; go_simp; (try with_reducible rfl)
  simp only [Act.put, List.setIfInBounds_toArray, List.set_cons_zero, List.set_cons_succ]
  refine tkYes 2 (v := ?_) rfl (by kernel_rfl) (fun _ _ _ h => h) rfl ?_ hS ?_
  rotate_left
  · intro W hW; go_simp; (try with_reducible rfl)
  simp only [Act.put, List.setIfInBounds_toArray, List.set_cons_zero, List.set_cons_succ]
  refine tkYes 3 (v := ?_) rfl (by kernel_rfl) (fun _ _ _ h => h) rfl ?_ hS ?_
  rotate_left
  · intro W hW; have d1 := ws_cell hW.2; go_simp; (try with_reducible rfl)
  simp only [Act.put, List.setIfInBounds_toArray, List.set_cons_zero, List.set_cons_succ]
  refine tkYes 5 (v := ?_) rfl (by kernel_rfl) (fun _ _ _ h => h) rfl ?_ hS ?_
  rotate_left
  · intro W hW; go_simp; (try with_reducible rfl)
  simp only [Act.put, List.setIfInBounds_toArray, List.set_cons_zero, List.set_cons_succ]
  refine rnOne 4 rfl (by kernel_rfl) rfl (fun K hK => ?_)
  go_simp
  with_reducible refine (CW.out _ _ I.out).mono ?_
  intro e w7 hp
  obtain ⟨rfl, hd, hg7⟩ := D.out.turn2 GS.out hp
  replace D := Lib.hid hd
  replace hS := And.intro (hS.1.keep (hg7 _ GN.out)) ((hg7 _ (GS.out _ (.inr ⟨by omega, by omega⟩))).trans hS.2)
  clear hd hp hg7
  try go_simp
  refine hK.out _ _ hS (fun _ => ?_)
  clear hK K
  try simp only [Act.put, List.setIfInBounds_toArray, List.set_cons_zero, List.set_cons_succ]
  refine tkYes 6 (v := ?_) rfl (by kernel_rfl) (fun _ _ _ h => h) rfl ?_ hS ?_
  rotate_left
  · intro W hW; go_simp; (try with_reducible rfl)
  simp only [Act.put, List.setIfInBounds_toArray, List.set_cons_zero, List.set_cons_succ]
  refine rnOne 7 rfl (by kernel_rfl) rfl (fun K hK => ?_)
  refine wp_store_row 32 (.tmp 6) (.tmp 62) rfl (g + 2) (Wk.cells y) rfl rfl 32 _ D.out.z.row (wk_size _) rfl (wk_one _) ?_
  replace hS := And.intro (wk_offRow hS.1 (q := g + 2) (by have := GX.out; omega) (Wk.cells y)) ((nt_rowOff (q := g + 2) (by omega) (Wk.cells y)).trans hS.2)
  replace D := Lib.hid (D.out.put HC.out FF.out y)
  refine hK.out _ _ hS (fun _ => ?_)
  clear hK K
  try simp only [Act.put, List.setIfInBounds_toArray, List.set_cons_zero, List.set_cons_succ]
  refine tkYes 8 (v := ?_) rfl (by kernel_rfl) (fun _ _ _ h => h) rfl ?_ hS ?_
  rotate_left
  · intro W hW; go_simp; (try with_reducible rfl)
  simp only [Act.put, List.setIfInBounds_toArray, List.set_cons_zero, List.set_cons_succ]
  refine wpAnyH_done (by kernel_rfl) ?_ _
  go_wp2_with fail
  refine wkd_ret Try.results12 D.out rfl ?_ rfl
  simp
set_option maxHeartbeats 6400000 in
theorem wkdoes_heal {L : WkP} (hC : WC L) {w0 W : World} {F : Nat → Prop} {q : Nat} {r : Wk.W} (h : WIn L w0 F q r W) (hF : ∀ b, F b → b < W.heap.size) (s : WStep) (hs : s.In) (hk : Su.um s.k 6 = 4) :
    Calls Try.prog 12 #[wkp q, .agg (Wk.cells r), wsV s] W (WkDPost L w0 F q (Wk.turnS r s.u 3) W) := by
  have hm := (h.ok hC).new
  have hm2 : 1 ≤ r.many ∧ r.many ≤ 16 := ⟨hm.1, hm.2.1⟩
  have D0 := WkD.new hC h s
  obtain ⟨W1, hW⟩ : ∃ W1, W1 = ((W.alloc (.cells (Wk.cells r) 32)).alloc (.cells (wsC s) 40)).alloc (.cells Wk.zeros 32) := ⟨_, rfl⟩
  obtain ⟨g, hg⟩ : ∃ g, g = W.heap.size := ⟨_, rfl⟩
  rw [← hW, ← hg] at D0
  have D := Lib.hid D0
  have HW := Lib.hid hW
  have HG := Lib.hid hg
  have HC := Lib.hid hC; have HM := Lib.hid hm2; have HS := Lib.hid hs; have FF := Lib.hid hF
  have hz := wk_zero
  have K := Lib.hid (wkind_any s)
  rw [hk] at K
  have RT := Lib.hid (fun W => rwturn_any (s := r) s.u 3 (by omega) hm2 W)
  obtain ⟨y, hy⟩ : ∃ y, y = Wk.turnS r s.u 3 := ⟨_, rfl⟩
  obtain ⟨bb, hbb⟩ : ∃ b, b = decide (Wk.turnB r s.u 3) := ⟨_, rfl⟩
  have CW : Hid (∀ G w, WIn L w0 G q r w → Calls Try.prog 24 #[wkp q, .int .i64 s.u] w (WRes L w0 G q y (.bool bb) w)) := fun G w hw => by rw [hy, hbb]; exact win_heal hC hw hs.u
  rw [← hy, ← hbb] at RT
  rw [← hy]
  clear hy hbb
  clear hC h hm hm2 hs hF D0 hW hg hk
  go_enter Try.func12, Try.ntmps12
  go_upto_region 1 with fail
  rw [← HW.out, ← HG.out]
  obtain ⟨c0, c1, c2, c3, c4, c5, c6, c7⟩ := D.out.cs
  go_wp2_with fail
  refine (K.out _).mono ?_
  rintro e w2 ⟨rfl, hb⟩
  replace D := Lib.hid (D.out.on HC.out hb FF.out)
  clear hb c0 c1 c2 c3 c4 c5 c6 c7
  obtain ⟨c0, c1, c2, c3, c4, c5, c6, c7⟩ := D.out.cs
  go_upto_region 13 with fail
  go_upto_region 14 with (first
    | ((with_reducible show wpList _ _ _ ({ dst := some 72, op := .load _ _, type := _, pos := _, after := _, guard := _ } :: _) _ _); refine wpList_load_wk rfl (.tmp 4) rfl rfl D.out.a ?_)
    | (go_at_call 29; (with_reducible refine (RT.out _).mono ?_); rintro e w3 ⟨rfl, hb⟩; replace D := Lib.hid (D.out.on HC.out hb FF.out); clear hb)
    | ((with_reducible show wpList _ _ _ ({ dst := none, op := .store _ _ _, type := _, pos := _, after := _, guard := _ } :: _) _ _); refine wpList_store_wk rfl (.tmp 14) (.tmp 76) rfl rfl rfl (WkAt.zero _) ?_))
  obtain ⟨x3, b3⟩ := wk_next w3 y
  have GX : Hid (g + 3 ≤ w3.heap.size) := by have := D.out.z.cs.2.2.2; show _ ≤ _; omega
  obtain ⟨G, hG⟩ : ∃ G : Nat → Prop, G = fun b => (F b ∨ (g ≤ b ∧ b < g + 3)) ∨ (w3.heap.size ≤ b ∧ b < ((w3.alloc (.cells Wk.zeros 32)).setRow w3.heap.size (Wk.cells y)).heap.size) := ⟨_, rfl⟩
  have I := Lib.hid (D.out.i.more HC.out b3)
  rw [← hG] at I
  have GS : Hid (∀ b, (F b ∨ (g ≤ b ∧ b < g + 3)) → G b) := fun b hb => by rw [hG]; exact .inl hb
  have GN : Hid (G w3.heap.size) := by show G _; rw [hG]; exact .inr ⟨Nat.le_refl _, x3.cs.2.2.2⟩
  replace D := Lib.hid (D.out.on HC.out b3 FF.out)
  have X := Lib.hid x3
  obtain ⟨gn, hgn⟩ : ∃ gn, gn = w3.heap.size := ⟨_, rfl⟩
  rw [← hgn] at X GN GX ⊢
  clear x3 b3 c0 c1 c2 c3 c4 c5 c6 c7 hG
  obtain ⟨w4, hw4⟩ : ∃ w4, w4 = (w3.alloc (.cells Wk.zeros 32)).setRow gn (Wk.cells y) := ⟨_, rfl⟩
  rw [← hgn] at D I
  rw [← hw4] at X D I ⊢
  clear hw4 hgn
  refine wp_region_held_drew (S := fun V => WkAt V gn y ∧ V.heap[g + 1]? = some (.cells (wsC s) 40 (0, 0))) (by kernel_rfl) ⟨X.out.on (Below.refl _ _).drew, blk_on D.out.s (Below.refl _ _).drew⟩ (fun hS => ?_)
  replace D := Lib.hid (D.out.on HC.out (Below.refl w4.heap.size w4).drew FF.out)
  replace I := Lib.hid (I.out.on HC.out (Below.refl w4.heap.size w4).drew)
  obtain ⟨w5, hw5⟩ : ∃ w5, w5 = w4.drew := ⟨_, rfl⟩
  rw [← hw5] at D I hS ⊢
  clear hw5 X
  refine tkYes 0 (v := .agg (Wk.cells y)) rfl (by kernel_rfl) (fun _ _ _ h => h) rfl (fun W hW => take_wk (.tmp 14) rfl rfl hW.1) hS ?_
  simp only [Act.put, List.setIfInBounds_toArray, List.set_cons_zero, List.set_cons_succ]
  refine tkYes 1 (v := ?_) rfl (by kernel_rfl) (fun _ _ _ h => h) rfl ?_ hS ?_
  rotate_left
  · intro W hW; go_simp; (try with_reducible rfl)
  simp only [Act.put, List.setIfInBounds_toArray, List.set_cons_zero, List.set_cons_succ]
  refine tkYes 2 (v := ?_) rfl (by kernel_rfl) (fun _ _ _ h => h) rfl ?_ hS ?_
  rotate_left
  · intro W hW; go_simp; (try with_reducible rfl)
  simp only [Act.put, List.setIfInBounds_toArray, List.set_cons_zero, List.set_cons_succ]
  refine tkYes 3 (v := ?_) rfl (by kernel_rfl) (fun _ _ _ h => h) rfl ?_ hS ?_
  rotate_left
  · intro W hW; have d1 := ws_cell hW.2; go_simp; (try with_reducible rfl)
  simp only [Act.put, List.setIfInBounds_toArray, List.set_cons_zero, List.set_cons_succ]
  refine tkYes 5 (v := ?_) rfl (by kernel_rfl) (fun _ _ _ h => h) rfl ?_ hS ?_
  rotate_left
  · intro W hW; go_simp; (try with_reducible rfl)
  simp only [Act.put, List.setIfInBounds_toArray, List.set_cons_zero, List.set_cons_succ]
  refine rnOne 4 rfl (by kernel_rfl) rfl (fun K hK => ?_)
  go_simp
  with_reducible refine (CW.out _ _ I.out).mono ?_
  intro e w7 hp
  obtain ⟨rfl, hd, hg7⟩ := D.out.turn2 GS.out hp
  replace D := Lib.hid hd
  replace hS := And.intro (hS.1.keep (hg7 _ GN.out)) ((hg7 _ (GS.out _ (.inr ⟨by omega, by omega⟩))).trans hS.2)
  clear hd hp hg7
  try go_simp
  refine hK.out _ _ hS (fun _ => ?_)
  clear hK K
  try simp only [Act.put, List.setIfInBounds_toArray, List.set_cons_zero, List.set_cons_succ]
  refine tkYes 6 (v := ?_) rfl (by kernel_rfl) (fun _ _ _ h => h) rfl ?_ hS ?_
  rotate_left
  · intro W hW; go_simp; (try with_reducible rfl)
  simp only [Act.put, List.setIfInBounds_toArray, List.set_cons_zero, List.set_cons_succ]
  refine rnOne 7 rfl (by kernel_rfl) rfl (fun K hK => ?_)
  refine wp_store_row 32 (.tmp 6) (.tmp 78) rfl (g + 2) (Wk.cells y) rfl rfl 32 _ D.out.z.row (wk_size _) rfl (wk_one _) ?_
  replace hS := And.intro (wk_offRow hS.1 (q := g + 2) (by have := GX.out; omega) (Wk.cells y)) ((nt_rowOff (q := g + 2) (by omega) (Wk.cells y)).trans hS.2)
  replace D := Lib.hid (D.out.put HC.out FF.out y)
  refine hK.out _ _ hS (fun _ => ?_)
  clear hK K
  try simp only [Act.put, List.setIfInBounds_toArray, List.set_cons_zero, List.set_cons_succ]
  refine tkYes 8 (v := ?_) rfl (by kernel_rfl) (fun _ _ _ h => h) rfl ?_ hS ?_
  rotate_left
  · intro W hW; go_simp; (try with_reducible rfl)
  simp only [Act.put, List.setIfInBounds_toArray, List.set_cons_zero, List.set_cons_succ]
  refine wpAnyH_done (by kernel_rfl) ?_ _
  go_wp2_with fail
  refine wkd_ret Try.results12 D.out rfl ?_ rfl
  simp
set_option maxHeartbeats 6400000 in
theorem wkdoes_fall {L : WkP} (hC : WC L) {w0 W : World} {F : Nat → Prop} {q : Nat} {r : Wk.W} (h : WIn L w0 F q r W) (hF : ∀ b, F b → b < W.heap.size) (s : WStep) (hs : s.In) (hk : Su.um s.k 6 = 5) :
    Calls Try.prog 12 #[wkp q, .agg (Wk.cells r), wsV s] W (WkDPost L w0 F q (Wk.fallS r) W) := by
  have hm := (h.ok hC).new
  have hm2 : 1 ≤ r.many ∧ r.many ≤ 16 := ⟨hm.1, hm.2.1⟩
  have D0 := WkD.new hC h s
  obtain ⟨W1, hW⟩ : ∃ W1, W1 = ((W.alloc (.cells (Wk.cells r) 32)).alloc (.cells (wsC s) 40)).alloc (.cells Wk.zeros 32) := ⟨_, rfl⟩
  obtain ⟨g, hg⟩ : ∃ g, g = W.heap.size := ⟨_, rfl⟩
  rw [← hW, ← hg] at D0
  have D := Lib.hid D0
  have HW := Lib.hid hW
  have HG := Lib.hid hg
  have HC := Lib.hid hC; have HM := Lib.hid hm2; have HS := Lib.hid hs; have FF := Lib.hid hF
  have hz := wk_zero
  have K := Lib.hid (wkind_any s)
  rw [hk] at K
  have RT := Lib.hid (fun W => rwfall_any r W)
  obtain ⟨y, hy⟩ : ∃ y, y = Wk.fallS r := ⟨_, rfl⟩
  obtain ⟨nn, hnn⟩ : ∃ n, n = Wk.fallN r.l 16 := ⟨_, rfl⟩
  have CW : Hid (∀ G w, WIn L w0 G q r w → Calls Try.prog 20 #[wkp q] w (WRes L w0 G q y (.int .i64 ((nn : Nat) : Int)) w)) := fun G w hw => by rw [hy, hnn]; exact win_fall hC hw
  rw [← hy, ← hnn] at RT
  rw [← hy]
  clear hy hnn
  clear hC h hm hm2 hs hF D0 hW hg hk
  go_enter Try.func12, Try.ntmps12
  go_upto_region 1 with fail
  rw [← HW.out, ← HG.out]
  obtain ⟨c0, c1, c2, c3, c4, c5, c6, c7⟩ := D.out.cs
  go_wp2_with fail
  refine (K.out _).mono ?_
  rintro e w2 ⟨rfl, hb⟩
  replace D := Lib.hid (D.out.on HC.out hb FF.out)
  clear hb c0 c1 c2 c3 c4 c5 c6 c7
  obtain ⟨c0, c1, c2, c3, c4, c5, c6, c7⟩ := D.out.cs
  go_upto_region 15 with fail
  go_upto_region 16 with (first
    | ((with_reducible show wpList _ _ _ ({ dst := some 86, op := .load _ _, type := _, pos := _, after := _, guard := _ } :: _) _ _); refine wpList_load_wk rfl (.tmp 4) rfl rfl D.out.a ?_)
    | (go_at_call 30; (with_reducible refine (RT.out _).mono ?_); rintro e w3 ⟨rfl, hb⟩; replace D := Lib.hid (D.out.on HC.out hb FF.out); clear hb)
    | ((with_reducible show wpList _ _ _ ({ dst := none, op := .store _ _ _, type := _, pos := _, after := _, guard := _ } :: _) _ _); refine wpList_store_wk rfl (.tmp 16) (.tmp 88) rfl rfl rfl (WkAt.zero _) ?_))
  obtain ⟨x3, b3⟩ := wk_next w3 y
  have GX : Hid (g + 3 ≤ w3.heap.size) := by have := D.out.z.cs.2.2.2; show _ ≤ _; omega
  obtain ⟨G, hG⟩ : ∃ G : Nat → Prop, G = fun b => (F b ∨ (g ≤ b ∧ b < g + 3)) ∨ (w3.heap.size ≤ b ∧ b < ((w3.alloc (.cells Wk.zeros 32)).setRow w3.heap.size (Wk.cells y)).heap.size) := ⟨_, rfl⟩
  have I := Lib.hid (D.out.i.more HC.out b3)
  rw [← hG] at I
  have GS : Hid (∀ b, (F b ∨ (g ≤ b ∧ b < g + 3)) → G b) := fun b hb => by rw [hG]; exact .inl hb
  have GN : Hid (G w3.heap.size) := by show G _; rw [hG]; exact .inr ⟨Nat.le_refl _, x3.cs.2.2.2⟩
  replace D := Lib.hid (D.out.on HC.out b3 FF.out)
  have X := Lib.hid x3
  obtain ⟨gn, hgn⟩ : ∃ gn, gn = w3.heap.size := ⟨_, rfl⟩
  rw [← hgn] at X GN GX ⊢
  clear x3 b3 c0 c1 c2 c3 c4 c5 c6 c7 hG
  obtain ⟨w4, hw4⟩ : ∃ w4, w4 = (w3.alloc (.cells Wk.zeros 32)).setRow gn (Wk.cells y) := ⟨_, rfl⟩
  rw [← hgn] at D I
  rw [← hw4] at X D I ⊢
  clear hw4 hgn
  refine wp_region_held_drew (S := fun V => WkAt V gn y ∧ V.heap[g + 1]? = some (.cells (wsC s) 40 (0, 0))) (by kernel_rfl) ⟨X.out.on (Below.refl _ _).drew, blk_on D.out.s (Below.refl _ _).drew⟩ (fun hS => ?_)
  replace D := Lib.hid (D.out.on HC.out (Below.refl w4.heap.size w4).drew FF.out)
  replace I := Lib.hid (I.out.on HC.out (Below.refl w4.heap.size w4).drew)
  obtain ⟨w5, hw5⟩ : ∃ w5, w5 = w4.drew := ⟨_, rfl⟩
  rw [← hw5] at D I hS ⊢
  clear hw5 X
  refine tkYes 0 (v := .agg (Wk.cells y)) rfl (by kernel_rfl) (fun _ _ _ h => h) rfl (fun W hW => take_wk (.tmp 16) rfl rfl hW.1) hS ?_
  simp only [Act.put, List.setIfInBounds_toArray, List.set_cons_zero, List.set_cons_succ]
  refine tkYes 1 (v := ?_) rfl (by kernel_rfl) (fun _ _ _ h => h) rfl ?_ hS ?_
  rotate_left
  · intro W hW; go_simp; (try with_reducible rfl)
  simp only [Act.put, List.setIfInBounds_toArray, List.set_cons_zero, List.set_cons_succ]
  refine tkYes 3 (v := ?_) rfl (by kernel_rfl) (fun _ _ _ h => h) rfl ?_ hS ?_
  rotate_left
  · intro W hW; go_simp; (try with_reducible rfl)
  simp only [Act.put, List.setIfInBounds_toArray, List.set_cons_zero, List.set_cons_succ]
  refine rnOne 2 rfl (by kernel_rfl) rfl (fun K hK => ?_)
  go_simp
  with_reducible refine (CW.out _ _ I.out).mono ?_
  intro e w7 hp
  obtain ⟨rfl, hd, hg7⟩ := D.out.turn2 GS.out hp
  replace D := Lib.hid hd
  replace hS := And.intro (hS.1.keep (hg7 _ GN.out)) ((hg7 _ (GS.out _ (.inr ⟨by omega, by omega⟩))).trans hS.2)
  clear hd hp hg7
  try go_simp
  refine hK.out _ _ hS (fun _ => ?_)
  clear hK K
  try simp only [Act.put, List.setIfInBounds_toArray, List.set_cons_zero, List.set_cons_succ]
  refine tkYes 4 (v := ?_) rfl (by kernel_rfl) (fun _ _ _ h => h) rfl ?_ hS ?_
  rotate_left
  · intro W hW; go_simp; (try with_reducible rfl)
  simp only [Act.put, List.setIfInBounds_toArray, List.set_cons_zero, List.set_cons_succ]
  refine rnOne 5 rfl (by kernel_rfl) rfl (fun K hK => ?_)
  refine wp_store_row 32 (.tmp 6) (.tmp 90) rfl (g + 2) (Wk.cells y) rfl rfl 32 _ D.out.z.row (wk_size _) rfl (wk_one _) ?_
  replace hS := And.intro (wk_offRow hS.1 (q := g + 2) (by have := GX.out; omega) (Wk.cells y)) ((nt_rowOff (q := g + 2) (by omega) (Wk.cells y)).trans hS.2)
  replace D := Lib.hid (D.out.put HC.out FF.out y)
  refine hK.out _ _ hS (fun _ => ?_)
  clear hK K
  try simp only [Act.put, List.setIfInBounds_toArray, List.set_cons_zero, List.set_cons_succ]
  refine tkYes 6 (v := ?_) rfl (by kernel_rfl) (fun _ _ _ h => h) rfl ?_ hS ?_
  rotate_left
  · intro W hW; go_simp; (try with_reducible rfl)
  simp only [Act.put, List.setIfInBounds_toArray, List.set_cons_zero, List.set_cons_succ]
  refine wpAnyH_done (by kernel_rfl) ?_ _
  go_wp2_with fail
  refine wkd_ret Try.results12 D.out rfl ?_ rfl
  simp
set_option maxHeartbeats 6400000 in
theorem wkdoes_zero {L : WkP} (hC : WC L) {w0 W : World} {F : Nat → Prop} {q : Nat} {r : Wk.W} (h : WIn L w0 F q r W) (hF : ∀ b, F b → b < W.heap.size) (s : WStep) (hs : s.In) (hk : Su.um s.k 6 = 0) :
    Calls Try.prog 12 #[wkp q, .agg (Wk.cells r), wsV s] W (WkDPost L w0 F q (Wk.applyS r s.cmd) W) := by
  have hm := (h.ok hC).new
  have hm2 : 1 ≤ r.many ∧ r.many ≤ 16 := ⟨hm.1, hm.2.1⟩
  have D0 := WkD.new hC h s
  obtain ⟨W1, hW⟩ : ∃ W1, W1 = ((W.alloc (.cells (Wk.cells r) 32)).alloc (.cells (wsC s) 40)).alloc (.cells Wk.zeros 32) := ⟨_, rfl⟩
  obtain ⟨g, hg⟩ : ∃ g, g = W.heap.size := ⟨_, rfl⟩
  rw [← hW, ← hg] at D0
  have D := Lib.hid D0
  have HW := Lib.hid hW
  have HG := Lib.hid hg
  have HC := Lib.hid hC; have HM := Lib.hid hm2; have HS := Lib.hid hs; have FF := Lib.hid hF
  have hz := wk_zero
  have K := Lib.hid (wkind_any s)
  rw [hk] at K
  have RT := Lib.hid (fun W => rwapply_any (s := r) s.cmd hm2 W)
  obtain ⟨y, hy⟩ : ∃ y, y = Wk.applyS r s.cmd := ⟨_, rfl⟩
  obtain ⟨nn, hnn⟩ : ∃ n, n = Wk.applyE r s.cmd := ⟨_, rfl⟩
  have CW : Hid (∀ G w, WIn L w0 G q r w → Calls Try.prog 17 #[wkp q, Nt.val s.cmd] w (WRes L w0 G q y (.int .i64 nn) w)) := fun G w hw => by rw [hy, hnn]; exact win_apply hC hw (WStep.cmd_in hs)
  rw [← hy, ← hnn] at RT
  rw [← hy]
  clear hy hnn
  have M := Lib.hid (wmsg_any s hs)
  clear hC h hm hm2 hs hF D0 hW hg hk
  go_enter Try.func12, Try.ntmps12
  go_upto_region 1 with fail
  rw [← HW.out, ← HG.out]
  obtain ⟨c0, c1, c2, c3, c4, c5, c6, c7⟩ := D.out.cs
  go_wp2_with fail
  refine (K.out _).mono ?_
  rintro e w2 ⟨rfl, hb⟩
  replace D := Lib.hid (D.out.on HC.out hb FF.out)
  clear hb c0 c1 c2 c3 c4 c5 c6 c7
  obtain ⟨c0, c1, c2, c3, c4, c5, c6, c7⟩ := D.out.cs
  go_upto_region 4 with fail
  clear c0 c1 c2 c3 c4 c5 c6 c7
  obtain ⟨W5, hW5⟩ : ∃ W5, W5 = w2 := ⟨_, rfl⟩
  rw [← hW5] at D ⊢
  clear hW5
  go_cut [8, 9] (fun s8 s9 wx => ∃ gn, s8 = .pointer (some ⟨gn, 0, none⟩) ∧ s9 = .int .i64 nn ∧ WkAt wx gn y ∧ W5.heap.size ≤ gn ∧ Below W5.heap.size W5 wx)
  case first =>
    refine wp_region_held_drew (S := fun V => Below W5.heap.size W5 V) (by kernel_rfl) (Below.refl W5.heap.size W5).drew (fun hS => ?_)
    refine tkYes 0 (v := .agg (Wk.cells r)) rfl (by kernel_rfl) (fun _ _ _ h => h) rfl (fun W hW => take_wk (.tmp 4) rfl rfl (D.out.a.on hW)) hS ?_
    simp only [Act.put, List.setIfInBounds_toArray, List.set_cons_zero, List.set_cons_succ]
    refine tkYes 1 (v := wsV s) rfl (by kernel_rfl) (fun _ _ _ h => h) rfl (fun W hW => take_ws (.tmp 5) rfl rfl (blk_on D.out.s hW)) hS ?_
    simp only [Act.put, List.setIfInBounds_toArray, List.set_cons_zero, List.set_cons_succ]
    obtain ⟨w, hw0⟩ : ∃ w, w = W5.drew := ⟨_, rfl⟩
    rw [← hw0] at hS ⊢
    clear hw0
    refine rnTwo 2 7 rfl rfl (by kernel_rfl) rfl rfl (fun K hK => ?_) (fun K hK => ?_)
    · skip
      go_simp
      with_reducible refine (M.out _).mono ?_
      rintro e w6 ⟨rfl, hb⟩
      replace hS := hS.trans (hb.mono hS.size)
      clear hb
      try go_simp
      refine hK.out _ _ hS (fun _ => ?_)
      clear hK K
      try simp only [Act.put, List.setIfInBounds_toArray, List.set_cons_zero, List.set_cons_succ]
      refine rnTwo 3 7 rfl rfl (by kernel_rfl) rfl rfl (fun K hK => ?_) (fun K hK => ?_)
      · skip
        go_simp
        with_reducible refine (RT.out _).mono ?_
        rintro e w7 ⟨rfl, hb⟩
        replace hS := hS.trans (hb.mono hS.size)
        clear hb
        try go_simp
        refine hK.out _ _ hS (fun _ => ?_)
        clear hK K
        try simp only [Act.put, List.setIfInBounds_toArray, List.set_cons_zero, List.set_cons_succ]
        refine tkYes 4 (v := ?_) rfl (by kernel_rfl) (fun _ _ _ h => h) rfl ?_ hS ?_
        rotate_left
        · intro W hW; go_simp; (try with_reducible rfl)
        simp only [Act.put, List.setIfInBounds_toArray, List.set_cons_zero, List.set_cons_succ]
        refine tkYes 5 (v := ?_) rfl (by kernel_rfl) (fun _ _ _ h => h) rfl ?_ hS ?_
        rotate_left
        · intro W hW; go_simp; (try with_reducible rfl)
        simp only [Act.put, List.setIfInBounds_toArray, List.set_cons_zero, List.set_cons_succ]
        refine tkYes 6 (v := ?_) rfl (by kernel_rfl) (fun _ _ _ h => h) rfl ?_ hS ?_
        rotate_left
        · intro W hW; go_simp; (try with_reducible rfl)
        simp only [Act.put, List.setIfInBounds_toArray, List.set_cons_zero, List.set_cons_succ]
        refine rnOne 7 rfl (by kernel_rfl) rfl (fun K hK => ?_)
        go_simp
        have hb := (Below.refl w7.heap.size w7).alloc (Nat.le_refl _) (.cells Wk.zeros 32)
        have X := Lib.hid (WkAt.zero w7)
        have QL := Lib.hid hS.size
        obtain ⟨gn, hgn⟩ : ∃ g, g = w7.heap.size := ⟨_, rfl⟩
        rw [← hgn] at X ⊢
        have GA : Hid (W5.heap.size ≤ gn) := by have h1 := QL.out; show _ ≤ _; omega
        replace hS := hS.trans (hb.mono hS.size)
        clear hb hgn QL
        generalize w7.alloc (.cells Wk.zeros 32) = w8 at *
        refine hK.out _ _ hS (fun _ => ?_)
        clear hK K
        try simp only [Act.put, List.setIfInBounds_toArray, List.set_cons_zero, List.set_cons_succ]
        refine rnOne 8 rfl (by kernel_rfl) rfl (fun K hK => ?_)
        refine wp_store_row 32 (.tmp 8) (.tmp 28) rfl gn (Wk.cells y) rfl rfl 32 _ X.out.row (wk_size _) rfl (wk_one _) ?_
        replace hS := below_row hS (grown_row w8 gn (Wk.cells y)) GA.out
        replace X := Lib.hid (X.out.setRow y)
        refine hK.out _ _ hS (fun _ => ?_)
        clear hK K
        try simp only [Act.put, List.setIfInBounds_toArray, List.set_cons_zero, List.set_cons_succ]
        refine tkYes 9 (v := ?_) rfl (by kernel_rfl) (fun _ _ _ h => h) rfl ?_ hS ?_
        rotate_left
        · intro W hW; go_simp; (try with_reducible rfl)
        simp only [Act.put, List.setIfInBounds_toArray, List.set_cons_zero, List.set_cons_succ]
        refine wpAnyH_done (by kernel_rfl) ?_ _
        go_wp2_with fail
        go_meet
        case rel => exact ⟨gn, rfl, rfl, X.out, GA.out, hS⟩
      · skip
        go_simp
        have hb := (Below.refl w6.heap.size w6).alloc (Nat.le_refl _) (.cells Wk.zeros 32)
        have X := Lib.hid (WkAt.zero w6)
        have QL := Lib.hid hS.size
        obtain ⟨gn, hgn⟩ : ∃ g, g = w6.heap.size := ⟨_, rfl⟩
        rw [← hgn] at X ⊢
        have GA : Hid (W5.heap.size ≤ gn) := by have h1 := QL.out; show _ ≤ _; omega
        replace hS := hS.trans (hb.mono hS.size)
        clear hb hgn QL
        generalize w6.alloc (.cells Wk.zeros 32) = w7 at *
        refine hK.out _ _ hS (fun _ => ?_)
        clear hK K
        try simp only [Act.put, List.setIfInBounds_toArray, List.set_cons_zero, List.set_cons_succ]
        refine rnOne 3 rfl (by kernel_rfl) rfl (fun K hK => ?_)
        go_simp
        with_reducible refine (RT.out _).mono ?_
        rintro e w8 ⟨rfl, hb⟩
        replace hS := hS.trans (hb.mono hS.size)
        replace X := Lib.hid (X.out.on hb)
        clear hb
        try go_simp
        refine hK.out _ _ hS (fun _ => ?_)
        clear hK K
        try simp only [Act.put, List.setIfInBounds_toArray, List.set_cons_zero, List.set_cons_succ]
        refine tkYes 4 (v := ?_) rfl (by kernel_rfl) (fun _ _ _ h => h) rfl ?_ hS ?_
        rotate_left
        · intro W hW; go_simp; (try with_reducible rfl)
        simp only [Act.put, List.setIfInBounds_toArray, List.set_cons_zero, List.set_cons_succ]
        refine tkYes 5 (v := ?_) rfl (by kernel_rfl) (fun _ _ _ h => h) rfl ?_ hS ?_
        rotate_left
        · intro W hW; go_simp; (try with_reducible rfl)
        simp only [Act.put, List.setIfInBounds_toArray, List.set_cons_zero, List.set_cons_succ]
        refine tkYes 6 (v := ?_) rfl (by kernel_rfl) (fun _ _ _ h => h) rfl ?_ hS ?_
        rotate_left
        · intro W hW; go_simp; (try with_reducible rfl)
        simp only [Act.put, List.setIfInBounds_toArray, List.set_cons_zero, List.set_cons_succ]
        refine rnOne 8 rfl (by kernel_rfl) rfl (fun K hK => ?_)
        refine wp_store_row 32 (.tmp 8) (.tmp 28) rfl gn (Wk.cells y) rfl rfl 32 _ X.out.row (wk_size _) rfl (wk_one _) ?_
        replace hS := below_row hS (grown_row w8 gn (Wk.cells y)) GA.out
        replace X := Lib.hid (X.out.setRow y)
        refine hK.out _ _ hS (fun _ => ?_)
        clear hK K
        try simp only [Act.put, List.setIfInBounds_toArray, List.set_cons_zero, List.set_cons_succ]
        refine tkYes 9 (v := ?_) rfl (by kernel_rfl) (fun _ _ _ h => h) rfl ?_ hS ?_
        rotate_left
        · intro W hW; go_simp; (try with_reducible rfl)
        simp only [Act.put, List.setIfInBounds_toArray, List.set_cons_zero, List.set_cons_succ]
        refine wpAnyH_done (by kernel_rfl) ?_ _
        go_wp2_with fail
        go_meet
        case rel => exact ⟨gn, rfl, rfl, X.out, GA.out, hS⟩
    · skip
      go_simp
      have hb := (Below.refl w.heap.size w).alloc (Nat.le_refl _) (.cells Wk.zeros 32)
      have X := Lib.hid (WkAt.zero w)
      have QL := Lib.hid hS.size
      obtain ⟨gn, hgn⟩ : ∃ g, g = w.heap.size := ⟨_, rfl⟩
      rw [← hgn] at X ⊢
      have GA : Hid (W5.heap.size ≤ gn) := by have h1 := QL.out; show _ ≤ _; omega
      replace hS := hS.trans (hb.mono hS.size)
      clear hb hgn QL
      generalize w.alloc (.cells Wk.zeros 32) = w6 at *
      refine hK.out _ _ hS (fun _ => ?_)
      clear hK K
      try simp only [Act.put, List.setIfInBounds_toArray, List.set_cons_zero, List.set_cons_succ]
      refine rnOne 2 rfl (by kernel_rfl) rfl (fun K hK => ?_)
      go_simp
      with_reducible refine (M.out _).mono ?_
      rintro e w7 ⟨rfl, hb⟩
      replace hS := hS.trans (hb.mono hS.size)
      replace X := Lib.hid (X.out.on hb)
      clear hb
      try go_simp
      refine hK.out _ _ hS (fun _ => ?_)
      clear hK K
      try simp only [Act.put, List.setIfInBounds_toArray, List.set_cons_zero, List.set_cons_succ]
      refine rnOne 3 rfl (by kernel_rfl) rfl (fun K hK => ?_)
      go_simp
      with_reducible refine (RT.out _).mono ?_
      rintro e w8 ⟨rfl, hb⟩
      replace hS := hS.trans (hb.mono hS.size)
      replace X := Lib.hid (X.out.on hb)
      clear hb
      try go_simp
      refine hK.out _ _ hS (fun _ => ?_)
      clear hK K
      try simp only [Act.put, List.setIfInBounds_toArray, List.set_cons_zero, List.set_cons_succ]
      refine tkYes 4 (v := ?_) rfl (by kernel_rfl) (fun _ _ _ h => h) rfl ?_ hS ?_
      rotate_left
      · intro W hW; go_simp; (try with_reducible rfl)
      simp only [Act.put, List.setIfInBounds_toArray, List.set_cons_zero, List.set_cons_succ]
      refine tkYes 5 (v := ?_) rfl (by kernel_rfl) (fun _ _ _ h => h) rfl ?_ hS ?_
      rotate_left
      · intro W hW; go_simp; (try with_reducible rfl)
      simp only [Act.put, List.setIfInBounds_toArray, List.set_cons_zero, List.set_cons_succ]
      refine tkYes 6 (v := ?_) rfl (by kernel_rfl) (fun _ _ _ h => h) rfl ?_ hS ?_
      rotate_left
      · intro W hW; go_simp; (try with_reducible rfl)
      simp only [Act.put, List.setIfInBounds_toArray, List.set_cons_zero, List.set_cons_succ]
      refine rnOne 8 rfl (by kernel_rfl) rfl (fun K hK => ?_)
      refine wp_store_row 32 (.tmp 8) (.tmp 28) rfl gn (Wk.cells y) rfl rfl 32 _ X.out.row (wk_size _) rfl (wk_one _) ?_
      replace hS := below_row hS (grown_row w8 gn (Wk.cells y)) GA.out
      replace X := Lib.hid (X.out.setRow y)
      refine hK.out _ _ hS (fun _ => ?_)
      clear hK K
      try simp only [Act.put, List.setIfInBounds_toArray, List.set_cons_zero, List.set_cons_succ]
      refine tkYes 9 (v := ?_) rfl (by kernel_rfl) (fun _ _ _ h => h) rfl ?_ hS ?_
      rotate_left
      · intro W hW; go_simp; (try with_reducible rfl)
      simp only [Act.put, List.setIfInBounds_toArray, List.set_cons_zero, List.set_cons_succ]
      refine wpAnyH_done (by kernel_rfl) ?_ _
      go_wp2_with fail
      go_meet
      case rel => exact ⟨gn, rfl, rfl, X.out, GA.out, hS⟩
  case rest =>
    obtain ⟨gn, rfl, rfl, x4, gnl, h6⟩ := hcut
    have GX : Hid (g + 3 ≤ gn) := by have := D.out.z.cs.2.2.2; show _ ≤ _; omega
    obtain ⟨G, hG⟩ : ∃ G : Nat → Prop, G = fun b => (F b ∨ (g ≤ b ∧ b < g + 3)) ∨ (W5.heap.size ≤ b ∧ b < wc.heap.size) := ⟨_, rfl⟩
    have I := Lib.hid (D.out.i.more HC.out h6)
    rw [← hG] at I
    have GS : Hid (∀ b, (F b ∨ (g ≤ b ∧ b < g + 3)) → G b) := fun b hb => by rw [hG]; exact .inl hb
    have GN : Hid (G gn) := by show G _; rw [hG]; exact .inr ⟨gnl, x4.cs.2.2.2⟩
    replace D := Lib.hid (D.out.on HC.out h6 FF.out)
    have X := Lib.hid x4
    clear x4 gnl h6 hG
    obtain ⟨w4, hw4⟩ : ∃ w4, w4 = wc := ⟨_, rfl⟩
    rw [← hw4] at X D I ⊢
    clear hw4
    go_upto_region 5 with fail
    refine wp_region_held_drew (S := fun V => WkAt V gn y ∧ V.heap[g + 1]? = some (.cells (wsC s) 40 (0, 0))) (by kernel_rfl) ⟨X.out.on (Below.refl _ _).drew, blk_on D.out.s (Below.refl _ _).drew⟩ (fun hS => ?_)
    replace D := Lib.hid (D.out.on HC.out (Below.refl w4.heap.size w4).drew FF.out)
    replace I := Lib.hid (I.out.on HC.out (Below.refl w4.heap.size w4).drew)
    obtain ⟨w5, hw5⟩ : ∃ w5, w5 = w4.drew := ⟨_, rfl⟩
    rw [← hw5] at D I hS ⊢
    clear hw5 X
    refine tkYes 0 (v := .agg (Wk.cells y)) rfl (by kernel_rfl) (fun _ _ _ h => h) rfl (fun W hW => take_wk (.tmp 8) rfl rfl hW.1) hS ?_
    simp only [Act.put, List.setIfInBounds_toArray, List.set_cons_zero, List.set_cons_succ]
    refine tkYes 1 (v := ?_) rfl (by kernel_rfl) (fun _ _ _ h => h) rfl ?_ hS ?_
    rotate_left
    · intro W hW; go_simp; (try with_reducible rfl)
    simp only [Act.put, List.setIfInBounds_toArray, List.set_cons_zero, List.set_cons_succ]
    refine tkYes 2 (v := wsV s) rfl (by kernel_rfl) (fun _ _ _ h => h) rfl (fun W hW => take_ws (.tmp 5) rfl rfl hW.2) hS ?_
    simp only [Act.put, List.setIfInBounds_toArray, List.set_cons_zero, List.set_cons_succ]
    refine tkYes 5 (v := ?_) rfl (by kernel_rfl) (fun _ _ _ h => h) rfl ?_ hS ?_
    rotate_left
    · intro W hW; go_simp; (try with_reducible rfl)
    simp only [Act.put, List.setIfInBounds_toArray, List.set_cons_zero, List.set_cons_succ]
    refine rnOne 3 rfl (by kernel_rfl) rfl (fun K hK => ?_)
    go_simp
    with_reducible refine (M.out _).mono ?_
    rintro e w6 ⟨rfl, hb⟩
    replace D := Lib.hid (D.out.on HC.out hb FF.out)
    replace I := Lib.hid (I.out.on HC.out hb)
    replace hS := And.intro (hS.1.on hb) (blk_on hS.2 hb)
    clear hb
    try go_simp
    refine hK.out _ _ hS (fun _ => ?_)
    clear hK K
    try simp only [Act.put, List.setIfInBounds_toArray, List.set_cons_zero, List.set_cons_succ]
    refine rnOne 4 rfl (by kernel_rfl) rfl (fun K hK => ?_)
    go_simp
    with_reducible refine (CW.out _ _ I.out).mono ?_
    intro e w7 hp
    obtain ⟨rfl, hd, hg7⟩ := D.out.turn2 GS.out hp
    replace D := Lib.hid hd
    replace hS := And.intro (hS.1.keep (hg7 _ GN.out)) ((hg7 _ (GS.out _ (.inr ⟨by omega, by omega⟩))).trans hS.2)
    clear hd hp hg7
    try go_simp
    refine hK.out _ _ hS (fun _ => ?_)
    clear hK K
    try simp only [Act.put, List.setIfInBounds_toArray, List.set_cons_zero, List.set_cons_succ]
    refine tkYes 6 (v := ?_) rfl (by kernel_rfl) (fun _ _ _ h => h) rfl ?_ hS ?_
    rotate_left
    · intro W hW; go_simp; (try with_reducible rfl)
    simp only [Act.put, List.setIfInBounds_toArray, List.set_cons_zero, List.set_cons_succ]
    refine rnOne 7 rfl (by kernel_rfl) rfl (fun K hK => ?_)
    refine wp_store_row 32 (.tmp 6) (.tmp 30) rfl (g + 2) (Wk.cells y) rfl rfl 32 _ D.out.z.row (wk_size _) rfl (wk_one _) ?_
    replace hS := And.intro (wk_offRow hS.1 (q := g + 2) (by have := GX.out; omega) (Wk.cells y)) ((nt_rowOff (q := g + 2) (by omega) (Wk.cells y)).trans hS.2)
    replace D := Lib.hid (D.out.put HC.out FF.out y)
    refine hK.out _ _ hS (fun _ => ?_)
    clear hK K
    try simp only [Act.put, List.setIfInBounds_toArray, List.set_cons_zero, List.set_cons_succ]
    refine tkYes 8 (v := ?_) rfl (by kernel_rfl) (fun _ _ _ h => h) rfl ?_ hS ?_
    rotate_left
    · intro W hW; go_simp; (try with_reducible rfl)
    simp only [Act.put, List.setIfInBounds_toArray, List.set_cons_zero, List.set_cons_succ]
    refine wpAnyH_done (by kernel_rfl) ?_ _
    go_wp2_with fail
    refine wkd_ret Try.results12 D.out rfl ?_ rfl
    simp
set_option maxHeartbeats 6400000 in
theorem wkdoes_one {L : WkP} (hC : WC L) {w0 W : World} {F : Nat → Prop} {q : Nat} {r : Wk.W} (h : WIn L w0 F q r W) (hF : ∀ b, F b → b < W.heap.size) (s : WStep) (hs : s.In) (hk : Su.um s.k 6 = 1) :
    Calls Try.prog 12 #[wkp q, .agg (Wk.cells r), wsV s] W (WkDPost L w0 F q (Wk.applyS r s.cmd) W) := by
  have hm := (h.ok hC).new
  have hm2 : 1 ≤ r.many ∧ r.many ≤ 16 := ⟨hm.1, hm.2.1⟩
  have D0 := WkD.new hC h s
  obtain ⟨W1, hW⟩ : ∃ W1, W1 = ((W.alloc (.cells (Wk.cells r) 32)).alloc (.cells (wsC s) 40)).alloc (.cells Wk.zeros 32) := ⟨_, rfl⟩
  obtain ⟨g, hg⟩ : ∃ g, g = W.heap.size := ⟨_, rfl⟩
  rw [← hW, ← hg] at D0
  have D := Lib.hid D0
  have HW := Lib.hid hW
  have HG := Lib.hid hg
  have HC := Lib.hid hC; have HM := Lib.hid hm2; have HS := Lib.hid hs; have FF := Lib.hid hF
  have hz := wk_zero
  have K := Lib.hid (wkind_any s)
  rw [hk] at K
  have RT := Lib.hid (fun W => rwapply_any (s := r) s.cmd hm2 W)
  obtain ⟨y, hy⟩ : ∃ y, y = Wk.applyS r s.cmd := ⟨_, rfl⟩
  obtain ⟨nn, hnn⟩ : ∃ n, n = Wk.applyE r s.cmd := ⟨_, rfl⟩
  have CW : Hid (∀ G w, WIn L w0 G q r w → Calls Try.prog 17 #[wkp q, Nt.val s.cmd] w (WRes L w0 G q y (.int .i64 nn) w)) := fun G w hw => by rw [hy, hnn]; exact win_apply hC hw (WStep.cmd_in hs)
  rw [← hy, ← hnn] at RT
  rw [← hy]
  clear hy hnn
  have M := Lib.hid (wmsg_any s hs)
  clear hC h hm hm2 hs hF D0 hW hg hk
  go_enter Try.func12, Try.ntmps12
  go_upto_region 1 with fail
  rw [← HW.out, ← HG.out]
  obtain ⟨c0, c1, c2, c3, c4, c5, c6, c7⟩ := D.out.cs
  go_wp2_with fail
  refine (K.out _).mono ?_
  rintro e w2 ⟨rfl, hb⟩
  replace D := Lib.hid (D.out.on HC.out hb FF.out)
  clear hb c0 c1 c2 c3 c4 c5 c6 c7
  obtain ⟨c0, c1, c2, c3, c4, c5, c6, c7⟩ := D.out.cs
  go_upto_region 4 with fail
  clear c0 c1 c2 c3 c4 c5 c6 c7
  obtain ⟨W5, hW5⟩ : ∃ W5, W5 = w2 := ⟨_, rfl⟩
  rw [← hW5] at D ⊢
  clear hW5
  go_cut [8, 9] (fun s8 s9 wx => ∃ gn, s8 = .pointer (some ⟨gn, 0, none⟩) ∧ s9 = .int .i64 nn ∧ WkAt wx gn y ∧ W5.heap.size ≤ gn ∧ Below W5.heap.size W5 wx)
  case first =>
    refine wp_region_held_drew (S := fun V => Below W5.heap.size W5 V) (by kernel_rfl) (Below.refl W5.heap.size W5).drew (fun hS => ?_)
    refine tkYes 0 (v := .agg (Wk.cells r)) rfl (by kernel_rfl) (fun _ _ _ h => h) rfl (fun W hW => take_wk (.tmp 4) rfl rfl (D.out.a.on hW)) hS ?_
    simp only [Act.put, List.setIfInBounds_toArray, List.set_cons_zero, List.set_cons_succ]
    refine tkYes 1 (v := wsV s) rfl (by kernel_rfl) (fun _ _ _ h => h) rfl (fun W hW => take_ws (.tmp 5) rfl rfl (blk_on D.out.s hW)) hS ?_
    simp only [Act.put, List.setIfInBounds_toArray, List.set_cons_zero, List.set_cons_succ]
    obtain ⟨w, hw0⟩ : ∃ w, w = W5.drew := ⟨_, rfl⟩
    rw [← hw0] at hS ⊢
    clear hw0
    refine rnTwo 2 7 rfl rfl (by kernel_rfl) rfl rfl (fun K hK => ?_) (fun K hK => ?_)
    · skip
      go_simp
      with_reducible refine (M.out _).mono ?_
      rintro e w6 ⟨rfl, hb⟩
      replace hS := hS.trans (hb.mono hS.size)
      clear hb
      try go_simp
      refine hK.out _ _ hS (fun _ => ?_)
      clear hK K
      try simp only [Act.put, List.setIfInBounds_toArray, List.set_cons_zero, List.set_cons_succ]
      refine rnTwo 3 7 rfl rfl (by kernel_rfl) rfl rfl (fun K hK => ?_) (fun K hK => ?_)
      · skip
        go_simp
        with_reducible refine (RT.out _).mono ?_
        rintro e w7 ⟨rfl, hb⟩
        replace hS := hS.trans (hb.mono hS.size)
        clear hb
        try go_simp
        refine hK.out _ _ hS (fun _ => ?_)
        clear hK K
        try simp only [Act.put, List.setIfInBounds_toArray, List.set_cons_zero, List.set_cons_succ]
        refine tkYes 4 (v := ?_) rfl (by kernel_rfl) (fun _ _ _ h => h) rfl ?_ hS ?_
        rotate_left
        · intro W hW; go_simp; (try with_reducible rfl)
        simp only [Act.put, List.setIfInBounds_toArray, List.set_cons_zero, List.set_cons_succ]
        refine tkYes 5 (v := ?_) rfl (by kernel_rfl) (fun _ _ _ h => h) rfl ?_ hS ?_
        rotate_left
        · intro W hW; go_simp; (try with_reducible rfl)
        simp only [Act.put, List.setIfInBounds_toArray, List.set_cons_zero, List.set_cons_succ]
        refine tkYes 6 (v := ?_) rfl (by kernel_rfl) (fun _ _ _ h => h) rfl ?_ hS ?_
        rotate_left
        · intro W hW; go_simp; (try with_reducible rfl)
        simp only [Act.put, List.setIfInBounds_toArray, List.set_cons_zero, List.set_cons_succ]
        refine rnOne 7 rfl (by kernel_rfl) rfl (fun K hK => ?_)
        go_simp
        have hb := (Below.refl w7.heap.size w7).alloc (Nat.le_refl _) (.cells Wk.zeros 32)
        have X := Lib.hid (WkAt.zero w7)
        have QL := Lib.hid hS.size
        obtain ⟨gn, hgn⟩ : ∃ g, g = w7.heap.size := ⟨_, rfl⟩
        rw [← hgn] at X ⊢
        have GA : Hid (W5.heap.size ≤ gn) := by have h1 := QL.out; show _ ≤ _; omega
        replace hS := hS.trans (hb.mono hS.size)
        clear hb hgn QL
        generalize w7.alloc (.cells Wk.zeros 32) = w8 at *
        refine hK.out _ _ hS (fun _ => ?_)
        clear hK K
        try simp only [Act.put, List.setIfInBounds_toArray, List.set_cons_zero, List.set_cons_succ]
        refine rnOne 8 rfl (by kernel_rfl) rfl (fun K hK => ?_)
        refine wp_store_row 32 (.tmp 8) (.tmp 28) rfl gn (Wk.cells y) rfl rfl 32 _ X.out.row (wk_size _) rfl (wk_one _) ?_
        replace hS := below_row hS (grown_row w8 gn (Wk.cells y)) GA.out
        replace X := Lib.hid (X.out.setRow y)
        refine hK.out _ _ hS (fun _ => ?_)
        clear hK K
        try simp only [Act.put, List.setIfInBounds_toArray, List.set_cons_zero, List.set_cons_succ]
        refine tkYes 9 (v := ?_) rfl (by kernel_rfl) (fun _ _ _ h => h) rfl ?_ hS ?_
        rotate_left
        · intro W hW; go_simp; (try with_reducible rfl)
        simp only [Act.put, List.setIfInBounds_toArray, List.set_cons_zero, List.set_cons_succ]
        refine wpAnyH_done (by kernel_rfl) ?_ _
        go_wp2_with fail
        go_meet
        case rel => exact ⟨gn, rfl, rfl, X.out, GA.out, hS⟩
      · skip
        go_simp
        have hb := (Below.refl w6.heap.size w6).alloc (Nat.le_refl _) (.cells Wk.zeros 32)
        have X := Lib.hid (WkAt.zero w6)
        have QL := Lib.hid hS.size
        obtain ⟨gn, hgn⟩ : ∃ g, g = w6.heap.size := ⟨_, rfl⟩
        rw [← hgn] at X ⊢
        have GA : Hid (W5.heap.size ≤ gn) := by have h1 := QL.out; show _ ≤ _; omega
        replace hS := hS.trans (hb.mono hS.size)
        clear hb hgn QL
        generalize w6.alloc (.cells Wk.zeros 32) = w7 at *
        refine hK.out _ _ hS (fun _ => ?_)
        clear hK K
        try simp only [Act.put, List.setIfInBounds_toArray, List.set_cons_zero, List.set_cons_succ]
        refine rnOne 3 rfl (by kernel_rfl) rfl (fun K hK => ?_)
        go_simp
        with_reducible refine (RT.out _).mono ?_
        rintro e w8 ⟨rfl, hb⟩
        replace hS := hS.trans (hb.mono hS.size)
        replace X := Lib.hid (X.out.on hb)
        clear hb
        try go_simp
        refine hK.out _ _ hS (fun _ => ?_)
        clear hK K
        try simp only [Act.put, List.setIfInBounds_toArray, List.set_cons_zero, List.set_cons_succ]
        refine tkYes 4 (v := ?_) rfl (by kernel_rfl) (fun _ _ _ h => h) rfl ?_ hS ?_
        rotate_left
        · intro W hW; go_simp; (try with_reducible rfl)
        simp only [Act.put, List.setIfInBounds_toArray, List.set_cons_zero, List.set_cons_succ]
        refine tkYes 5 (v := ?_) rfl (by kernel_rfl) (fun _ _ _ h => h) rfl ?_ hS ?_
        rotate_left
        · intro W hW; go_simp; (try with_reducible rfl)
        simp only [Act.put, List.setIfInBounds_toArray, List.set_cons_zero, List.set_cons_succ]
        refine tkYes 6 (v := ?_) rfl (by kernel_rfl) (fun _ _ _ h => h) rfl ?_ hS ?_
        rotate_left
        · intro W hW; go_simp; (try with_reducible rfl)
        simp only [Act.put, List.setIfInBounds_toArray, List.set_cons_zero, List.set_cons_succ]
        refine rnOne 8 rfl (by kernel_rfl) rfl (fun K hK => ?_)
        refine wp_store_row 32 (.tmp 8) (.tmp 28) rfl gn (Wk.cells y) rfl rfl 32 _ X.out.row (wk_size _) rfl (wk_one _) ?_
        replace hS := below_row hS (grown_row w8 gn (Wk.cells y)) GA.out
        replace X := Lib.hid (X.out.setRow y)
        refine hK.out _ _ hS (fun _ => ?_)
        clear hK K
        try simp only [Act.put, List.setIfInBounds_toArray, List.set_cons_zero, List.set_cons_succ]
        refine tkYes 9 (v := ?_) rfl (by kernel_rfl) (fun _ _ _ h => h) rfl ?_ hS ?_
        rotate_left
        · intro W hW; go_simp; (try with_reducible rfl)
        simp only [Act.put, List.setIfInBounds_toArray, List.set_cons_zero, List.set_cons_succ]
        refine wpAnyH_done (by kernel_rfl) ?_ _
        go_wp2_with fail
        go_meet
        case rel => exact ⟨gn, rfl, rfl, X.out, GA.out, hS⟩
    · skip
      go_simp
      have hb := (Below.refl w.heap.size w).alloc (Nat.le_refl _) (.cells Wk.zeros 32)
      have X := Lib.hid (WkAt.zero w)
      have QL := Lib.hid hS.size
      obtain ⟨gn, hgn⟩ : ∃ g, g = w.heap.size := ⟨_, rfl⟩
      rw [← hgn] at X ⊢
      have GA : Hid (W5.heap.size ≤ gn) := by have h1 := QL.out; show _ ≤ _; omega
      replace hS := hS.trans (hb.mono hS.size)
      clear hb hgn QL
      generalize w.alloc (.cells Wk.zeros 32) = w6 at *
      refine hK.out _ _ hS (fun _ => ?_)
      clear hK K
      try simp only [Act.put, List.setIfInBounds_toArray, List.set_cons_zero, List.set_cons_succ]
      refine rnOne 2 rfl (by kernel_rfl) rfl (fun K hK => ?_)
      go_simp
      with_reducible refine (M.out _).mono ?_
      rintro e w7 ⟨rfl, hb⟩
      replace hS := hS.trans (hb.mono hS.size)
      replace X := Lib.hid (X.out.on hb)
      clear hb
      try go_simp
      refine hK.out _ _ hS (fun _ => ?_)
      clear hK K
      try simp only [Act.put, List.setIfInBounds_toArray, List.set_cons_zero, List.set_cons_succ]
      refine rnOne 3 rfl (by kernel_rfl) rfl (fun K hK => ?_)
      go_simp
      with_reducible refine (RT.out _).mono ?_
      rintro e w8 ⟨rfl, hb⟩
      replace hS := hS.trans (hb.mono hS.size)
      replace X := Lib.hid (X.out.on hb)
      clear hb
      try go_simp
      refine hK.out _ _ hS (fun _ => ?_)
      clear hK K
      try simp only [Act.put, List.setIfInBounds_toArray, List.set_cons_zero, List.set_cons_succ]
      refine tkYes 4 (v := ?_) rfl (by kernel_rfl) (fun _ _ _ h => h) rfl ?_ hS ?_
      rotate_left
      · intro W hW; go_simp; (try with_reducible rfl)
      simp only [Act.put, List.setIfInBounds_toArray, List.set_cons_zero, List.set_cons_succ]
      refine tkYes 5 (v := ?_) rfl (by kernel_rfl) (fun _ _ _ h => h) rfl ?_ hS ?_
      rotate_left
      · intro W hW; go_simp; (try with_reducible rfl)
      simp only [Act.put, List.setIfInBounds_toArray, List.set_cons_zero, List.set_cons_succ]
      refine tkYes 6 (v := ?_) rfl (by kernel_rfl) (fun _ _ _ h => h) rfl ?_ hS ?_
      rotate_left
      · intro W hW; go_simp; (try with_reducible rfl)
      simp only [Act.put, List.setIfInBounds_toArray, List.set_cons_zero, List.set_cons_succ]
      refine rnOne 8 rfl (by kernel_rfl) rfl (fun K hK => ?_)
      refine wp_store_row 32 (.tmp 8) (.tmp 28) rfl gn (Wk.cells y) rfl rfl 32 _ X.out.row (wk_size _) rfl (wk_one _) ?_
      replace hS := below_row hS (grown_row w8 gn (Wk.cells y)) GA.out
      replace X := Lib.hid (X.out.setRow y)
      refine hK.out _ _ hS (fun _ => ?_)
      clear hK K
      try simp only [Act.put, List.setIfInBounds_toArray, List.set_cons_zero, List.set_cons_succ]
      refine tkYes 9 (v := ?_) rfl (by kernel_rfl) (fun _ _ _ h => h) rfl ?_ hS ?_
      rotate_left
      · intro W hW; go_simp; (try with_reducible rfl)
      simp only [Act.put, List.setIfInBounds_toArray, List.set_cons_zero, List.set_cons_succ]
      refine wpAnyH_done (by kernel_rfl) ?_ _
      go_wp2_with fail
      go_meet
      case rel => exact ⟨gn, rfl, rfl, X.out, GA.out, hS⟩
  case rest =>
    obtain ⟨gn, rfl, rfl, x4, gnl, h6⟩ := hcut
    have GX : Hid (g + 3 ≤ gn) := by have := D.out.z.cs.2.2.2; show _ ≤ _; omega
    obtain ⟨G, hG⟩ : ∃ G : Nat → Prop, G = fun b => (F b ∨ (g ≤ b ∧ b < g + 3)) ∨ (W5.heap.size ≤ b ∧ b < wc.heap.size) := ⟨_, rfl⟩
    have I := Lib.hid (D.out.i.more HC.out h6)
    rw [← hG] at I
    have GS : Hid (∀ b, (F b ∨ (g ≤ b ∧ b < g + 3)) → G b) := fun b hb => by rw [hG]; exact .inl hb
    have GN : Hid (G gn) := by show G _; rw [hG]; exact .inr ⟨gnl, x4.cs.2.2.2⟩
    replace D := Lib.hid (D.out.on HC.out h6 FF.out)
    have X := Lib.hid x4
    clear x4 gnl h6 hG
    obtain ⟨w4, hw4⟩ : ∃ w4, w4 = wc := ⟨_, rfl⟩
    rw [← hw4] at X D I ⊢
    clear hw4
    go_upto_region 5 with fail
    refine wp_region_held_drew (S := fun V => WkAt V gn y ∧ V.heap[g + 1]? = some (.cells (wsC s) 40 (0, 0))) (by kernel_rfl) ⟨X.out.on (Below.refl _ _).drew, blk_on D.out.s (Below.refl _ _).drew⟩ (fun hS => ?_)
    replace D := Lib.hid (D.out.on HC.out (Below.refl w4.heap.size w4).drew FF.out)
    replace I := Lib.hid (I.out.on HC.out (Below.refl w4.heap.size w4).drew)
    obtain ⟨w5, hw5⟩ : ∃ w5, w5 = w4.drew := ⟨_, rfl⟩
    rw [← hw5] at D I hS ⊢
    clear hw5 X
    refine tkYes 0 (v := .agg (Wk.cells y)) rfl (by kernel_rfl) (fun _ _ _ h => h) rfl (fun W hW => take_wk (.tmp 8) rfl rfl hW.1) hS ?_
    simp only [Act.put, List.setIfInBounds_toArray, List.set_cons_zero, List.set_cons_succ]
    refine tkYes 1 (v := ?_) rfl (by kernel_rfl) (fun _ _ _ h => h) rfl ?_ hS ?_
    rotate_left
    · intro W hW; go_simp; (try with_reducible rfl)
    simp only [Act.put, List.setIfInBounds_toArray, List.set_cons_zero, List.set_cons_succ]
    refine tkYes 2 (v := wsV s) rfl (by kernel_rfl) (fun _ _ _ h => h) rfl (fun W hW => take_ws (.tmp 5) rfl rfl hW.2) hS ?_
    simp only [Act.put, List.setIfInBounds_toArray, List.set_cons_zero, List.set_cons_succ]
    refine tkYes 5 (v := ?_) rfl (by kernel_rfl) (fun _ _ _ h => h) rfl ?_ hS ?_
    rotate_left
    · intro W hW; go_simp; (try with_reducible rfl)
    simp only [Act.put, List.setIfInBounds_toArray, List.set_cons_zero, List.set_cons_succ]
    refine rnOne 3 rfl (by kernel_rfl) rfl (fun K hK => ?_)
    go_simp
    with_reducible refine (M.out _).mono ?_
    rintro e w6 ⟨rfl, hb⟩
    replace D := Lib.hid (D.out.on HC.out hb FF.out)
    replace I := Lib.hid (I.out.on HC.out hb)
    replace hS := And.intro (hS.1.on hb) (blk_on hS.2 hb)
    clear hb
    try go_simp
    refine hK.out _ _ hS (fun _ => ?_)
    clear hK K
    try simp only [Act.put, List.setIfInBounds_toArray, List.set_cons_zero, List.set_cons_succ]
    refine rnOne 4 rfl (by kernel_rfl) rfl (fun K hK => ?_)
    go_simp
    with_reducible refine (CW.out _ _ I.out).mono ?_
    intro e w7 hp
    obtain ⟨rfl, hd, hg7⟩ := D.out.turn2 GS.out hp
    replace D := Lib.hid hd
    replace hS := And.intro (hS.1.keep (hg7 _ GN.out)) ((hg7 _ (GS.out _ (.inr ⟨by omega, by omega⟩))).trans hS.2)
    clear hd hp hg7
    try go_simp
    refine hK.out _ _ hS (fun _ => ?_)
    clear hK K
    try simp only [Act.put, List.setIfInBounds_toArray, List.set_cons_zero, List.set_cons_succ]
    refine tkYes 6 (v := ?_) rfl (by kernel_rfl) (fun _ _ _ h => h) rfl ?_ hS ?_
    rotate_left
    · intro W hW; go_simp; (try with_reducible rfl)
    simp only [Act.put, List.setIfInBounds_toArray, List.set_cons_zero, List.set_cons_succ]
    refine rnOne 7 rfl (by kernel_rfl) rfl (fun K hK => ?_)
    refine wp_store_row 32 (.tmp 6) (.tmp 30) rfl (g + 2) (Wk.cells y) rfl rfl 32 _ D.out.z.row (wk_size _) rfl (wk_one _) ?_
    replace hS := And.intro (wk_offRow hS.1 (q := g + 2) (by have := GX.out; omega) (Wk.cells y)) ((nt_rowOff (q := g + 2) (by omega) (Wk.cells y)).trans hS.2)
    replace D := Lib.hid (D.out.put HC.out FF.out y)
    refine hK.out _ _ hS (fun _ => ?_)
    clear hK K
    try simp only [Act.put, List.setIfInBounds_toArray, List.set_cons_zero, List.set_cons_succ]
    refine tkYes 8 (v := ?_) rfl (by kernel_rfl) (fun _ _ _ h => h) rfl ?_ hS ?_
    rotate_left
    · intro W hW; go_simp; (try with_reducible rfl)
    simp only [Act.put, List.setIfInBounds_toArray, List.set_cons_zero, List.set_cons_succ]
    refine wpAnyH_done (by kernel_rfl) ?_ _
    go_wp2_with fail
    refine wkd_ret Try.results12 D.out rfl ?_ rfl
    simp
/-- A step, of any kind. -/
theorem wkdoes_any {L : WkP} (hC : WC L) {w0 W : World} {F : Nat → Prop} {q : Nat} {r : Wk.W} (h : WIn L w0 F q r W) (hF : ∀ b, F b → b < W.heap.size) (s : WStep) (hs : s.In) :
    Calls Try.prog 12 #[wkp q, .agg (Wk.cells r), wsV s] W (WkDPost L w0 F q (Wk.stepS r s) W) := by
  have hb := Su.um_bd s.k (n := 6) (by omega)
  unfold Wk.stepS
  by_cases h0 : Su.um s.k 6 = 0
  · rw [if_pos (by omega)]; exact wkdoes_zero hC h hF s hs h0
  by_cases h1 : Su.um s.k 6 = 1
  · rw [if_pos (by omega)]; exact wkdoes_one hC h hF s hs h1
  rw [if_neg (by omega)]
  by_cases h2 : Su.um s.k 6 = 2
  · rw [if_pos h2]; exact wkdoes_go hC h hF s hs h2
  rw [if_neg h2]
  by_cases h3 : Su.um s.k 6 = 3
  · rw [if_pos h3]; exact wkdoes_hurt hC h hF s hs h3
  rw [if_neg h3]
  by_cases h4 : Su.um s.k 6 = 4
  · rw [if_pos h4]; exact wkdoes_heal hC h hF s hs h4
  rw [if_neg h4]
  exact wkdoes_fall hC h hF s hs (by omega)
end Go.Proofs.Ytgljepjflpijiaa
