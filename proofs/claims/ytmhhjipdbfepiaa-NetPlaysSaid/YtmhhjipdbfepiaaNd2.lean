/-
  Package net: put, by a token that is selected. Written by wip/tools/gen/ndput.py. No condition.
-/
import Derived.Test.YtmhhjipdbfepiaaNd1
namespace Go.Proofs.Ytmhhjipdbfepiaa
open Go.RowKit Go.Conc
set_option linter.unusedSimpArgs false
set_option linter.unusedVariables false
set_option maxRecDepth 100000

section
variable {o : Oper} {a : Act} {w : World} {K : Act → World → Prop} {Q : Exit → Act → World → Prop}
theorem wp_append_msg (s x : Operand) (ho : o.op = .call { callee := .builtin .append, args := #[s, x], argTypes := #[26, 26] }) (base : Nat) (v : Value) (ts : List Nt.M) (hs : a.eval s = v) (hown : OwF Nt.mC 6 32 w base v ts)
    (m : Nat) (t : Nt.M) (hx : a.eval x = .slice (some ⟨m, 0, none⟩) 1 1) (ht : NtAt w m t) (hlen : ts.length ≤ 1000) (hB : base ≤ w.heap.size)
    (h : ∀ v' w', OwF Nt.mC 6 32 w' base v' (ts ++ [t]) → w.grownBy w' v.ownBlock → (v'.ownBlock = v.ownBlock ∨ ∃ b, v'.ownBlock = some b ∧ w.heap.size ≤ b) → K (a.put o.dst v') w') : Oper.wp Try.prog o a w K Q := by
  obtain ⟨i0, hi, hz0, hz1, hz2⟩ := info_parts msg_info
  obtain ⟨v', w', hr, h2, h3, h4, h5⟩ := run_append_own_at (P := Try.prog) w base 26 o.type 32 i0 _ 6 48 Try.underlying26 hi hz0 hz1 hz2 rfl (by omega) v ts.length _ hown ⟨m, 0, none⟩ 1 1 (Nt.mC t) (Nt.mC_len t) (fun j u hu => by
    rw [Addr.add_mid]; exact ht.range j u hu) (Nt.mC_one t) (by unfold maxLen; omega) (by omega) hB
  unfold Oper.wp execOp
  simp only [ho, resolve, invoke, builtin, Sem.run_bind, Sem.run_pure, Result.andThen_ok, List.map_toArray, List.map_cons, List.map_nil, hs, hx, hr]
  refine h v' w' ?_ h3 (h5.imp id fun e => ⟨_, e, Nat.le_refl _⟩)
  unfold OwF
  rw [List.length_append, List.flatMap_append]
  simpa using h2
end
set_option maxHeartbeats 3200000 in
theorem nput_no (w : World) (G : Nat → Prop) (r : Nat) (s : Nt.St) (m : Nt.M) (h : NP w G r s) (hm : Nt.In m) (hf : ¬ s.l.length < s.room) (hlo : 0 ≤ s.lost ∧ s.lost ≤ 1000000) : Calls Try.prog 34 #[.pointer (some ⟨r, 0, none⟩), Nt.val m] w (NTurn G r (Nt.putS s m) (.int .i64 (Nt.putE s)) w) := by
  have OK2 := Lib.hid (Nt.put_ok h.ok hm)
  have HG := Lib.hid h.lt
  have HE : Hid (Nt.putE s = 4) := by show _ = _; unfold Nt.putE; rw [if_neg hf]
  have HS : Hid (Nt.putS s m = ⟨s.room, s.l, s.sent, s.lost + 1⟩) := by show _ = _; unfold Nt.putS; rw [if_neg hf]
  rw [HE.out]
  obtain ⟨c, V, hm0, _⟩ := h
  have hk : s.room - s.l.length = 0 := by omega
  rw [hk] at hm0
  rw [HS.out] at OK2 ⊢
  obtain ⟨room, l, sent, lost⟩ := s
  simp only at *
  have hlw : wrap64 (lost + 1) = lost + 1 := IntWalk.wrap64_in _ ⟨by omega, by omega⟩
  have hb1 : Below w.heap.size w (w.alloc (.cells (Nt.cs m) 32)) := (Below.refl _ _).alloc (Nat.le_refl _) _
  have M1 := Lib.hid (hm0.on hb1)
  have HK : Hid (room - l.length = 0) := hk
  clear hm0 hb1 HE HS hf hk
  go_enter Try.func34, Try.ntmps34
  go_upto_region 1 with fail
  generalize w.alloc (.cells (Nt.cs m) 32) = w1 at *
  obtain ⟨g, hg⟩ : ∃ g, g = w.heap.size := ⟨_, rfl⟩
  rw [← hg]
  clear hg
  obtain ⟨x0, x1, x2, x3, xf, xl⟩ := M1.out.cells
  go_upto_region 2 with fail
  obtain ⟨ci, cj, hc⟩ := M1.out.ch
  refine ops_region [0, 1, 2] rfl ?_
  refine ops_sel_no (c := c) (z := tok) (cap := room) (s := ci) (r := cj) (tm := false) rfl rfl ?_ hc ?_
  · simp [go_sem, execOp, rcase, Act.eval]
  simp only [Act.put, List.setIfInBounds_toArray, List.set_cons_zero, List.set_cons_succ]
  refine ops_val (v := .int .i64 (-1)) (w' := w1) rfl rfl (by simp [execOp, Act.eval, go_sem, goInt]) ?_
  simp only [Act.put, List.setIfInBounds_toArray, List.set_cons_zero, List.set_cons_succ]
  refine ops_val (v := .bool false) (w' := w1) rfl rfl (by simp [execOp, Act.eval, go_sem]) ?_
  refine ops_nil ?_
  simp only [Act.put, List.setIfInBounds_toArray, List.set_cons_zero, List.set_cons_succ]
  clear hc
  have M2 := Lib.hid (M1.out.lost (lost + 1))
  go_wp2_with fail
  go_ret
  show NTurn _ _ _ _ _ (.returned (.int .i64 4)) _
  refine NtMid.turn (c := c) (s := ⟨room, l, sent, lost + 1⟩) (V := V) ?_ OK2.out HG.out
  show NtMid _ _ _ _ _ _ _ _ (room - l.length) _ _ _
  rw [HK.out]
  exact M2.out
set_option maxHeartbeats 3200000 in
theorem nput_yes (w : World) (G : Nat → Prop) (r : Nat) (s : Nt.St) (m : Nt.M) (h : NP w G r s) (hm : Nt.In m) (hf : s.l.length < s.room) : Calls Try.prog 34 #[.pointer (some ⟨r, 0, none⟩), Nt.val m] w (NTurn G r (Nt.putS s m) (.int .i64 (Nt.putE s)) w) := by
  have OK2 := Lib.hid (Nt.put_ok h.ok hm)
  have HG := Lib.hid h.lt
  have HE : Hid (Nt.putE s = 0) := by show _ = _; unfold Nt.putE; rw [if_pos hf]
  have HS : Hid (Nt.putS s m = ⟨s.room, s.l ++ [m], s.sent, s.lost⟩) := by show _ = _; unfold Nt.putS; rw [if_pos hf]
  have HL0 := h.ok.most
  rw [HS.out] at OK2
  rw [HE.out, HS.out]
  obtain ⟨c, V, hm0, hgr, _, hvv, _, _⟩ := h
  obtain ⟨kk, hk⟩ : ∃ kk, s.room - s.l.length = kk + 1 := ⟨s.room - s.l.length - 1, by omega⟩
  rw [hk] at hm0
  obtain ⟨room, l, sent, lost⟩ := s
  simp only at *
  have HK : Hid (room - (l ++ [m]).length = kk) := by show _ = _; rw [List.length_append, List.length_singleton]; omega
  have HL : Hid (l.length ≤ 64) := by show _ ≤ _; omega
  have hb1 : Below w.heap.size w (w.alloc (.cells (Nt.cs m) 32)) := (Below.refl _ _).alloc (Nat.le_refl _) _
  have M1 := Lib.hid (hm0.on hb1)
  have P1 := Lib.hid (NtAt.new w m)
  have GR : Hid (w.heap.size ≠ r) := fun e => by have := HG.out r hgr; omega
  have GC : Hid (w.heap.size ≠ c) := fun e => by have := hm0.clt; omega
  have VG : Hid (V.ownBlock ≠ some w.heap.size) := fun e => by have := (hm0.own.lt _ e).2; omega
  obtain ⟨A, k, hV⟩ := hm0.own.form
  clear hm0 hb1 HE HS hf hk hgr hvv HL0
  go_enter Try.func34, Try.ntmps34
  go_upto_region 1 with fail
  generalize w.alloc (.cells (Nt.cs m) 32) = w1 at *
  obtain ⟨g, hg⟩ : ∃ g, g = w.heap.size := ⟨_, rfl⟩
  rw [← hg] at P1 GR GC VG ⊢
  clear hg
  obtain ⟨x0, x1, x2, x3, xf, xl⟩ := M1.out.cells
  go_upto_region 2 with fail
  obtain ⟨ci, cj, hc⟩ := M1.out.ch
  refine ops_region [0, 1, 2] rfl ?_
  refine ops_sel_yes (c := c) (z := tok) rfl rfl ?_ hc (by simp [toks]) ?_
  · simp [go_sem, execOp, rcase, Act.eval]
  rw [toks_head, toks_cut]
  have M2 := Lib.hid (M1.out.chan kk ci (cj + 1))
  have P2 := Lib.hid (P1.out.keep (setChan_off w1 (c := c) (b := g) room (toks kk) false ci (cj + 1) false (fun e => GC.out e.symm)))
  clear x0 x1 x2 x3 xf xl M1 P1 hc
  generalize w1.setChan c room (toks kk) false ci (cj + 1) false = w2 at *
  simp only [Act.put, List.setIfInBounds_toArray, List.set_cons_zero, List.set_cons_succ]
  refine ops_val (v := .int .i64 0) (w' := w2) rfl rfl (by simp [execOp, Act.eval, go_sem, goInt]) ?_
  simp only [Act.put, List.setIfInBounds_toArray, List.set_cons_zero, List.set_cons_succ]
  refine ops_val (v := .bool true) (w' := w2) rfl rfl (by simp [execOp, Act.eval, go_sem]) ?_
  refine ops_nil ?_
  simp only [Act.put, List.setIfInBounds_toArray, List.set_cons_zero, List.set_cons_succ]
  have M5 : Hid (NtMid w G w2.drew r c (.slice A l.length k) (.slice A l.length k) room kk l sent lost) := by
    have := M2.out.on (w' := w2.drew) (Below.refl w2.heap.size w2).drew
    rw [hV] at this
    exact this
  have P5 := Lib.hid (P2.out.on (w' := w2.drew) (Below.refl w2.heap.size w2).drew)
  have VG5 : Hid ((Value.slice A l.length k).ownBlock ≠ some g) := by rw [← hV]; exact VG.out
  clear M2 P2 VG hV
  generalize hnl : l.length = n at M5 VG5
  have HN := Lib.hid hnl
  clear hnl
  go_upto_region 5 with fail
  generalize hw5 : w2.drew = w5 at M5 P5
  refine wp_region_held_drew (S := fun X => NtAt X g m) (by kernel_rfl) (by rw [hw5]; exact P5.out) (fun hS => ?_)
  rw [hw5] at hS ⊢
  clear hw5 P5
  refine tkYes 0 (v := ?_) rfl (by kernel_rfl) (fun _ _ _ h => h) rfl ?_ hS ?_
  rotate_left
  · intro W hW; go_simp; (try with_reducible rfl)
  simp only [Act.put, List.setIfInBounds_toArray, List.set_cons_zero, List.set_cons_succ]
  refine tkYes 1 (v := ?_) rfl (by kernel_rfl) (fun _ _ _ h => h) rfl ?_ hS ?_
  rotate_left
  · intro W hW; go_simp; (try with_reducible rfl)
  simp only [Act.put, List.setIfInBounds_toArray, List.set_cons_zero, List.set_cons_succ]
  refine tkYes 2 (v := ?_) rfl (by kernel_rfl) (fun _ _ _ h => h) rfl ?_ hS ?_
  rotate_left
  · intro W hW; go_simp; (try with_reducible rfl)
  simp only [Act.put, List.setIfInBounds_toArray, List.set_cons_zero, List.set_cons_succ]
  refine tkYes 3 (v := ?_) rfl (by kernel_rfl) (fun _ _ _ h => h) rfl ?_ hS ?_
  rotate_left
  · intro W hW; go_simp; (try with_reducible rfl)
  simp only [Act.put, List.setIfInBounds_toArray, List.set_cons_zero, List.set_cons_succ]
  refine tkYes 5 (v := Nt.val m) rfl (by kernel_rfl) (fun _ _ _ h => h) rfl (fun W hW => take_msg (.tmp 3) rfl g 0 m rfl hW.range) hS ?_
  simp only [Act.put, List.setIfInBounds_toArray, List.set_cons_zero, List.set_cons_succ]
  refine rnTwo 4 6 rfl rfl (by kernel_rfl) rfl rfl (fun K hK => ?_) (fun K hK => ?_)
  · have x1 := M5.out.cells.c1
    go_simp
    clear x1
    refine hK.out _ _ hS (fun _ => ?_)
    clear hK K
    try simp only [Act.put, List.setIfInBounds_toArray, List.set_cons_zero, List.set_cons_succ]
    refine rnOne 6 rfl (by kernel_rfl) rfl (fun K hK => ?_)
    refine wp_build_msg (.tmp 24) rfl m rfl ?_
    have hb6 : Below w5.heap.size w5 (w5.alloc (.cells (Nt.mC m).toArray 32)) := (Below.refl _ _).alloc (Nat.le_refl _) _
    have R6 : Hid (NtAt (w5.alloc (.cells (Nt.mC m).toArray 32)) w5.heap.size m) := NtAt.new _ _
    have M6 := Lib.hid (M5.out.on hb6)
    have hS2 := hS.on hb6
    clear hS hb6
    have hS := hS2
    clear hS2
    generalize w5.alloc (.cells (Nt.mC m).toArray 32) = w6 at *
    generalize w5.heap.size = m6 at *
    refine hK.out _ _ hS (fun _ => ?_)
    clear hK K
    try simp only [Act.put, List.setIfInBounds_toArray, List.set_cons_zero, List.set_cons_succ]
    refine rnOne 7 rfl (by kernel_rfl) rfl (fun K hK => ?_)
    refine wp_append_msg (.tmp 23) (.tmp 25) rfl 0 (.slice A n k) l rfl M6.out.own m6 m rfl R6.out (by have := HL.out; omega) (Nat.zero_le _) ?_
    intro v7 w7 ho7 hg7 hv7
    have M7 := Lib.hid (M6.out.row' ho7 hg7 hv7)
    have hS2 := hS.keep (hg7.block g hS.cs.lt (fun e => VG5.out e.symm))
    obtain ⟨A7, k7, hf7⟩ := ho7.form
    generalize (l ++ [m]).length = n7 at hf7
    subst hf7
    clear hS ho7 hg7 hv7
    have hS := hS2
    clear hS2
    have x1 := M7.out.cells.c1
    have xf := M7.out.cells.fz
    have xl := M7.out.cells.lt
    refine hK.out _ _ hS (fun _ => ?_)
    clear hK K
    try simp only [Act.put, List.setIfInBounds_toArray, List.set_cons_zero, List.set_cons_succ]
    refine tkYes 8 (v := ?_) rfl (by kernel_rfl) (fun _ _ _ h => h) rfl ?_ hS ?_
    rotate_left
    · intro W hW; go_simp; (try with_reducible rfl)
    simp only [Act.put, List.setIfInBounds_toArray, List.set_cons_zero, List.set_cons_succ]
    refine tkYes 9 (v := ?_) rfl (by kernel_rfl) (fun _ _ _ h => h) rfl ?_ hS ?_
    rotate_left
    · intro W hW; go_simp; (try with_reducible rfl)
    simp only [Act.put, List.setIfInBounds_toArray, List.set_cons_zero, List.set_cons_succ]
    refine rnOne 10 rfl (by kernel_rfl) rfl (fun K hK => ?_)
    go_simp
    have M8 := Lib.hid (M7.out.slot (.slice A7 n7 k7))
    have hS2 := hS.keep (w' := w7.setCell ⟨r, 1, none⟩ (.slice A7 n7 k7)) (heap_setCell_other _ _ _ _ (fun e => GR.out e))
    clear hS x1 xf xl
    have hS := hS2
    clear hS2
    refine hK.out _ _ hS (fun _ => ?_)
    clear hK K
    try simp only [Act.put, List.setIfInBounds_toArray, List.set_cons_zero, List.set_cons_succ]
    refine wpAnyH_done (by kernel_rfl) ?_ _
    clear hS
    go_wp2_with fail
    go_ret
    show NTurn _ _ _ _ _ (.returned (.int .i64 0)) _
    refine NtMid.turn (c := c) (s := ⟨room, l ++ [m], sent, lost⟩) (V := .slice A7 n7 k7) ?_ OK2.out HG.out
    show NtMid _ _ _ _ _ _ _ _ (room - (l ++ [m]).length) _ _ _
    rw [HK.out]
    exact M8.out
  · refine wp_build_msg (.tmp 24) rfl m rfl ?_
    have hb6 : Below w5.heap.size w5 (w5.alloc (.cells (Nt.mC m).toArray 32)) := (Below.refl _ _).alloc (Nat.le_refl _) _
    have R6 : Hid (NtAt (w5.alloc (.cells (Nt.mC m).toArray 32)) w5.heap.size m) := NtAt.new _ _
    have M6 := Lib.hid (M5.out.on hb6)
    have hS2 := hS.on hb6
    clear hS hb6
    have hS := hS2
    clear hS2
    generalize w5.alloc (.cells (Nt.mC m).toArray 32) = w6 at *
    generalize w5.heap.size = m6 at *
    refine hK.out _ _ hS (fun _ => ?_)
    clear hK K
    try simp only [Act.put, List.setIfInBounds_toArray, List.set_cons_zero, List.set_cons_succ]
    refine rnOne 4 rfl (by kernel_rfl) rfl (fun K hK => ?_)
    have x1 := M6.out.cells.c1
    go_simp
    clear x1
    refine hK.out _ _ hS (fun _ => ?_)
    clear hK K
    try simp only [Act.put, List.setIfInBounds_toArray, List.set_cons_zero, List.set_cons_succ]
    refine rnOne 7 rfl (by kernel_rfl) rfl (fun K hK => ?_)
    refine wp_append_msg (.tmp 23) (.tmp 25) rfl 0 (.slice A n k) l rfl M6.out.own m6 m rfl R6.out (by have := HL.out; omega) (Nat.zero_le _) ?_
    intro v7 w7 ho7 hg7 hv7
    have M7 := Lib.hid (M6.out.row' ho7 hg7 hv7)
    have hS2 := hS.keep (hg7.block g hS.cs.lt (fun e => VG5.out e.symm))
    obtain ⟨A7, k7, hf7⟩ := ho7.form
    generalize (l ++ [m]).length = n7 at hf7
    subst hf7
    clear hS ho7 hg7 hv7
    have hS := hS2
    clear hS2
    have x1 := M7.out.cells.c1
    have xf := M7.out.cells.fz
    have xl := M7.out.cells.lt
    refine hK.out _ _ hS (fun _ => ?_)
    clear hK K
    try simp only [Act.put, List.setIfInBounds_toArray, List.set_cons_zero, List.set_cons_succ]
    refine tkYes 8 (v := ?_) rfl (by kernel_rfl) (fun _ _ _ h => h) rfl ?_ hS ?_
    rotate_left
    · intro W hW; go_simp; (try with_reducible rfl)
    simp only [Act.put, List.setIfInBounds_toArray, List.set_cons_zero, List.set_cons_succ]
    refine tkYes 9 (v := ?_) rfl (by kernel_rfl) (fun _ _ _ h => h) rfl ?_ hS ?_
    rotate_left
    · intro W hW; go_simp; (try with_reducible rfl)
    simp only [Act.put, List.setIfInBounds_toArray, List.set_cons_zero, List.set_cons_succ]
    refine rnOne 10 rfl (by kernel_rfl) rfl (fun K hK => ?_)
    go_simp
    have M8 := Lib.hid (M7.out.slot (.slice A7 n7 k7))
    have hS2 := hS.keep (w' := w7.setCell ⟨r, 1, none⟩ (.slice A7 n7 k7)) (heap_setCell_other _ _ _ _ (fun e => GR.out e))
    clear hS x1 xf xl
    have hS := hS2
    clear hS2
    refine hK.out _ _ hS (fun _ => ?_)
    clear hK K
    try simp only [Act.put, List.setIfInBounds_toArray, List.set_cons_zero, List.set_cons_succ]
    refine wpAnyH_done (by kernel_rfl) ?_ _
    clear hS
    go_wp2_with fail
    go_ret
    show NTurn _ _ _ _ _ (.returned (.int .i64 0)) _
    refine NtMid.turn (c := c) (s := ⟨room, l ++ [m], sent, lost⟩) (V := .slice A7 n7 k7) ?_ OK2.out HG.out
    show NtMid _ _ _ _ _ _ _ _ (room - (l ++ [m]).length) _ _ _
    rw [HK.out]
    exact M8.out
end Go.Proofs.Ytmhhjipdbfepiaa
