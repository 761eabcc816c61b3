/-
  The document's worker (layer 16): Apply. Written by wip/tools/gen/wkapply.py. No condition but that its numbers may be.
-/
import Derived.Test.YtgljepjflpijiaaWkRef5
import Derived.Test.YtgljepjflpijiaaRegion
namespace Go.Proofs.Ytgljepjflpijiaa
open Go.RowKit Go.Deep
set_option linter.unusedSimpArgs false
set_option linter.unusedVariables false
set_option maxRecDepth 100000

theorem Wk.setL_same (l : Nat → Su.S) (j : Nat) : Wk.setL l j (l j) = l := by
  funext i
  unfold Wk.setL
  split
  · rename_i h; rw [h]
  · rfl
/-- A worker and a message boxed, and the answer's block. -/
structure Wk3 (W w : World) (g : Nat) (s : Wk.W) (m : Nt.M) (r : Wk.W) : Prop where
  a : WkAt w g s
  m : NtAt w (g + 1) m
  r : WkAt w (g + 1 + 1) r
  b : Below W.heap.size W w
  g : W.heap.size ≤ g
section
variable {W w w' : World} {g : Nat} {s r : Wk.W} {m : Nt.M}
theorem Wk3.on (h : Wk3 W w g s m r) (hb : Below w.heap.size w w') : Wk3 W w' g s m r := ⟨h.a.on hb, h.m.on hb, h.r.on hb, h.b.trans (hb.mono h.b.size), h.g⟩
theorem nt_off (h : NtAt w g m) {q : Nat} (hq : q ≠ g) (k : Nat) (v : Value) : NtAt (w.setCell ⟨q, k, none⟩ v) g m := h.keep (Below.heap_setCell _ _ _ _ (by simpa using hq.symm))
theorem nt_offRow (h : NtAt w g m) {q : Nat} (hq : q ≠ g) (cs : Array Value) : NtAt (w.setRow q cs) g m := h.keep (by
  simp only [World.setRow]
  rw [Array.getElem?_modify]
  simp [hq])
theorem Wk3.seen (h : Wk3 W w g s m r) (x : Int) : Wk3 W (w.setCell ⟨g, 2, none⟩ (.int .i64 x)) g ⟨s.n, s.many, x, s.l⟩ m r := ⟨h.a.seen x, nt_off h.m (by omega) _ _, wk_off h.r (by omega) _ _, h.b.setCell h.g _, h.g⟩
theorem Wk3.put (h : Wk3 W w g s m r) {j : Nat} (hj : j < 16) (x : Su.S) : Wk3 W ((((w.setCell ⟨g, 3 + j * 4, none⟩ (.int .i64 x.st)).setCell ⟨g, 3 + j * 4 + 1, none⟩ (.int .i64 x.v)).setCell ⟨g, 3 + j * 4 + 2, none⟩ (.int .i64 x.wa)).setCell ⟨g, 3 + j * 4 + 3, none⟩ (.int .i64 x.sq)) g ⟨s.n, s.many, s.seen, Wk.setL s.l j x⟩ m r :=
  ⟨h.a.put hj x, nt_off (nt_off (nt_off (nt_off h.m (by omega) _ _) (by omega) _ _) (by omega) _ _) (by omega) _ _, wk_off (wk_off (wk_off (wk_off h.r (by omega) _ _) (by omega) _ _) (by omega) _ _) (by omega) _ _, (((h.b.setCell h.g _).setCell h.g _).setCell h.g _).setCell h.g _, h.g⟩
theorem Wk3.fill (h : Wk3 W w g s m r) (r' : Wk.W) : Wk3 W (w.setRow (g + 1 + 1) (Wk.cells r')) g s m r' := ⟨wk_offRow h.a (by omega) _, nt_offRow h.m (by omega) _, h.r.setRow r', below_row h.b (grown_row w (g + 1 + 1) _) (by have := h.g; omega), h.g⟩
theorem wk_three (W : World) (s : Wk.W) (m : Nt.M) : ∃ g W1, W1 = ((W.alloc (.cells (Wk.cells s) 32)).alloc (.cells (Nt.cs m) 38)).alloc (.cells Wk.zeros 32) ∧ g = W.heap.size ∧ Wk3 W W1 g s m Wk.zero := by
  obtain ⟨g, W1, h1, h2, h3, h4, h5⟩ := wk_two W s (.cells (Nt.cs m) 38)
  have hz : W1.heap.size = g + 1 + 1 := by rw [h1, h2]; simp
  have hb := (Below.refl W1.heap.size W1).alloc (Nat.le_refl _) (.cells Wk.zeros 32)
  have r := WkAt.zero W1
  rw [hz] at r
  refine ⟨g, _, by rw [← h1], h2, h3.on hb, ⟨blk_on h4 hb⟩, r, h5.trans (hb.mono h5.size), Nat.le_of_eq h2.symm⟩
theorem wk_ret3 {fn : Func} {p u : Tmp} (hf : fn.results = #[.cell p 32, .tmp u]) (h : Wk3 W w g s m r) {a : Act} {x : Value} (hp : a.tmps.getD p undef = .pointer (some ⟨g + 1 + 1, 0, none⟩)) (hb : a.tmps.getD u undef = x) (hdf : a.defers = []) : bodyPost Try.prog fn (WkPost W r x) .ret a w := by
  refine bodyPost_ret (v := .tuple #[.agg (Wk.cells r), x]) ?_ hdf ⟨rfl, h.b⟩
  rw [wk_results2 hf a.tmps hp h.r, hb]
end
set_option maxHeartbeats 6400000 in
theorem rwapply_wrong {s : Wk.W} {m : Nt.M} (hw : ¬ (Nt.right m = true ∧ m.k = 1)) (W : World) : Calls Try.prog 27 #[.agg (Wk.cells s), Nt.val m] W (WkPost W s (.int .i64 1)) := by
  obtain ⟨g, W1, hW, hg, r0⟩ := wk_three W s m
  have HW := Lib.hid hW
  have HG := Lib.hid hg
  have R := Lib.hid r0
  have CM := Lib.hid (fun W => rtright_any m W)
  have hz := wk_zero
  clear hW hg r0
  cases hr : Nt.right m with
  | false =>
    rw [hr] at CM
    clear hw hr
    go_enter Try.func27, Try.ntmps27
    go_upto_region 1 with fail
    rw [← HW.out, ← HG.out]
    go_upto_region 2 with (first
      | ((with_reducible show wpList _ _ _ ({ dst := some 10, op := .load _ _, type := _, pos := _, after := _, guard := _ } :: _) _ _); refine wpList_load_msg rfl (.tmp 3) rfl (g + 1) 0 rfl m R.out.m.range ?_)
      | (go_at_call 44; (with_reducible refine (CM.out _).mono ?_); rintro e w2 ⟨rfl, hb⟩; replace R := Lib.hid (R.out.on hb); clear hb))
    obtain ⟨y0, y1, y2, y3, y4, y5, yl⟩ := R.out.m.cs
    obtain ⟨c0, c1, c2, cl⟩ := R.out.a.cs
    go_wp2_with (first
      | ((with_reducible show wpList _ _ _ ({ dst := some 19, op := .load _ _, type := _, pos := _, after := _, guard := _ } :: _) _ _); refine wpList_load_wk rfl (.tmp 2) rfl rfl R.out.a ?_)
      | ((with_reducible show wpList _ _ _ ({ dst := none, op := .store _ _ _, type := _, pos := _, after := _, guard := _ } :: _) _ _); refine wpList_store_wk rfl (.tmp 4) (.tmp 19) rfl rfl rfl R.out.r ?_))
    exact wk_ret3 Try.results27 (R.out.fill _) rfl rfl rfl
  | true =>
    rw [hr] at CM
    have hk : (m.k != 1) = true := by simpa using fun h => hw ⟨hr, h⟩
    clear hw hr
    go_enter Try.func27, Try.ntmps27
    go_upto_region 1 with fail
    rw [← HW.out, ← HG.out]
    go_upto_region 2 with (first
      | ((with_reducible show wpList _ _ _ ({ dst := some 10, op := .load _ _, type := _, pos := _, after := _, guard := _ } :: _) _ _); refine wpList_load_msg rfl (.tmp 3) rfl (g + 1) 0 rfl m R.out.m.range ?_)
      | (go_at_call 44; (with_reducible refine (CM.out _).mono ?_); rintro e w2 ⟨rfl, hb⟩; replace R := Lib.hid (R.out.on hb); clear hb))
    obtain ⟨y0, y1, y2, y3, y4, y5, yl⟩ := R.out.m.cs
    obtain ⟨c0, c1, c2, cl⟩ := R.out.a.cs
    go_wp2_with (first
      | ((with_reducible show wpList _ _ _ ({ dst := some 19, op := .load _ _, type := _, pos := _, after := _, guard := _ } :: _) _ _); refine wpList_load_wk rfl (.tmp 2) rfl rfl R.out.a ?_)
      | ((with_reducible show wpList _ _ _ ({ dst := none, op := .store _ _ _, type := _, pos := _, after := _, guard := _ } :: _) _ _); refine wpList_store_wk rfl (.tmp 4) (.tmp 19) rfl rfl rfl R.out.r ?_))
    exact wk_ret3 Try.results27 (R.out.fill _) rfl rfl rfl
set_option maxHeartbeats 6400000 in
theorem rwapply_none {s : Wk.W} {m : Nt.M} (hm : 1 ≤ s.many ∧ s.many ≤ 16) (hc : Nt.right m = true ∧ m.k = 1) (ho : ¬ Wk.own s m.u) (W : World) : Calls Try.prog 27 #[.agg (Wk.cells s), Nt.val m] W (WkPost W s (.int .i64 5)) := by
  obtain ⟨g, W1, hW, hg, r0⟩ := wk_three W s m
  have HW := Lib.hid hW
  have HG := Lib.hid hg
  have R := Lib.hid r0
  have CM := Lib.hid (fun W => rtright_any m W)
  have hz := wk_zero
  clear hW hg r0
  obtain ⟨hr, hk⟩ := hc
  have hk2 : (m.k != 1) = false := by simpa using hk
  rw [hr] at CM
  clear hr hk
  have CO := Lib.hid (fun W => rwown_is (s := s) (u := m.u) (b := false) hm (by simp [ho]) W)
  clear hm ho
  go_enter Try.func27, Try.ntmps27
  go_upto_region 1 with fail
  rw [← HW.out, ← HG.out]
  go_upto_region 2 with (first
    | ((with_reducible show wpList _ _ _ ({ dst := some 10, op := .load _ _, type := _, pos := _, after := _, guard := _ } :: _) _ _); refine wpList_load_msg rfl (.tmp 3) rfl (g + 1) 0 rfl m R.out.m.range ?_)
    | (go_at_call 44; (with_reducible refine (CM.out _).mono ?_); rintro e w2 ⟨rfl, hb⟩; replace R := Lib.hid (R.out.on hb); clear hb))
  obtain ⟨y0, y1, y2, y3, y4, y5, yl⟩ := R.out.m.cs
  obtain ⟨c0, c1, c2, cl⟩ := R.out.a.cs
  go_wp2_with (first
    | ((with_reducible show wpList _ _ _ ({ dst := some 20, op := .load _ _, type := _, pos := _, after := _, guard := _ } :: _) _ _); refine wpList_load_wk rfl (.tmp 2) rfl rfl R.out.a ?_)
    | ((with_reducible show wpList _ _ _ ({ dst := some 26, op := .load _ _, type := _, pos := _, after := _, guard := _ } :: _) _ _); refine wpList_load_wk rfl (.tmp 2) rfl rfl R.out.a ?_)
    | (go_at_call 32; (with_reducible refine (CO.out _).mono ?_); rintro e w2 ⟨rfl, hb⟩; replace R := Lib.hid (R.out.on hb); clear hb)
    | ((with_reducible show wpList _ _ _ ({ dst := none, op := .store _ _ _, type := _, pos := _, after := _, guard := _ } :: _) _ _); refine wpList_store_wk rfl (.tmp 4) (.tmp 26) rfl rfl rfl R.out.r ?_))
  exact wk_ret3 Try.results27 (R.out.fill _) rfl rfl rfl
set_option maxHeartbeats 6400000 in
theorem rwapply_epoch {s : Wk.W} {m : Nt.M} (hm : 1 ≤ s.many ∧ s.many ≤ 16) (hc : Nt.right m = true ∧ m.k = 1) (ho : Wk.own s m.u) (he : m.e < s.seen) (W : World) : Calls Try.prog 27 #[.agg (Wk.cells s), Nt.val m] W (WkPost W s (.int .i64 8)) := by
  obtain ⟨g, W1, hW, hg, r0⟩ := wk_three W s m
  have HW := Lib.hid hW
  have HG := Lib.hid hg
  have R := Lib.hid r0
  have CM := Lib.hid (fun W => rtright_any m W)
  have hz := wk_zero
  clear hW hg r0
  obtain ⟨hr, hk⟩ := hc
  have hk2 : (m.k != 1) = false := by simpa using hk
  rw [hr] at CM
  clear hr hk
  have CO := Lib.hid (fun W => rwown_is (s := s) (u := m.u) (b := true) hm (by simp [ho]) W)
  clear hm ho
  go_enter Try.func27, Try.ntmps27
  go_upto_region 1 with fail
  rw [← HW.out, ← HG.out]
  go_upto_region 2 with (first
    | ((with_reducible show wpList _ _ _ ({ dst := some 10, op := .load _ _, type := _, pos := _, after := _, guard := _ } :: _) _ _); refine wpList_load_msg rfl (.tmp 3) rfl (g + 1) 0 rfl m R.out.m.range ?_)
    | (go_at_call 44; (with_reducible refine (CM.out _).mono ?_); rintro e w2 ⟨rfl, hb⟩; replace R := Lib.hid (R.out.on hb); clear hb))
  obtain ⟨y0, y1, y2, y3, y4, y5, yl⟩ := R.out.m.cs
  obtain ⟨c0, c1, c2, cl⟩ := R.out.a.cs
  go_upto_region 7 with (first
    | ((with_reducible show wpList _ _ _ ({ dst := some 20, op := .load _ _, type := _, pos := _, after := _, guard := _ } :: _) _ _); refine wpList_load_wk rfl (.tmp 2) rfl rfl R.out.a ?_)
    | (go_at_call 32; (with_reducible refine (CO.out _).mono ?_); rintro e w2 ⟨rfl, hb⟩; replace R := Lib.hid (R.out.on hb); clear hb))
  clear y0 y1 y2 y3 y4 y5 yl c0 c1 c2 cl
  obtain ⟨y0, y1, y2, y3, y4, y5, yl⟩ := R.out.m.cs
  obtain ⟨c0, c1, c2, cl⟩ := R.out.a.cs
  go_wp2_with (first
    | ((with_reducible show wpList _ _ _ ({ dst := some 32, op := .load _ _, type := _, pos := _, after := _, guard := _ } :: _) _ _); refine wpList_load_wk rfl (.tmp 2) rfl rfl R.out.a ?_)
    | ((with_reducible show wpList _ _ _ ({ dst := none, op := .store _ _ _, type := _, pos := _, after := _, guard := _ } :: _) _ _); refine wpList_store_wk rfl (.tmp 4) (.tmp 32) rfl rfl rfl R.out.r ?_))
  exact wk_ret3 Try.results27 (R.out.fill _) rfl rfl rfl
set_option maxHeartbeats 6400000 in
theorem rwapply_goes {s : Wk.W} {m : Nt.M} (hm : 1 ≤ s.many ∧ s.many ≤ 16) (hc : Nt.right m = true ∧ m.k = 1) (j : Nat) (hj : j < 16) (hju : m.u = (j : Nat)) (ho : Wk.own s m.u) (he : ¬ m.e < s.seen) (W : World) : Calls Try.prog 27 #[.agg (Wk.cells s), Nt.val m] W (WkPost W ⟨s.n, s.many, m.e, Wk.setL s.l j (Su.want (s.l j) m.v m.s)⟩ (.int .i64 (if Su.takes (s.l j) m.v m.s then 0 else 7))) := by
  obtain ⟨g, W1, hW, hg, r0⟩ := wk_three W s m
  have HW := Lib.hid hW
  have HG := Lib.hid hg
  have R := Lib.hid r0
  have CM := Lib.hid (fun W => rtright_any m W)
  have hz := wk_zero
  clear hW hg r0
  obtain ⟨hr, hk⟩ := hc
  have hk2 : (m.k != 1) = false := by simpa using hk
  rw [hr] at CM
  clear hr hk
  have CO := Lib.hid (fun W => rwown_is (s := s) (u := (j : Nat)) (b := true) hm (by rw [← hju]; simp [ho]) W)
  clear hm ho
  obtain ⟨x, hx⟩ : ∃ x, x = s.l j := ⟨_, rfl⟩
  obtain ⟨y, hy⟩ : ∃ y, y = Su.want (s.l j) m.v m.s := ⟨_, rfl⟩
  obtain ⟨b, hb⟩ : ∃ b, b = decide (Su.takes (s.l j) m.v m.s) := ⟨_, rfl⟩
  have CW : Hid (∀ W, Calls Try.prog 45 #[suV x, .int .i64 m.v, .int .i64 m.s] W (SuPost W y b)) := fun W => by rw [hy, hb, hx]; exact rswant_any (s.l j) m.v m.s W
  have EA : Hid ((if Su.takes (s.l j) m.v m.s then (0 : Int) else 7) = if b = true then 0 else 7) := by show _ = _; rw [hb]; simp
  have EB : Hid (b = false → y = s.l j) := fun e => by rw [hy]; exact Su.want_no (by rw [hb] at e; simpa using e)
  obtain ⟨ans, hans⟩ : ∃ ans : Int, ans = if Su.takes (s.l j) m.v m.s then 0 else 7 := ⟨_, rfl⟩
  rw [← hans] at EA ⊢
  rw [← hy]
  have HX := Lib.hid hx
  have hj2 : (j : Int) < 16 := by omega
  clear hy hb hx hans
  unfold suV suC at *
  go_enter Try.func27, Try.ntmps27
  go_upto_region 1 with fail
  rw [← HW.out, ← HG.out]
  go_upto_region 2 with (first
    | ((with_reducible show wpList _ _ _ ({ dst := some 10, op := .load _ _, type := _, pos := _, after := _, guard := _ } :: _) _ _); refine wpList_load_msg rfl (.tmp 3) rfl (g + 1) 0 rfl m R.out.m.range ?_)
    | (go_at_call 44; (with_reducible refine (CM.out _).mono ?_); rintro e w2 ⟨rfl, hb⟩; replace R := Lib.hid (R.out.on hb); clear hb))
  obtain ⟨y0, y1, y2, y3, y4, y5, yl⟩ := R.out.m.cs
  obtain ⟨c0, c1, c2, cl⟩ := R.out.a.cs
  go_upto_region 7 with (first
    | ((with_reducible show wpList _ _ _ ({ dst := some 20, op := .load _ _, type := _, pos := _, after := _, guard := _ } :: _) _ _); refine wpList_load_wk rfl (.tmp 2) rfl rfl R.out.a ?_)
    | (go_at_call 32; (with_reducible refine (CO.out _).mono ?_); rintro e w2 ⟨rfl, hb⟩; replace R := Lib.hid (R.out.on hb); clear hb))
  clear y0 y1 y2 y3 y4 y5 yl c0 c1 c2 cl
  obtain ⟨y0, y1, y2, y3, y4, y5, yl⟩ := R.out.m.cs
  obtain ⟨c0, c1, c2, cl⟩ := R.out.a.cs
  have fz := R.out.a.fz
  go_upto_region 10 with fail
  have R9 := Lib.hid (R.out.seen m.e)
  clear y0 y1 y2 y3 y4 y5 yl c0 c1 c2 cl fz
  obtain ⟨W5, hW5⟩ : ∃ W5, W5 = w2.setCell ⟨g, 2, none⟩ (.int .i64 m.e) := ⟨_, rfl⟩
  rw [← hW5] at R9 ⊢
  clear hW5 R
  go_cut [8, 9] (fun s8 s9 wx => ∃ ga, s8 = .pointer (some ⟨ga, 0, none⟩) ∧ s9 = .bool b ∧ SuAt 29 wx ga y ∧ W5.heap.size ≤ ga ∧ Below W5.heap.size W5 wx)
  case first =>
    refine wp_region_held_drew (S := fun V => Below W5.heap.size W5 V) (by kernel_rfl) (Below.refl W5.heap.size W5).drew (fun hS => ?_)
    refine tkYes 0 (v := ?_) rfl (by kernel_rfl) (fun _ _ _ h => h) rfl ?_ hS ?_
    rotate_left
    · intro W hW; go_simp; (try with_reducible rfl)
    simp only [Act.put, List.setIfInBounds_toArray, List.set_cons_zero, List.set_cons_succ]
    refine tkYes 1 (v := ?_) rfl (by kernel_rfl) (fun _ _ _ h => h) rfl ?_ hS ?_
    rotate_left
    · intro W hW; obtain ⟨y0, y1, y2, y3, y4, y5, yl⟩ := (R9.out.on hW).m.cs; rw [hju] at y3; go_simp; (try with_reducible rfl)
    simp only [Act.put, List.setIfInBounds_toArray, List.set_cons_zero, List.set_cons_succ]
    refine tkYes 2 (v := ?_) rfl (by kernel_rfl) (fun _ _ _ h => h) rfl ?_ hS ?_
    rotate_left
    · intro W hW; go_simp; (try with_reducible rfl)
    simp only [Act.put, List.setIfInBounds_toArray, List.set_cons_zero, List.set_cons_succ]
    refine tkYes 3 (v := ?_) rfl (by kernel_rfl) (fun _ _ _ h => h) rfl ?_ hS ?_
    rotate_left
    · intro W hW; go_simp; (try with_reducible rfl)
    simp only [Act.put, List.setIfInBounds_toArray, List.set_cons_zero, List.set_cons_succ]
    refine tkYes 4 (v := ?_) rfl (by kernel_rfl) (fun _ _ _ h => h) rfl ?_ hS ?_
    rotate_left
    · intro W hW; obtain ⟨d0, d1, d2, d3⟩ := (R9.out.on hW).a.slot hj; simp only at d0 d1 d2 d3; rw [← HX.out] at d0 d1 d2 d3; go_simp; (try with_reducible rfl)
    simp only [Act.put, List.setIfInBounds_toArray, List.set_cons_zero, List.set_cons_succ]
    refine tkYes 5 (v := ?_) rfl (by kernel_rfl) (fun _ _ _ h => h) rfl ?_ hS ?_
    rotate_left
    · intro W hW; go_simp; (try with_reducible rfl)
    simp only [Act.put, List.setIfInBounds_toArray, List.set_cons_zero, List.set_cons_succ]
    refine tkYes 6 (v := ?_) rfl (by kernel_rfl) (fun _ _ _ h => h) rfl ?_ hS ?_
    rotate_left
    · intro W hW; obtain ⟨y0, y1, y2, y3, y4, y5, yl⟩ := (R9.out.on hW).m.cs; rw [hju] at y3; go_simp; (try with_reducible rfl)
    simp only [Act.put, List.setIfInBounds_toArray, List.set_cons_zero, List.set_cons_succ]
    refine tkYes 7 (v := ?_) rfl (by kernel_rfl) (fun _ _ _ h => h) rfl ?_ hS ?_
    rotate_left
    · intro W hW; go_simp; (try with_reducible rfl)
    simp only [Act.put, List.setIfInBounds_toArray, List.set_cons_zero, List.set_cons_succ]
    refine tkYes 8 (v := ?_) rfl (by kernel_rfl) (fun _ _ _ h => h) rfl ?_ hS ?_
    rotate_left
    · intro W hW; obtain ⟨y0, y1, y2, y3, y4, y5, yl⟩ := (R9.out.on hW).m.cs; rw [hju] at y3; go_simp; (try with_reducible rfl)
    simp only [Act.put, List.setIfInBounds_toArray, List.set_cons_zero, List.set_cons_succ]
    obtain ⟨w, hw0⟩ : ∃ w, w = W5.drew := ⟨_, rfl⟩
    rw [← hw0] at hS ⊢
    clear hw0
    refine rnTwo 9 13 rfl rfl (by kernel_rfl) rfl rfl (fun K hK => ?_) (fun K hK => ?_)
    · skip
      go_simp
      with_reducible refine (CW.out _).mono ?_
      rintro e w7 ⟨rfl, hb⟩
      replace hS := hS.trans (hb.mono hS.size)
      clear hb
      try go_simp
      refine hK.out _ _ hS (fun _ => ?_)
      clear hK K
      try simp only [Act.put, List.setIfInBounds_toArray, List.set_cons_zero, List.set_cons_succ]
      refine tkYes 10 (v := ?_) rfl (by kernel_rfl) (fun _ _ _ h => h) rfl ?_ hS ?_
      rotate_left
      · intro W hW; go_simp; (try with_reducible rfl)
      simp only [Act.put, List.setIfInBounds_toArray, List.set_cons_zero, List.set_cons_succ]
      refine tkYes 11 (v := ?_) rfl (by kernel_rfl) (fun _ _ _ h => h) rfl ?_ hS ?_
      rotate_left
      · intro W hW; go_simp; (try with_reducible rfl)
      simp only [Act.put, List.setIfInBounds_toArray, List.set_cons_zero, List.set_cons_succ]
      refine tkYes 12 (v := ?_) rfl (by kernel_rfl) (fun _ _ _ h => h) rfl ?_ hS ?_
      rotate_left
      · intro W hW; go_simp; (try with_reducible rfl)
      simp only [Act.put, List.setIfInBounds_toArray, List.set_cons_zero, List.set_cons_succ]
      refine rnOne 13 rfl (by kernel_rfl) rfl (fun K hK => ?_)
      go_simp
      have hb := (Below.refl w7.heap.size w7).alloc (Nat.le_refl _) (.cells #[.int .i64 0, .int .i64 0, .int .i64 0, .int .i64 0] 29)
      have A : Hid (SuAt 29 (w7.alloc (.cells #[.int .i64 0, .int .i64 0, .int .i64 0, .int .i64 0] 29)) w7.heap.size Su.zero) := SuAt.new 29 w7 Su.zero
      have QL := Lib.hid hS.size
      obtain ⟨ga, hga⟩ : ∃ g, g = w7.heap.size := ⟨_, rfl⟩
      rw [← hga] at A ⊢
      have GA : Hid (W5.heap.size ≤ ga) := by have h1 := QL.out; show _ ≤ _; omega
      replace hS := hS.trans (hb.mono hS.size)
      clear hb hga QL
      generalize w7.alloc (.cells #[.int .i64 0, .int .i64 0, .int .i64 0, .int .i64 0] 29) = w8 at *
      refine hK.out _ _ hS (fun _ => ?_)
      clear hK K
      try simp only [Act.put, List.setIfInBounds_toArray, List.set_cons_zero, List.set_cons_succ]
      obtain ⟨d0, d1, d2, d3, dl⟩ := A.out.cells
      obtain ⟨f0, f1, f2, f3⟩ := A.out.fz
      refine rnOne 14 rfl (by kernel_rfl) rfl (fun K hK => ?_)
      go_simp
      replace hS : Below W5.heap.size W5 ((((w8.setCell ⟨ga, 0, none⟩ (.int .i64 y.st)).setCell ⟨ga, 1, none⟩ (.int .i64 y.v)).setCell ⟨ga, 2, none⟩ (.int .i64 y.wa)).setCell ⟨ga, 3, none⟩ (.int .i64 y.sq)) := (((hS.setCell (p := ⟨ga, 0, none⟩) GA.out _).setCell (p := ⟨ga, 1, none⟩) GA.out _).setCell (p := ⟨ga, 2, none⟩) GA.out _).setCell (p := ⟨ga, 3, none⟩) GA.out _
      refine hK.out _ _ hS (fun _ => ?_)
      clear hK K
      try simp only [Act.put, List.setIfInBounds_toArray, List.set_cons_zero, List.set_cons_succ]
      refine tkYes 15 (v := ?_) rfl (by kernel_rfl) (fun _ _ _ h => h) rfl ?_ hS ?_
      rotate_left
      · intro W hW; go_simp; (try with_reducible rfl)
      simp only [Act.put, List.setIfInBounds_toArray, List.set_cons_zero, List.set_cons_succ]
      refine wpAnyH_done (by kernel_rfl) ?_ _
      have A2 : SuAt 29 ((((w8.setCell ⟨ga, 0, none⟩ (.int .i64 y.st)).setCell ⟨ga, 1, none⟩ (.int .i64 y.v)).setCell ⟨ga, 2, none⟩ (.int .i64 y.wa)).setCell ⟨ga, 3, none⟩ (.int .i64 y.sq)) ga y := (((A.out.set0 y.st).set1 y.v).set2 y.wa).set3 y.sq
      go_wp2_with fail
      go_meet
      case rel => exact ⟨ga, rfl, rfl, A2, GA.out, hS⟩
    · skip
      go_simp
      have hb := (Below.refl w.heap.size w).alloc (Nat.le_refl _) (.cells #[.int .i64 0, .int .i64 0, .int .i64 0, .int .i64 0] 29)
      have A : Hid (SuAt 29 (w.alloc (.cells #[.int .i64 0, .int .i64 0, .int .i64 0, .int .i64 0] 29)) w.heap.size Su.zero) := SuAt.new 29 w Su.zero
      have QL := Lib.hid hS.size
      obtain ⟨ga, hga⟩ : ∃ g, g = w.heap.size := ⟨_, rfl⟩
      rw [← hga] at A ⊢
      have GA : Hid (W5.heap.size ≤ ga) := by have h1 := QL.out; show _ ≤ _; omega
      replace hS := hS.trans (hb.mono hS.size)
      clear hb hga QL
      generalize w.alloc (.cells #[.int .i64 0, .int .i64 0, .int .i64 0, .int .i64 0] 29) = w7 at *
      refine hK.out _ _ hS (fun _ => ?_)
      clear hK K
      try simp only [Act.put, List.setIfInBounds_toArray, List.set_cons_zero, List.set_cons_succ]
      refine rnOne 9 rfl (by kernel_rfl) rfl (fun K hK => ?_)
      go_simp
      with_reducible refine (CW.out _).mono ?_
      rintro e w8 ⟨rfl, hb⟩
      replace hS := hS.trans (hb.mono hS.size)
      replace A := Lib.hid (A.out.on hb)
      clear hb
      try go_simp
      refine hK.out _ _ hS (fun _ => ?_)
      clear hK K
      try simp only [Act.put, List.setIfInBounds_toArray, List.set_cons_zero, List.set_cons_succ]
      refine tkYes 10 (v := ?_) rfl (by kernel_rfl) (fun _ _ _ h => h) rfl ?_ hS ?_
      rotate_left
      · intro W hW; go_simp; (try with_reducible rfl)
      simp only [Act.put, List.setIfInBounds_toArray, List.set_cons_zero, List.set_cons_succ]
      refine tkYes 11 (v := ?_) rfl (by kernel_rfl) (fun _ _ _ h => h) rfl ?_ hS ?_
      rotate_left
      · intro W hW; go_simp; (try with_reducible rfl)
      simp only [Act.put, List.setIfInBounds_toArray, List.set_cons_zero, List.set_cons_succ]
      refine tkYes 12 (v := ?_) rfl (by kernel_rfl) (fun _ _ _ h => h) rfl ?_ hS ?_
      rotate_left
      · intro W hW; go_simp; (try with_reducible rfl)
      simp only [Act.put, List.setIfInBounds_toArray, List.set_cons_zero, List.set_cons_succ]
      obtain ⟨d0, d1, d2, d3, dl⟩ := A.out.cells
      obtain ⟨f0, f1, f2, f3⟩ := A.out.fz
      refine rnOne 14 rfl (by kernel_rfl) rfl (fun K hK => ?_)
      go_simp
      replace hS : Below W5.heap.size W5 ((((w8.setCell ⟨ga, 0, none⟩ (.int .i64 y.st)).setCell ⟨ga, 1, none⟩ (.int .i64 y.v)).setCell ⟨ga, 2, none⟩ (.int .i64 y.wa)).setCell ⟨ga, 3, none⟩ (.int .i64 y.sq)) := (((hS.setCell (p := ⟨ga, 0, none⟩) GA.out _).setCell (p := ⟨ga, 1, none⟩) GA.out _).setCell (p := ⟨ga, 2, none⟩) GA.out _).setCell (p := ⟨ga, 3, none⟩) GA.out _
      refine hK.out _ _ hS (fun _ => ?_)
      clear hK K
      try simp only [Act.put, List.setIfInBounds_toArray, List.set_cons_zero, List.set_cons_succ]
      refine tkYes 15 (v := ?_) rfl (by kernel_rfl) (fun _ _ _ h => h) rfl ?_ hS ?_
      rotate_left
      · intro W hW; go_simp; (try with_reducible rfl)
      simp only [Act.put, List.setIfInBounds_toArray, List.set_cons_zero, List.set_cons_succ]
      refine wpAnyH_done (by kernel_rfl) ?_ _
      have A2 : SuAt 29 ((((w8.setCell ⟨ga, 0, none⟩ (.int .i64 y.st)).setCell ⟨ga, 1, none⟩ (.int .i64 y.v)).setCell ⟨ga, 2, none⟩ (.int .i64 y.wa)).setCell ⟨ga, 3, none⟩ (.int .i64 y.sq)) ga y := (((A.out.set0 y.st).set1 y.v).set2 y.wa).set3 y.sq
      go_wp2_with fail
      go_meet
      case rel => exact ⟨ga, rfl, rfl, A2, GA.out, hS⟩
  case rest =>
    obtain ⟨ga, rfl, rfl, a2, gA, h6⟩ := hcut
    have A2 := Lib.hid a2
    have R := Lib.hid (R9.out.on h6)
    clear a2 gA h6 R9
    obtain ⟨y0, y1, y2, y3, y4, y5, yl⟩ := R.out.m.cs
    rw [hju] at y3
    obtain ⟨d0, d1, d2, d3, dl⟩ := A2.out.cells
    obtain ⟨o0, o1, o2, o3⟩ := R.out.a.slot hj
    have fz := R.out.a.fz
    cases b with
    | false =>
      have EY := EB.out rfl
      rw [if_neg (by decide)] at EA
      have EZ : Hid (Wk.setL s.l j y = s.l) := by show _ = _; rw [EY, Wk.setL_same]
      clear EY
      go_wp2_with (first
        | ((with_reducible show wpList _ _ _ ({ dst := some 51, op := .load _ _, type := _, pos := _, after := _, guard := _ } :: _) _ _); refine wpList_load_wk rfl (.tmp 2) rfl rfl R.out.a ?_)
        | ((with_reducible show wpList _ _ _ ({ dst := none, op := .store _ _ _, type := _, pos := _, after := _, guard := _ } :: _) _ _); refine wpList_store_wk rfl (.tmp 4) (.tmp 51) rfl rfl rfl R.out.r ?_))
      rw [EA.out, EZ.out]
      exact wk_ret3 Try.results27 (R.out.fill _) rfl rfl rfl
    | true =>
      rw [if_pos rfl] at EA
      go_upto_region 14 with fail
      have R7 := Lib.hid (R.out.put hj y)
      clear y0 y1 y2 y3 y4 y5 yl d0 d1 d2 d3 dl o0 o1 o2 o3 fz R
      obtain ⟨W7, hW7⟩ : ∃ W7, W7 = (((wc.setCell ⟨g, 3 + j * 4, none⟩ (.int .i64 y.st)).setCell ⟨g, 3 + j * 4 + 1, none⟩ (.int .i64 y.v)).setCell ⟨g, 3 + j * 4 + 2, none⟩ (.int .i64 y.wa)).setCell ⟨g, 3 + j * 4 + 3, none⟩ (.int .i64 y.sq) := ⟨_, rfl⟩
      rw [← hW7] at R7 ⊢
      have R := Lib.hid R7.out
      clear hW7 R7
      go_wp2_with (first
        | ((with_reducible show wpList _ _ _ ({ dst := some 57, op := .load _ _, type := _, pos := _, after := _, guard := _ } :: _) _ _); refine wpList_load_wk rfl (.tmp 2) rfl rfl R.out.a ?_)
        | ((with_reducible show wpList _ _ _ ({ dst := none, op := .store _ _ _, type := _, pos := _, after := _, guard := _ } :: _) _ _); refine wpList_store_wk rfl (.tmp 4) (.tmp 57) rfl rfl rfl R.out.r ?_))
      rw [EA.out]
      exact wk_ret3 Try.results27 (R.out.fill _) rfl rfl rfl
/-- Apply, of any message. -/
theorem rwapply_any {s : Wk.W} (m : Nt.M) (hm : 1 ≤ s.many ∧ s.many ≤ 16) (W : World) : Calls Try.prog 27 #[.agg (Wk.cells s), Nt.val m] W (WkPost W (Wk.applyS s m) (.int .i64 (Wk.applyE s m))) := by
  unfold Wk.applyS Wk.applyE
  by_cases hc : Nt.right m = true ∧ m.k = 1
  · by_cases ho : Wk.own s m.u
    · by_cases he : m.e < s.seen
      · rw [if_pos (.inr (.inr he)), if_neg (fun h => h hc), if_neg (fun h => h ho), if_pos he]
        exact rwapply_epoch hm hc ho he W
      · obtain ⟨hj, hju⟩ := Wk.own_lt ho
        rw [if_neg (by rintro (h | h | h); exact h hc; exact h ho; exact he h), if_neg (fun h => h hc), if_neg (fun h => h ho), if_neg he]
        exact rwapply_goes hm hc m.u.toNat hj hju.symm ho he W
    · rw [if_pos (.inr (.inl ho)), if_neg (fun h => h hc), if_pos ho]
      exact rwapply_none hm hc ho W
  · rw [if_pos (.inl hc), if_pos hc]
    exact rwapply_wrong hc W
end Go.Proofs.Ytgljepjflpijiaa
