/-
  The document's worker (layer 16): New, Turn, Fall. No condition but that its numbers may be.
-/
import Derived.Test.YtgljepjflpijiaaWkRef2
import Derived.Test.YtgljepjflpijiaaSuRef
namespace Go.Proofs.Ytgljepjflpijiaa
open Go.RowKit Go.Deep
set_option linter.unusedSimpArgs false
set_option linter.unusedVariables false
set_option maxRecDepth 100000

/-- A worker boxed, and the answer's block. -/
structure Wk2 (W w : World) (g : Nat) (s r : Wk.W) : Prop where
  a : WkAt w g s
  r : WkAt w (g + 1) r
  b : Below W.heap.size W w
  g : W.heap.size ≤ g
section
variable {W w w' : World} {g : Nat} {s r : Wk.W}
theorem Wk2.on (h : Wk2 W w g s r) (hb : Below w.heap.size w w') : Wk2 W w' g s r := ⟨h.a.on hb, h.r.on hb, h.b.trans (hb.mono h.b.size), h.g⟩
theorem wk_off (h : WkAt w g s) {q : Nat} (hq : q ≠ g) (k : Nat) (v : Value) : WkAt (w.setCell ⟨q, k, none⟩ v) g s := ⟨(Below.heap_setCell _ _ _ _ (by simpa using hq.symm)).trans h.row⟩
theorem wk_offRow (h : WkAt w g s) {q : Nat} (hq : q ≠ g) (cs : Array Value) : WkAt (w.setRow q cs) g s := ⟨by
  have : (w.setRow q cs).heap[g]? = w.heap[g]? := by
    simp only [World.setRow]
    rw [Array.getElem?_modify]
    simp [hq]
  exact this.trans h.row⟩
theorem Wk2.put (h : Wk2 W w g s r) {j : Nat} (hj : j < 16) (x : Su.S) : Wk2 W ((((w.setCell ⟨g, 3 + j * 4, none⟩ (.int .i64 x.st)).setCell ⟨g, 3 + j * 4 + 1, none⟩ (.int .i64 x.v)).setCell ⟨g, 3 + j * 4 + 2, none⟩ (.int .i64 x.wa)).setCell ⟨g, 3 + j * 4 + 3, none⟩ (.int .i64 x.sq)) g ⟨s.n, s.many, s.seen, Wk.setL s.l j x⟩ r :=
  ⟨h.a.put hj x, wk_off (wk_off (wk_off (wk_off h.r (by omega) _ _) (by omega) _ _) (by omega) _ _) (by omega) _ _, (((h.b.setCell h.g _).setCell h.g _).setCell h.g _).setCell h.g _, h.g⟩
theorem Wk2.seen (h : Wk2 W w g s r) (x : Int) : Wk2 W (w.setCell ⟨g, 2, none⟩ (.int .i64 x)) g ⟨s.n, s.many, x, s.l⟩ r := ⟨h.a.seen x, wk_off h.r (by omega) _ _, h.b.setCell h.g _, h.g⟩
theorem Wk2.fill (h : Wk2 W w g s r) (r' : Wk.W) : Wk2 W (w.setRow (g + 1) (Wk.cells r')) g s r' :=
  ⟨wk_offRow h.a (by omega) _, h.r.setRow r', below_row h.b (grown_row w (g + 1) _) (by have := h.g; omega), h.g⟩
theorem Wk2.far (h : Wk2 W w g s r) {q : Nat} (hq : g + 1 < q) (k : Nat) (v : Value) : Wk2 W (w.setCell ⟨q, k, none⟩ v) g s r := ⟨wk_off h.a (by omega) _ _, wk_off h.r (by omega) _ _, h.b.setCell (by have := h.g; show _ ≤ q; omega) _, h.g⟩
theorem wk_two2 (W : World) (s : Wk.W) : ∃ g W1, W1 = (W.alloc (.cells (Wk.cells s) 32)).alloc (.cells Wk.zeros 32) ∧ g = W.heap.size ∧ Wk2 W W1 g s Wk.zero := by
  obtain ⟨g, W1, h1, h2, h3, h4, h5⟩ := wk_two W s (.cells Wk.zeros 32)
  exact ⟨g, W1, h1, h2, h3, ⟨h4⟩, h5, Nat.le_of_eq h2.symm⟩
/-- What a call answers of a worker, and something. -/
theorem wk_ret {fn : Func} {p u : Tmp} (hf : fn.results = #[.cell p 32, .tmp u]) (h : Wk2 W w g s r) {a : Act} {x : Value} (hp : a.tmps.getD p undef = .pointer (some ⟨g + 1, 0, none⟩)) (hb : a.tmps.getD u undef = x) (hdf : a.defers = []) : bodyPost Try.prog fn (WkPost W r x) .ret a w := by
  refine bodyPost_ret (v := .tuple #[.agg (Wk.cells r), x]) ?_ hdf ⟨rfl, h.b⟩
  rw [wk_results2 hf a.tmps hp h.r, hb]
end
set_option maxHeartbeats 6400000 in
theorem rwturn_own {s : Wk.W} (j : Nat) (hj : j < 16) (k : Int) (hk : k = 1 ∨ k = 2 ∨ k = 3) (hm : 1 ≤ s.many ∧ s.many ≤ 16) (ho : Wk.own s (j : Nat)) (W : World) : Calls Try.prog 29 #[.agg (Wk.cells s), .int .i64 (j : Nat), .int .i64 k] W (WkPost W ⟨s.n, s.many, s.seen, Wk.setL s.l j (Wk.turnF k (s.l j))⟩ (.bool (decide (Wk.turnP k (s.l j))))) := by
  obtain ⟨g, W1, hW, hg, r0⟩ := wk_two2 W s
  have HW := Lib.hid hW
  have HG := Lib.hid hg
  have R := Lib.hid r0
  have CO := Lib.hid (fun W => rwown_is (s := s) (u := (j : Nat)) (b := true) hm (by simp [ho]) W)
  obtain ⟨x, hx⟩ : ∃ x, x = s.l j := ⟨_, rfl⟩
  obtain ⟨y, hy⟩ : ∃ y, y = Wk.turnF k (s.l j) := ⟨_, rfl⟩
  obtain ⟨b, hb⟩ : ∃ b, b = decide (Wk.turnP k (s.l j)) := ⟨_, rfl⟩
  have CG : Hid (k = 1 → ∀ W, Calls Try.prog 46 #[suV x] W (SuPost W y b)) := fun e W => by subst e; rw [hy, hb, hx]; exact rsgo_any (s.l j) W
  have CH : Hid (k = 2 → ∀ W, Calls Try.prog 47 #[suV x, .int .i64 2, .int .i64 3] W (SuPost W y b)) := fun e W => by subst e; rw [hy, hb, hx]; exact rsturn_any (s.l j) 2 3 W
  have CE : Hid (k = 3 → ∀ W, Calls Try.prog 47 #[suV x, .int .i64 3, .int .i64 2] W (SuPost W y b)) := fun e W => by subst e; rw [hy, hb, hx]; exact rsturn_any (s.l j) 3 2 W
  rw [← hy, ← hb]
  have HX := Lib.hid hx
  have hj2 : (j : Int) < 16 := by omega
  clear hW hg r0 hy hb hx hm ho
  unfold suV suC at *
  rcases hk with rfl | rfl | rfl
  · have CC := Lib.hid (CG.out rfl)
    clear CG CH CE
    have hz := wk_zero
    go_enter Try.func29, Try.ntmps29
    go_upto_region 1 with fail
    rw [← HW.out, ← HG.out]
    go_upto_region 4 with (first
      | ((with_reducible show wpList _ _ _ ({ dst := some 17, op := .load _ _, type := _, pos := _, after := _, guard := _ } :: _) _ _); refine wpList_load_wk rfl (.tmp 3) rfl rfl R.out.a ?_)
      | (go_at_call 32; (with_reducible refine (CO.out _).mono ?_); rintro e w2 ⟨rfl, hb⟩; replace R := Lib.hid (R.out.on hb); clear hb))
    obtain ⟨d0, d1, d2, d3⟩ := R.out.a.slot hj
    rw [← HX.out] at d0 d1 d2 d3
    go_upto_region 5 with fail
    have X := Lib.hid (SuAt.new 29 w2 x)
    have hb := (Below.refl w2.heap.size w2).alloc (Nat.le_refl _) (.cells (suC x) 29)
    have PL := Lib.hid R.out.r.cs.2.2.2
    replace R := Lib.hid (R.out.on hb)
    obtain ⟨gx, hgx⟩ : ∃ g, g = w2.heap.size := ⟨_, rfl⟩
    have GX : Hid (g + 1 < gx) := by have h := PL.out; show _ < _; omega
    rw [← hgx] at X ⊢
    clear hb hgx d0 d1 d2 d3 PL
    unfold suC at X
    generalize w2.alloc (.cells #[.int .i64 x.st, .int .i64 x.v, .int .i64 x.wa, .int .i64 x.sq] 29) = w3 at *
    obtain ⟨d0, d1, d2, d3, dl⟩ := X.out.cells
    go_upto_region 9 with (go_at_call 46; (with_reducible refine (CC.out _).mono ?_); rintro e w4 ⟨rfl, hb⟩; replace R := Lib.hid (R.out.on hb); replace X := Lib.hid (X.out.on hb); clear hb d0 d1 d2 d3 dl)
    have Y := Lib.hid (SuAt.new 29 w4 y)
    have hb := (Below.refl w4.heap.size w4).alloc (Nat.le_refl _) (.cells (suC y) 29)
    have XL := Lib.hid X.out.cells.2.2.2.2
    replace R := Lib.hid (R.out.on hb)
    replace X := Lib.hid (X.out.on hb)
    obtain ⟨gy, hgy⟩ : ∃ g, g = w4.heap.size := ⟨_, rfl⟩
    have GY : Hid (gx < gy) := by have h := XL.out; show _ < _; omega
    rw [← hgy] at Y ⊢
    clear hb hgy XL
    unfold suC at Y
    generalize w4.alloc (.cells #[.int .i64 y.st, .int .i64 y.v, .int .i64 y.wa, .int .i64 y.sq] 29) = w5 at *
    obtain ⟨d0, d1, d2, d3, dl⟩ := X.out.cells
    obtain ⟨f0, f1, f2, f3⟩ := X.out.fz
    obtain ⟨o0, o1, o2, o3, ol⟩ := Y.out.cells
    go_upto_region 10 with fail
    have X6 := Lib.hid ((((X.out.set0 y.st).set1 y.v).set2 y.wa).set3 y.sq)
    have R6 := Lib.hid ((((R.out.far GX.out 0 (.int .i64 y.st)).far GX.out 1 (.int .i64 y.v)).far GX.out 2 (.int .i64 y.wa)).far GX.out 3 (.int .i64 y.sq))
    clear d0 d1 d2 d3 dl f0 f1 f2 f3 o0 o1 o2 o3 ol R X Y
    generalize (((w5.setCell ⟨gx, 0, none⟩ (.int .i64 y.st)).setCell ⟨gx, 1, none⟩ (.int .i64 y.v)).setCell ⟨gx, 2, none⟩ (.int .i64 y.wa)).setCell ⟨gx, 3, none⟩ (.int .i64 y.sq) = w6 at *
    obtain ⟨d0, d1, d2, d3, dl⟩ := X6.out.cells
    obtain ⟨o0, o1, o2, o3⟩ := R6.out.a.slot hj
    have fz := R6.out.a.fz
    go_upto_region 20 with fail
    have R7 := Lib.hid (R6.out.put hj y)
    clear d0 d1 d2 d3 dl o0 o1 o2 o3 fz R6 X6
    generalize (((w6.setCell ⟨g, 3 + j * 4, none⟩ (.int .i64 y.st)).setCell ⟨g, 3 + j * 4 + 1, none⟩ (.int .i64 y.v)).setCell ⟨g, 3 + j * 4 + 2, none⟩ (.int .i64 y.wa)).setCell ⟨g, 3 + j * 4 + 3, none⟩ (.int .i64 y.sq) = w7 at *
    go_wp2_with (first
      | ((with_reducible show wpList _ _ _ ({ dst := some 59, op := .load _ _, type := _, pos := _, after := _, guard := _ } :: _) _ _); refine wpList_load_wk rfl (.tmp 3) rfl rfl R7.out.a ?_)
      | ((with_reducible show wpList _ _ _ ({ dst := none, op := .store _ _ _, type := _, pos := _, after := _, guard := _ } :: _) _ _); refine wpList_store_wk rfl (.tmp 6) (.tmp 59) rfl rfl rfl R7.out.r ?_))
    exact wk_ret Try.results29 (R7.out.fill _) rfl rfl rfl
  · have CC := Lib.hid (CH.out rfl)
    clear CG CH CE
    have hz := wk_zero
    go_enter Try.func29, Try.ntmps29
    go_upto_region 1 with fail
    rw [← HW.out, ← HG.out]
    go_upto_region 4 with (first
      | ((with_reducible show wpList _ _ _ ({ dst := some 17, op := .load _ _, type := _, pos := _, after := _, guard := _ } :: _) _ _); refine wpList_load_wk rfl (.tmp 3) rfl rfl R.out.a ?_)
      | (go_at_call 32; (with_reducible refine (CO.out _).mono ?_); rintro e w2 ⟨rfl, hb⟩; replace R := Lib.hid (R.out.on hb); clear hb))
    obtain ⟨d0, d1, d2, d3⟩ := R.out.a.slot hj
    rw [← HX.out] at d0 d1 d2 d3
    go_upto_region 5 with fail
    have X := Lib.hid (SuAt.new 29 w2 x)
    have hb := (Below.refl w2.heap.size w2).alloc (Nat.le_refl _) (.cells (suC x) 29)
    have PL := Lib.hid R.out.r.cs.2.2.2
    replace R := Lib.hid (R.out.on hb)
    obtain ⟨gx, hgx⟩ : ∃ g, g = w2.heap.size := ⟨_, rfl⟩
    have GX : Hid (g + 1 < gx) := by have h := PL.out; show _ < _; omega
    rw [← hgx] at X ⊢
    clear hb hgx d0 d1 d2 d3 PL
    unfold suC at X
    generalize w2.alloc (.cells #[.int .i64 x.st, .int .i64 x.v, .int .i64 x.wa, .int .i64 x.sq] 29) = w3 at *
    obtain ⟨d0, d1, d2, d3, dl⟩ := X.out.cells
    go_upto_region 13 with (go_at_call 47; (with_reducible refine (CC.out _).mono ?_); rintro e w4 ⟨rfl, hb⟩; replace R := Lib.hid (R.out.on hb); replace X := Lib.hid (X.out.on hb); clear hb d0 d1 d2 d3 dl)
    have Y := Lib.hid (SuAt.new 29 w4 y)
    have hb := (Below.refl w4.heap.size w4).alloc (Nat.le_refl _) (.cells (suC y) 29)
    have XL := Lib.hid X.out.cells.2.2.2.2
    replace R := Lib.hid (R.out.on hb)
    replace X := Lib.hid (X.out.on hb)
    obtain ⟨gy, hgy⟩ : ∃ g, g = w4.heap.size := ⟨_, rfl⟩
    have GY : Hid (gx < gy) := by have h := XL.out; show _ < _; omega
    rw [← hgy] at Y ⊢
    clear hb hgy XL
    unfold suC at Y
    generalize w4.alloc (.cells #[.int .i64 y.st, .int .i64 y.v, .int .i64 y.wa, .int .i64 y.sq] 29) = w5 at *
    obtain ⟨d0, d1, d2, d3, dl⟩ := X.out.cells
    obtain ⟨f0, f1, f2, f3⟩ := X.out.fz
    obtain ⟨o0, o1, o2, o3, ol⟩ := Y.out.cells
    go_upto_region 14 with fail
    have X6 := Lib.hid ((((X.out.set0 y.st).set1 y.v).set2 y.wa).set3 y.sq)
    have R6 := Lib.hid ((((R.out.far GX.out 0 (.int .i64 y.st)).far GX.out 1 (.int .i64 y.v)).far GX.out 2 (.int .i64 y.wa)).far GX.out 3 (.int .i64 y.sq))
    clear d0 d1 d2 d3 dl f0 f1 f2 f3 o0 o1 o2 o3 ol R X Y
    generalize (((w5.setCell ⟨gx, 0, none⟩ (.int .i64 y.st)).setCell ⟨gx, 1, none⟩ (.int .i64 y.v)).setCell ⟨gx, 2, none⟩ (.int .i64 y.wa)).setCell ⟨gx, 3, none⟩ (.int .i64 y.sq) = w6 at *
    obtain ⟨d0, d1, d2, d3, dl⟩ := X6.out.cells
    obtain ⟨o0, o1, o2, o3⟩ := R6.out.a.slot hj
    have fz := R6.out.a.fz
    go_upto_region 20 with fail
    have R7 := Lib.hid (R6.out.put hj y)
    clear d0 d1 d2 d3 dl o0 o1 o2 o3 fz R6 X6
    generalize (((w6.setCell ⟨g, 3 + j * 4, none⟩ (.int .i64 y.st)).setCell ⟨g, 3 + j * 4 + 1, none⟩ (.int .i64 y.v)).setCell ⟨g, 3 + j * 4 + 2, none⟩ (.int .i64 y.wa)).setCell ⟨g, 3 + j * 4 + 3, none⟩ (.int .i64 y.sq) = w7 at *
    go_wp2_with (first
      | ((with_reducible show wpList _ _ _ ({ dst := some 59, op := .load _ _, type := _, pos := _, after := _, guard := _ } :: _) _ _); refine wpList_load_wk rfl (.tmp 3) rfl rfl R7.out.a ?_)
      | ((with_reducible show wpList _ _ _ ({ dst := none, op := .store _ _ _, type := _, pos := _, after := _, guard := _ } :: _) _ _); refine wpList_store_wk rfl (.tmp 6) (.tmp 59) rfl rfl rfl R7.out.r ?_))
    exact wk_ret Try.results29 (R7.out.fill _) rfl rfl rfl
  · have CC := Lib.hid (CE.out rfl)
    clear CG CH CE
    have hz := wk_zero
    go_enter Try.func29, Try.ntmps29
    go_upto_region 1 with fail
    rw [← HW.out, ← HG.out]
    go_upto_region 4 with (first
      | ((with_reducible show wpList _ _ _ ({ dst := some 17, op := .load _ _, type := _, pos := _, after := _, guard := _ } :: _) _ _); refine wpList_load_wk rfl (.tmp 3) rfl rfl R.out.a ?_)
      | (go_at_call 32; (with_reducible refine (CO.out _).mono ?_); rintro e w2 ⟨rfl, hb⟩; replace R := Lib.hid (R.out.on hb); clear hb))
    obtain ⟨d0, d1, d2, d3⟩ := R.out.a.slot hj
    rw [← HX.out] at d0 d1 d2 d3
    go_upto_region 5 with fail
    have X := Lib.hid (SuAt.new 29 w2 x)
    have hb := (Below.refl w2.heap.size w2).alloc (Nat.le_refl _) (.cells (suC x) 29)
    have PL := Lib.hid R.out.r.cs.2.2.2
    replace R := Lib.hid (R.out.on hb)
    obtain ⟨gx, hgx⟩ : ∃ g, g = w2.heap.size := ⟨_, rfl⟩
    have GX : Hid (g + 1 < gx) := by have h := PL.out; show _ < _; omega
    rw [← hgx] at X ⊢
    clear hb hgx d0 d1 d2 d3 PL
    unfold suC at X
    generalize w2.alloc (.cells #[.int .i64 x.st, .int .i64 x.v, .int .i64 x.wa, .int .i64 x.sq] 29) = w3 at *
    obtain ⟨d0, d1, d2, d3, dl⟩ := X.out.cells
    go_upto_region 17 with (go_at_call 47; (with_reducible refine (CC.out _).mono ?_); rintro e w4 ⟨rfl, hb⟩; replace R := Lib.hid (R.out.on hb); replace X := Lib.hid (X.out.on hb); clear hb d0 d1 d2 d3 dl)
    have Y := Lib.hid (SuAt.new 29 w4 y)
    have hb := (Below.refl w4.heap.size w4).alloc (Nat.le_refl _) (.cells (suC y) 29)
    have XL := Lib.hid X.out.cells.2.2.2.2
    replace R := Lib.hid (R.out.on hb)
    replace X := Lib.hid (X.out.on hb)
    obtain ⟨gy, hgy⟩ : ∃ g, g = w4.heap.size := ⟨_, rfl⟩
    have GY : Hid (gx < gy) := by have h := XL.out; show _ < _; omega
    rw [← hgy] at Y ⊢
    clear hb hgy XL
    unfold suC at Y
    generalize w4.alloc (.cells #[.int .i64 y.st, .int .i64 y.v, .int .i64 y.wa, .int .i64 y.sq] 29) = w5 at *
    obtain ⟨d0, d1, d2, d3, dl⟩ := X.out.cells
    obtain ⟨f0, f1, f2, f3⟩ := X.out.fz
    obtain ⟨o0, o1, o2, o3, ol⟩ := Y.out.cells
    go_upto_region 18 with fail
    have X6 := Lib.hid ((((X.out.set0 y.st).set1 y.v).set2 y.wa).set3 y.sq)
    have R6 := Lib.hid ((((R.out.far GX.out 0 (.int .i64 y.st)).far GX.out 1 (.int .i64 y.v)).far GX.out 2 (.int .i64 y.wa)).far GX.out 3 (.int .i64 y.sq))
    clear d0 d1 d2 d3 dl f0 f1 f2 f3 o0 o1 o2 o3 ol R X Y
    generalize (((w5.setCell ⟨gx, 0, none⟩ (.int .i64 y.st)).setCell ⟨gx, 1, none⟩ (.int .i64 y.v)).setCell ⟨gx, 2, none⟩ (.int .i64 y.wa)).setCell ⟨gx, 3, none⟩ (.int .i64 y.sq) = w6 at *
    obtain ⟨d0, d1, d2, d3, dl⟩ := X6.out.cells
    obtain ⟨o0, o1, o2, o3⟩ := R6.out.a.slot hj
    have fz := R6.out.a.fz
    go_upto_region 20 with fail
    have R7 := Lib.hid (R6.out.put hj y)
    clear d0 d1 d2 d3 dl o0 o1 o2 o3 fz R6 X6
    generalize (((w6.setCell ⟨g, 3 + j * 4, none⟩ (.int .i64 y.st)).setCell ⟨g, 3 + j * 4 + 1, none⟩ (.int .i64 y.v)).setCell ⟨g, 3 + j * 4 + 2, none⟩ (.int .i64 y.wa)).setCell ⟨g, 3 + j * 4 + 3, none⟩ (.int .i64 y.sq) = w7 at *
    go_wp2_with (first
      | ((with_reducible show wpList _ _ _ ({ dst := some 59, op := .load _ _, type := _, pos := _, after := _, guard := _ } :: _) _ _); refine wpList_load_wk rfl (.tmp 3) rfl rfl R7.out.a ?_)
      | ((with_reducible show wpList _ _ _ ({ dst := none, op := .store _ _ _, type := _, pos := _, after := _, guard := _ } :: _) _ _); refine wpList_store_wk rfl (.tmp 6) (.tmp 59) rfl rfl rfl R7.out.r ?_))
    exact wk_ret Try.results29 (R7.out.fill _) rfl rfl rfl
end Go.Proofs.Ytgljepjflpijiaa
