/-
  SlotSettles of layer 15, walked. Written by wip/tools/gen/sulaw.py. No condition.
-/
import Derived.Test.YtlkfbnafookjdaaSlotFallsWalk
import Derived.Test.YtlkfbnafookjdaaSuSettle
namespace Go.Proofs.Ytlkfbnafookjdaa
open Go.RowKit Go.Deep
set_option linter.unusedSimpArgs false
set_option linter.unusedVariables false

set_option maxHeartbeats 6400000 in
theorem slotsettles_walk (s0 : Su.S) (W : World) : Calls Try.prog 4 #[suV s0] W (fun e w' => e = .returned (.bool true) ∧ Below W.heap.size W w') := by
  have CL := Lib.hid (fun W => sulives_any W)
  have CG := Lib.hid (fun W => rsgood_any s0 W)
  have RX := Lib.hid (Su.goodOf_right s0)
  generalize Su.goodOf s0 = x at *
  by_cases hf : Su.Fine x
  · have FX := Lib.hid hf
    clear hf
    have DX := Lib.hid (Su.dist_le x)
    have EC : Hid ((x.st == 3) = false ∧ ((x.st != 0) = false ∨ ((x.st != 0) = true ∧ (x.st != 4) = false) ∨ ((x.st != 0) = true ∧ (x.st != 4) = true ∧ (x.v != x.wa) = false))) := Su.fine_test FX.out
    obtain ⟨e3, ec⟩ := EC.out
    clear EC
    unfold suV suC at *
    have B := Lib.hid ((Below.refl W.heap.size W).alloc (Nat.le_refl _) (.cells (suC s0) 23))
    have T0 := Lib.hid (SuAt.new 23 W s0)
    obtain ⟨g0, hg0⟩ : ∃ g, g = W.heap.size := ⟨_, rfl⟩
    rw [← hg0] at T0
    have HG0 := Lib.hid hg0
    clear hg0
    unfold suC at *
    go_enter Try.func4, Try.ntmps4
    go_upto_region 1 with fail
    rw [← HG0.out]
    generalize W.alloc (.cells #[.int .i64 s0.st, .int .i64 s0.v, .int .i64 s0.wa, .int .i64 s0.sq] 23) = W1 at *
    go_upto_region 3 with (go_at_call 7; (with_reducible refine (CL.out _).mono ?_); rintro e w1 ⟨rfl, hb⟩; replace T0 := Lib.hid (T0.out.on hb); replace B := Lib.hid (B.out.trans (hb.mono B.out.size)); clear hb)
    obtain ⟨c0, c1, c2, c3, cl⟩ := T0.out.cells
    go_upto_region 4 with (go_at_call 8; (with_reducible refine (CG.out _).mono ?_); rintro e w2 ⟨rfl, hb⟩; replace T0 := Lib.hid (T0.out.on hb); replace B := Lib.hid (B.out.trans (hb.mono B.out.size)); clear hb c0 c1 c2 c3 cl)
    have BW := Lib.hid B.out.size
    have X := Lib.hid (SuAt.new 28 w2 x)
    have hb := (Below.refl w2.heap.size w2).alloc (Nat.le_refl _) (.cells (suC x) 28)
    replace T0 := Lib.hid (T0.out.on hb); replace B := Lib.hid (B.out.trans (hb.mono B.out.size))
    clear hb
    obtain ⟨gx, hgx⟩ : ∃ gx, gx = w2.heap.size := ⟨_, rfl⟩
    rw [← hgx] at X ⊢
    have HGX := Lib.hid hgx
    clear hgx
    unfold suC at *
    generalize w2.alloc (.cells #[.int .i64 x.st, .int .i64 x.v, .int .i64 x.wa, .int .i64 x.sq] 28) = w2x at *
    obtain ⟨c0, c1, c2, c3, cl⟩ := X.out.cells
    obtain ⟨fz0, fz1, fz2, fz3⟩ := X.out.fz
    have XG : Hid (W.heap.size ≤ gx) := by have h1 := HGX.out; have h2 := BW.out; show _ ≤ _; omega
    rcases ec with e0 | ⟨e0, e4⟩ | ⟨e0, e4, e5⟩
    all_goals
      go_upto_region 7 with fail
      clear c0 c1 c2 c3 cl fz0 fz1 fz2 fz3 e0 e3
      go_wp2_with fail
      go_loopw [6] (fun i wr => ∃ (j : Nat) (y : Su.S), i = .int .i64 j ∧ j ≤ 4 ∧ SuAt 28 wr gx y ∧ Su.Fine y ∧ Su.dist y ≤ 4 - j ∧ Below W.heap.size W wr) (fun i _ => 4 - (intOf i).toNat)
      case atStart => exact ⟨0, x, rfl, by omega, X.out, FX.out, DX.out, B.out⟩
      case round =>
        obtain ⟨j, y, rfl, hj, hy, hfy, hdy, hby⟩ := hrel
        have Y := Lib.hid hy
        have FY := Lib.hid hfy
        have DY := Lib.hid hdy
        have BY := Lib.hid hby
        clear hy hfy hdy hby
        obtain ⟨yy, hyy⟩ : ∃ yy, yy = Su.go y := ⟨_, rfl⟩
        obtain ⟨b, hb⟩ : ∃ b, b = decide (Su.goes y) := ⟨_, rfl⟩
        have CY : Hid (∀ W, Calls Try.prog 11 #[suV y] W (SuPost W yy b)) := fun W => by rw [hyy, hb]; exact sdgo_is y W
        have CS : Hid (∀ W, Calls Try.prog 12 #[suV y] W (fun e w' => e = .returned (.bool (!b)) ∧ Below W.heap.size W w')) := fun W => sdsettled_is (by rw [hb]; exact Su.fine_not FY.out) W
        have HYY := Lib.hid hyy
        have HBB := Lib.hid hb
        clear hyy hb
        unfold suV suC at *
        obtain ⟨c0, c1, c2, c3, cl⟩ := Y.out.cells
        obtain ⟨f0, f1, f2, f3⟩ := Y.out.fz
        by_cases hlt : j < 4
        · have hw : wrap64 ((j : Int) + 1) = (j : Int) + 1 := IntWalk.wrap64_in _ ⟨by omega, by omega⟩
          have B := Lib.hid BY.out
          clear BY
          go_upto_region 11 with (go_at_call 11; (with_reducible refine (CY.out _).mono ?_); rintro e w5 ⟨rfl, hb⟩; replace Y := Lib.hid (Y.out.on hb); replace B := Lib.hid (B.out.trans (hb.mono B.out.size)); clear hb c0 c1 c2 c3 cl f0 f1 f2 f3)
          have Z := Lib.hid (SuAt.new 28 w5 yy)
          have hb := (Below.refl w5.heap.size w5).alloc (Nat.le_refl _) (.cells (suC yy) 28)
          replace Y := Lib.hid (Y.out.on hb); replace B := Lib.hid (B.out.trans (hb.mono B.out.size))
          clear hb
          obtain ⟨gz, hgz⟩ : ∃ gz, gz = w5.heap.size := ⟨_, rfl⟩
          rw [← hgz] at Z ⊢
          have HGZ := Lib.hid hgz
          clear hgz
          unfold suC at *
          generalize w5.alloc (.cells #[.int .i64 yy.st, .int .i64 yy.v, .int .i64 yy.wa, .int .i64 yy.sq] 28) = w5x at *
          obtain ⟨c0, c1, c2, c3, cl⟩ := Y.out.cells
          obtain ⟨d0, d1, d2, d3, dl⟩ := Z.out.cells
          go_upto_region 13 with (go_at_call 12; (with_reducible refine (CS.out _).mono ?_); rintro e w6 ⟨rfl, hb⟩; replace Y := Lib.hid (Y.out.on hb); replace Z := Lib.hid (Z.out.on hb); replace B := Lib.hid (B.out.trans (hb.mono B.out.size)); clear hb c0 c1 c2 c3 cl d0 d1 d2 d3 dl)
          obtain ⟨c0, c1, c2, c3, cl⟩ := Y.out.cells
          obtain ⟨d0, d1, d2, d3, dl⟩ := Z.out.cells
          obtain ⟨f0, f1, f2, f3⟩ := Y.out.fz
          have S1 := Lib.hid (Su1.refl Y.out)
          have SET := Lib.hid ((((S1.out.s0 yy.st).s1 yy.v).s2 yy.wa).s3 yy.sq)
          have BS := Lib.hid ((((B.out.setCell (p := ⟨gx, 0, none⟩) XG.out (.int .i64 yy.st)).setCell (p := ⟨gx, 1, none⟩) XG.out (.int .i64 yy.v)).setCell (p := ⟨gx, 2, none⟩) XG.out (.int .i64 yy.wa)).setCell (p := ⟨gx, 3, none⟩) XG.out (.int .i64 yy.sq))
          cases b
          all_goals
            go_wp2_with fail
            exact ⟨⟨j + 1, yy, by go_num, by omega, SET.out.a, by rw [HYY.out]; exact Su.fine_go FY.out, by rw [HYY.out]; have h1 := Su.dist_go FY.out; have h2 := DY.out; omega, BS.out⟩, by simp [intOf]; omega⟩
        · obtain rfl : j = 4 := by omega
          have E0 : Hid (Su.dist y = 0) := by have := DY.out; show _ = _; omega
          have EB : Hid (b = false) := by show _ = _; rw [HBB.out]; exact decide_eq_false (fun h => Su.fine_stop FY.out E0.out h)
          have EY : Hid (yy = y) := by show _ = _; rw [HYY.out]; exact if_neg (fun h => Su.fine_stop FY.out E0.out h)
          rw [EB.out] at CY CS
          rw [EY.out] at CY
          have SE := slot_same y
          unfold suV suC at SE
          have B := Lib.hid BY.out
          clear BY HYY HBB EB EY
          go_upto_region 15 with (go_at_call 11; (with_reducible refine (CY.out _).mono ?_); rintro e w5 ⟨rfl, hb⟩; replace Y := Lib.hid (Y.out.on hb); replace B := Lib.hid (B.out.trans (hb.mono B.out.size)); clear hb c0 c1 c2 c3 cl f0 f1 f2 f3)
          have Z := Lib.hid (SuAt.new 28 w5 y)
          have hb := (Below.refl w5.heap.size w5).alloc (Nat.le_refl _) (.cells (suC y) 28)
          replace Y := Lib.hid (Y.out.on hb); replace B := Lib.hid (B.out.trans (hb.mono B.out.size))
          clear hb
          obtain ⟨gz, hgz⟩ : ∃ gz, gz = w5.heap.size := ⟨_, rfl⟩
          rw [← hgz] at Z ⊢
          have HGZ := Lib.hid hgz
          clear hgz
          unfold suC at *
          generalize w5.alloc (.cells #[.int .i64 y.st, .int .i64 y.v, .int .i64 y.wa, .int .i64 y.sq] 28) = w5x at *
          obtain ⟨c0, c1, c2, c3, cl⟩ := Y.out.cells
          obtain ⟨d0, d1, d2, d3, dl⟩ := Z.out.cells
          go_wp2_with (go_at_call 12; (with_reducible refine (CS.out _).mono ?_); rintro e w6 ⟨rfl, hb⟩; replace Y := Lib.hid (Y.out.on hb); replace Z := Lib.hid (Z.out.on hb); replace B := Lib.hid (B.out.trans (hb.mono B.out.size)); clear hb c0 c1 c2 c3 cl d0 d1 d2 d3 dl; obtain ⟨c0, c1, c2, c3, cl⟩ := Y.out.cells; obtain ⟨d0, d1, d2, d3, dl⟩ := Z.out.cells)
          go_ret
          exact ⟨rfl, B.out⟩
  · obtain ⟨st, v, wa, sq⟩ := x
    have hc := Su.not_fine RX.out hf
    clear hf
    simp only at hc
    rcases hc with rfl | ⟨rfl, hv⟩ | ⟨rfl, hv⟩
    · have CY : Hid (∀ W, Calls Try.prog 11 #[.agg #[.int .i64 3, .int .i64 v, .int .i64 wa, .int .i64 sq]] W (SuPost W ⟨3, v, wa, sq⟩ false)) := fun W => sd_at (sdgo_is ⟨3, v, wa, sq⟩ W) (if_neg (fun h => by have := h.2; simp at this)) (decide_eq_false (fun h => by have := h.2; simp at this))
      have SE := slot_same ⟨3, v, wa, sq⟩
      unfold suV suC at *
      simp only at *
      have B := Lib.hid ((Below.refl W.heap.size W).alloc (Nat.le_refl _) (.cells (suC s0) 23))
      have T0 := Lib.hid (SuAt.new 23 W s0)
      obtain ⟨g0, hg0⟩ : ∃ g, g = W.heap.size := ⟨_, rfl⟩
      rw [← hg0] at T0
      have HG0 := Lib.hid hg0
      clear hg0
      unfold suC at *
      go_enter Try.func4, Try.ntmps4
      go_upto_region 1 with fail
      rw [← HG0.out]
      generalize W.alloc (.cells #[.int .i64 s0.st, .int .i64 s0.v, .int .i64 s0.wa, .int .i64 s0.sq] 23) = W1 at *
      go_upto_region 3 with (go_at_call 7; (with_reducible refine (CL.out _).mono ?_); rintro e w1 ⟨rfl, hb⟩; replace T0 := Lib.hid (T0.out.on hb); replace B := Lib.hid (B.out.trans (hb.mono B.out.size)); clear hb)
      obtain ⟨c0, c1, c2, c3, cl⟩ := T0.out.cells
      go_upto_region 4 with (go_at_call 8; (with_reducible refine (CG.out _).mono ?_); rintro e w2 ⟨rfl, hb⟩; replace T0 := Lib.hid (T0.out.on hb); replace B := Lib.hid (B.out.trans (hb.mono B.out.size)); clear hb c0 c1 c2 c3 cl)
      have BW := Lib.hid B.out.size
      have X := Lib.hid (SuAt.new 28 w2 ⟨3, v, wa, sq⟩)
      have hb := (Below.refl w2.heap.size w2).alloc (Nat.le_refl _) (.cells (suC (⟨3, v, wa, sq⟩ : Su.S)) 28)
      replace T0 := Lib.hid (T0.out.on hb); replace B := Lib.hid (B.out.trans (hb.mono B.out.size))
      clear hb
      obtain ⟨gx, hgx⟩ : ∃ gx, gx = w2.heap.size := ⟨_, rfl⟩
      rw [← hgx] at X ⊢
      have HGX := Lib.hid hgx
      clear hgx
      unfold suC at *
      generalize w2.alloc (.cells #[.int .i64 3, .int .i64 v, .int .i64 wa, .int .i64 sq] 28) = w2x at *
      obtain ⟨c0, c1, c2, c3, cl⟩ := X.out.cells
      simp only at c0 c1 c2 c3
      go_upto_region 6 with (go_at_call 11; (with_reducible refine (CY.out _).mono ?_); rintro e w3 ⟨rfl, hb⟩; replace T0 := Lib.hid (T0.out.on hb); replace X := Lib.hid (X.out.on hb); replace B := Lib.hid (B.out.trans (hb.mono B.out.size)); clear hb c0 c1 c2 c3 cl)
      have YY := Lib.hid (SuAt.new 28 w3 ⟨3, v, wa, sq⟩)
      have hb := (Below.refl w3.heap.size w3).alloc (Nat.le_refl _) (.cells (suC (⟨3, v, wa, sq⟩ : Su.S)) 28)
      replace T0 := Lib.hid (T0.out.on hb); replace X := Lib.hid (X.out.on hb); replace B := Lib.hid (B.out.trans (hb.mono B.out.size))
      clear hb
      obtain ⟨gy, hgy⟩ : ∃ gy, gy = w3.heap.size := ⟨_, rfl⟩
      rw [← hgy] at YY ⊢
      have HGY := Lib.hid hgy
      clear hgy
      unfold suC at *
      generalize w3.alloc (.cells #[.int .i64 3, .int .i64 v, .int .i64 wa, .int .i64 sq] 28) = w3x at *
      obtain ⟨c0, c1, c2, c3, cl⟩ := X.out.cells
      obtain ⟨d0, d1, d2, d3, dl⟩ := YY.out.cells
      simp only at c0 c1 c2 c3 d0 d1 d2 d3
      go_wp2_with fail
      go_ret
      exact ⟨rfl, B.out⟩
    · have nv : (v != wa) = true := by simpa using hv
      clear hv
      have CY : Hid (∀ W, Calls Try.prog 11 #[.agg #[.int .i64 1, .int .i64 v, .int .i64 wa, .int .i64 sq]] W (SuPost W ⟨2, v, wa, sq⟩ true)) := fun W => sd_at (sdgo_is ⟨1, v, wa, sq⟩ W) (if_pos ⟨RX.out, .inr (.inl rfl)⟩) (decide_eq_true ⟨RX.out, .inr (.inl rfl)⟩)
      have SE := slot_same ⟨1, v, wa, sq⟩
      unfold suV suC at *
      simp only at *
      have B := Lib.hid ((Below.refl W.heap.size W).alloc (Nat.le_refl _) (.cells (suC s0) 23))
      have T0 := Lib.hid (SuAt.new 23 W s0)
      obtain ⟨g0, hg0⟩ : ∃ g, g = W.heap.size := ⟨_, rfl⟩
      rw [← hg0] at T0
      have HG0 := Lib.hid hg0
      clear hg0
      unfold suC at *
      go_enter Try.func4, Try.ntmps4
      go_upto_region 1 with fail
      rw [← HG0.out]
      generalize W.alloc (.cells #[.int .i64 s0.st, .int .i64 s0.v, .int .i64 s0.wa, .int .i64 s0.sq] 23) = W1 at *
      go_upto_region 3 with (go_at_call 7; (with_reducible refine (CL.out _).mono ?_); rintro e w1 ⟨rfl, hb⟩; replace T0 := Lib.hid (T0.out.on hb); replace B := Lib.hid (B.out.trans (hb.mono B.out.size)); clear hb)
      obtain ⟨c0, c1, c2, c3, cl⟩ := T0.out.cells
      go_upto_region 4 with (go_at_call 8; (with_reducible refine (CG.out _).mono ?_); rintro e w2 ⟨rfl, hb⟩; replace T0 := Lib.hid (T0.out.on hb); replace B := Lib.hid (B.out.trans (hb.mono B.out.size)); clear hb c0 c1 c2 c3 cl)
      have BW := Lib.hid B.out.size
      have X := Lib.hid (SuAt.new 28 w2 ⟨1, v, wa, sq⟩)
      have hb := (Below.refl w2.heap.size w2).alloc (Nat.le_refl _) (.cells (suC (⟨1, v, wa, sq⟩ : Su.S)) 28)
      replace T0 := Lib.hid (T0.out.on hb); replace B := Lib.hid (B.out.trans (hb.mono B.out.size))
      clear hb
      obtain ⟨gx, hgx⟩ : ∃ gx, gx = w2.heap.size := ⟨_, rfl⟩
      rw [← hgx] at X ⊢
      have HGX := Lib.hid hgx
      clear hgx
      unfold suC at *
      generalize w2.alloc (.cells #[.int .i64 1, .int .i64 v, .int .i64 wa, .int .i64 sq] 28) = w2x at *
      obtain ⟨c0, c1, c2, c3, cl⟩ := X.out.cells
      simp only at c0 c1 c2 c3
      go_upto_region 6 with (go_at_call 11; (with_reducible refine (CY.out _).mono ?_); rintro e w3 ⟨rfl, hb⟩; replace T0 := Lib.hid (T0.out.on hb); replace X := Lib.hid (X.out.on hb); replace B := Lib.hid (B.out.trans (hb.mono B.out.size)); clear hb c0 c1 c2 c3 cl)
      have YY := Lib.hid (SuAt.new 28 w3 ⟨2, v, wa, sq⟩)
      have hb := (Below.refl w3.heap.size w3).alloc (Nat.le_refl _) (.cells (suC (⟨2, v, wa, sq⟩ : Su.S)) 28)
      replace T0 := Lib.hid (T0.out.on hb); replace X := Lib.hid (X.out.on hb); replace B := Lib.hid (B.out.trans (hb.mono B.out.size))
      clear hb
      obtain ⟨gy, hgy⟩ : ∃ gy, gy = w3.heap.size := ⟨_, rfl⟩
      rw [← hgy] at YY ⊢
      have HGY := Lib.hid hgy
      clear hgy
      unfold suC at *
      generalize w3.alloc (.cells #[.int .i64 2, .int .i64 v, .int .i64 wa, .int .i64 sq] 28) = w3x at *
      obtain ⟨c0, c1, c2, c3, cl⟩ := X.out.cells
      obtain ⟨d0, d1, d2, d3, dl⟩ := YY.out.cells
      simp only at c0 c1 c2 c3 d0 d1 d2 d3
      go_wp2_with fail
      go_ret
      exact ⟨rfl, B.out⟩
    · have nv : (v != wa) = true := by simpa using hv
      clear hv
      have CY : Hid (∀ W, Calls Try.prog 11 #[.agg #[.int .i64 2, .int .i64 v, .int .i64 wa, .int .i64 sq]] W (SuPost W ⟨2, v, wa, sq⟩ false)) := fun W => sd_at (sdgo_is ⟨2, v, wa, sq⟩ W) (if_neg (fun h => by have := h.2; simp at this)) (decide_eq_false (fun h => by have := h.2; simp at this))
      have SE := slot_same ⟨2, v, wa, sq⟩
      unfold suV suC at *
      simp only at *
      have B := Lib.hid ((Below.refl W.heap.size W).alloc (Nat.le_refl _) (.cells (suC s0) 23))
      have T0 := Lib.hid (SuAt.new 23 W s0)
      obtain ⟨g0, hg0⟩ : ∃ g, g = W.heap.size := ⟨_, rfl⟩
      rw [← hg0] at T0
      have HG0 := Lib.hid hg0
      clear hg0
      unfold suC at *
      go_enter Try.func4, Try.ntmps4
      go_upto_region 1 with fail
      rw [← HG0.out]
      generalize W.alloc (.cells #[.int .i64 s0.st, .int .i64 s0.v, .int .i64 s0.wa, .int .i64 s0.sq] 23) = W1 at *
      go_upto_region 3 with (go_at_call 7; (with_reducible refine (CL.out _).mono ?_); rintro e w1 ⟨rfl, hb⟩; replace T0 := Lib.hid (T0.out.on hb); replace B := Lib.hid (B.out.trans (hb.mono B.out.size)); clear hb)
      obtain ⟨c0, c1, c2, c3, cl⟩ := T0.out.cells
      go_upto_region 4 with (go_at_call 8; (with_reducible refine (CG.out _).mono ?_); rintro e w2 ⟨rfl, hb⟩; replace T0 := Lib.hid (T0.out.on hb); replace B := Lib.hid (B.out.trans (hb.mono B.out.size)); clear hb c0 c1 c2 c3 cl)
      have BW := Lib.hid B.out.size
      have X := Lib.hid (SuAt.new 28 w2 ⟨2, v, wa, sq⟩)
      have hb := (Below.refl w2.heap.size w2).alloc (Nat.le_refl _) (.cells (suC (⟨2, v, wa, sq⟩ : Su.S)) 28)
      replace T0 := Lib.hid (T0.out.on hb); replace B := Lib.hid (B.out.trans (hb.mono B.out.size))
      clear hb
      obtain ⟨gx, hgx⟩ : ∃ gx, gx = w2.heap.size := ⟨_, rfl⟩
      rw [← hgx] at X ⊢
      have HGX := Lib.hid hgx
      clear hgx
      unfold suC at *
      generalize w2.alloc (.cells #[.int .i64 2, .int .i64 v, .int .i64 wa, .int .i64 sq] 28) = w2x at *
      obtain ⟨c0, c1, c2, c3, cl⟩ := X.out.cells
      simp only at c0 c1 c2 c3
      go_upto_region 6 with (go_at_call 11; (with_reducible refine (CY.out _).mono ?_); rintro e w3 ⟨rfl, hb⟩; replace T0 := Lib.hid (T0.out.on hb); replace X := Lib.hid (X.out.on hb); replace B := Lib.hid (B.out.trans (hb.mono B.out.size)); clear hb c0 c1 c2 c3 cl)
      have YY := Lib.hid (SuAt.new 28 w3 ⟨2, v, wa, sq⟩)
      have hb := (Below.refl w3.heap.size w3).alloc (Nat.le_refl _) (.cells (suC (⟨2, v, wa, sq⟩ : Su.S)) 28)
      replace T0 := Lib.hid (T0.out.on hb); replace X := Lib.hid (X.out.on hb); replace B := Lib.hid (B.out.trans (hb.mono B.out.size))
      clear hb
      obtain ⟨gy, hgy⟩ : ∃ gy, gy = w3.heap.size := ⟨_, rfl⟩
      rw [← hgy] at YY ⊢
      have HGY := Lib.hid hgy
      clear hgy
      unfold suC at *
      generalize w3.alloc (.cells #[.int .i64 2, .int .i64 v, .int .i64 wa, .int .i64 sq] 28) = w3x at *
      obtain ⟨c0, c1, c2, c3, cl⟩ := X.out.cells
      obtain ⟨d0, d1, d2, d3, dl⟩ := YY.out.cells
      simp only at c0 c1 c2 c3 d0 d1 d2 d3
      go_wp2_with fail
      go_ret
      exact ⟨rfl, B.out⟩
end Go.Proofs.Ytlkfbnafookjdaa
