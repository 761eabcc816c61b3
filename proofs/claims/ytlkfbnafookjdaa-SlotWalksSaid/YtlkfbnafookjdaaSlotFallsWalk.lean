/-
  SlotFalls of layer 15, walked. Written by wip/tools/gen/sulaw.py. No condition.
-/
import Derived.Test.YtlkfbnafookjdaaSuLives
import Derived.Test.YtlkfbnafookjdaaSuGood
namespace Go.Proofs.Ytlkfbnafookjdaa
open Go.RowKit Go.Deep
set_option linter.unusedSimpArgs false
set_option linter.unusedVariables false

theorem Su.fall_is {s : Su.S} (hr : Su.Right s) : Su.fall s = ⟨0, 0, s.wa, s.sq⟩ := by
  unfold Su.fall
  split
  · rfl
  · rename_i hn
    have h0 : s.st = 0 := Classical.byContradiction fun h => hn ⟨hr, h⟩
    obtain ⟨st, v, wa, sq⟩ := s
    unfold Su.Right at hr
    simp only at *
    subst h0
    obtain rfl : v = 0 := by omega
    rfl
theorem slot_same (a : Su.S) (W : World) : (binOp .eql 28 (suV a) (suV a)).run Try.prog W = .ok (.bool true) W := slot_eq (by simp) W
theorem sd_at {F : FuncId} {vs : Array Value} {r r' : Su.S} {b b' : Bool} {W : World} (h : Calls Try.prog F vs W (SuPost W r b)) (hr : r = r') (hb : b = b') : Calls Try.prog F vs W (SuPost W r' b') := by subst hr hb; exact h
set_option maxHeartbeats 3200000 in
theorem slotfalls_walk (s0 : Su.S) (W : World) : Calls Try.prog 6 #[suV s0] W (fun e w' => e = .returned (.bool true) ∧ Below W.heap.size W w') := by
  have CL := Lib.hid (fun W => sulives_any W)
  have CG := Lib.hid (fun W => rsgood_any s0 W)
  have RX := Lib.hid (Su.goodOf_right s0)
  generalize Su.goodOf s0 = x at *
  have CF := Lib.hid (fun W => sd_at (sdfall_is x W) (Su.fall_is RX.out) rfl)
  obtain ⟨d, hd⟩ : ∃ d, d = decide (Su.falls x) := ⟨_, rfl⟩
  rw [← hd] at CF
  clear hd
  obtain ⟨st, v, wa, sq⟩ := x
  by_cases h2 : st = 2
  · subst h2
    have CH : Hid (∀ W, Calls Try.prog 15 #[.agg #[.int .i64 2, .int .i64 v, .int .i64 wa, .int .i64 sq]] W (SuPost W ⟨3, v, wa, sq⟩ true)) := fun W => sd_at (sdhurt_is ⟨2, v, wa, sq⟩ W) (if_pos ⟨RX.out, rfl⟩) (decide_eq_true ⟨RX.out, rfl⟩)
    have RH : Hid (Su.Right ⟨3, v, wa, sq⟩) := by have h1 := RX.out; unfold Su.Right at h1; show Su.Right _; unfold Su.Right; simp only at *; omega
    have CB : Hid (∀ W, Calls Try.prog 16 #[.agg #[.int .i64 3, .int .i64 v, .int .i64 wa, .int .i64 sq]] W (SuPost W ⟨2, v, wa, sq⟩ true)) := fun W => sd_at (sdheal_is ⟨3, v, wa, sq⟩ W) (if_pos ⟨RH.out, rfl⟩) (decide_eq_true ⟨RH.out, rfl⟩)
    have SE := slot_same ⟨2, v, wa, sq⟩
    unfold suV suC at *
    simp only at *
    have B := Lib.hid ((Below.refl W.heap.size W).alloc (Nat.le_refl _) (.cells (suC s0) 23))
    have T0 := Lib.hid (SuAt.new 23 W s0)
    obtain ⟨g0, hg0⟩ : ∃ g, g = W.heap.size := ⟨_, rfl⟩
    rw [← hg0] at T0
    have HG0 := Lib.hid hg0
    clear hg0
    unfold suC at *
    go_enter Try.func6, Try.ntmps6
    go_upto_region 1 with fail
    rw [← HG0.out]
    generalize W.alloc (.cells #[.int .i64 s0.st, .int .i64 s0.v, .int .i64 s0.wa, .int .i64 s0.sq] 23) = W1 at *
    go_upto_region 3 with (go_at_call 7; (with_reducible refine (CL.out _).mono ?_); rintro e w1 ⟨rfl, hb⟩; replace T0 := Lib.hid (T0.out.on hb); replace B := Lib.hid (B.out.trans (hb.mono B.out.size)); clear hb)
    obtain ⟨c0, c1, c2, c3, cl⟩ := T0.out.cells
    go_upto_region 4 with (go_at_call 8; (with_reducible refine (CG.out _).mono ?_); rintro e w2 ⟨rfl, hb⟩; replace T0 := Lib.hid (T0.out.on hb); replace B := Lib.hid (B.out.trans (hb.mono B.out.size)); clear hb c0 c1 c2 c3 cl)
    have X := Lib.hid (SuAt.new 28 w2 ⟨2, v, wa, sq⟩)
    have hb := (Below.refl w2.heap.size w2).alloc (Nat.le_refl _) (.cells (suC (⟨2, v, wa, sq⟩ : Su.S)) 28)
    replace T0 := Lib.hid (T0.out.on hb); replace B := Lib.hid (B.out.trans (hb.mono B.out.size))
    clear hb
    obtain ⟨gx, hgx⟩ : ∃ gx, gx = w2.heap.size := ⟨_, rfl⟩
    rw [← hgx] at X ⊢
    have HGX := Lib.hid hgx
    clear hgx
    unfold suC at *
    generalize w2.alloc (.cells #[.int .i64 2, .int .i64 v, .int .i64 wa, .int .i64 sq] 28) = w2x at *
    obtain ⟨c0, c1, c2, c3, cl⟩ := X.out.cells
    simp only at c0 c1 c2 c3
    go_upto_region 5 with (go_at_call 14; (with_reducible refine (CF.out _).mono ?_); rintro e w3 ⟨rfl, hb⟩; replace T0 := Lib.hid (T0.out.on hb); replace X := Lib.hid (X.out.on hb); replace B := Lib.hid (B.out.trans (hb.mono B.out.size)); clear hb c0 c1 c2 c3 cl)
    have FF := Lib.hid (SuAt.new 28 w3 ⟨0, 0, wa, sq⟩)
    have hb := (Below.refl w3.heap.size w3).alloc (Nat.le_refl _) (.cells (suC (⟨0, 0, wa, sq⟩ : Su.S)) 28)
    replace T0 := Lib.hid (T0.out.on hb); replace X := Lib.hid (X.out.on hb); replace B := Lib.hid (B.out.trans (hb.mono B.out.size))
    clear hb
    obtain ⟨gf, hgf⟩ : ∃ gf, gf = w3.heap.size := ⟨_, rfl⟩
    rw [← hgf] at FF ⊢
    have HGF := Lib.hid hgf
    clear hgf
    unfold suC at *
    generalize w3.alloc (.cells #[.int .i64 0, .int .i64 0, .int .i64 wa, .int .i64 sq] 28) = w3x at *
    obtain ⟨c0, c1, c2, c3, cl⟩ := X.out.cells
    simp only at c0 c1 c2 c3
    go_upto_region 6 with (go_at_call 15; (with_reducible refine (CH.out _).mono ?_); rintro e w4 ⟨rfl, hb⟩; replace T0 := Lib.hid (T0.out.on hb); replace X := Lib.hid (X.out.on hb); replace FF := Lib.hid (FF.out.on hb); replace B := Lib.hid (B.out.trans (hb.mono B.out.size)); clear hb c0 c1 c2 c3 cl)
    have HH := Lib.hid (SuAt.new 28 w4 ⟨3, v, wa, sq⟩)
    have hb := (Below.refl w4.heap.size w4).alloc (Nat.le_refl _) (.cells (suC (⟨3, v, wa, sq⟩ : Su.S)) 28)
    replace T0 := Lib.hid (T0.out.on hb); replace X := Lib.hid (X.out.on hb); replace FF := Lib.hid (FF.out.on hb); replace B := Lib.hid (B.out.trans (hb.mono B.out.size))
    clear hb
    obtain ⟨gh, hgh⟩ : ∃ gh, gh = w4.heap.size := ⟨_, rfl⟩
    rw [← hgh] at HH ⊢
    have HGH := Lib.hid hgh
    clear hgh
    unfold suC at *
    generalize w4.alloc (.cells #[.int .i64 3, .int .i64 v, .int .i64 wa, .int .i64 sq] 28) = w4x at *
    obtain ⟨c0, c1, c2, c3, cl⟩ := HH.out.cells
    simp only at c0 c1 c2 c3
    go_upto_region 7 with (go_at_call 16; (with_reducible refine (CB.out _).mono ?_); rintro e w5 ⟨rfl, hb⟩; replace T0 := Lib.hid (T0.out.on hb); replace X := Lib.hid (X.out.on hb); replace FF := Lib.hid (FF.out.on hb); replace HH := Lib.hid (HH.out.on hb); replace B := Lib.hid (B.out.trans (hb.mono B.out.size)); clear hb c0 c1 c2 c3 cl)
    have KK := Lib.hid (SuAt.new 28 w5 ⟨2, v, wa, sq⟩)
    have hb := (Below.refl w5.heap.size w5).alloc (Nat.le_refl _) (.cells (suC (⟨2, v, wa, sq⟩ : Su.S)) 28)
    replace T0 := Lib.hid (T0.out.on hb); replace X := Lib.hid (X.out.on hb); replace FF := Lib.hid (FF.out.on hb); replace HH := Lib.hid (HH.out.on hb); replace B := Lib.hid (B.out.trans (hb.mono B.out.size))
    clear hb
    obtain ⟨gk, hgk⟩ : ∃ gk, gk = w5.heap.size := ⟨_, rfl⟩
    rw [← hgk] at KK ⊢
    have HGK := Lib.hid hgk
    clear hgk
    unfold suC at *
    generalize w5.alloc (.cells #[.int .i64 2, .int .i64 v, .int .i64 wa, .int .i64 sq] 28) = w5x at *
    obtain ⟨c0, c1, c2, c3, cl⟩ := X.out.cells
    obtain ⟨d0, d1, d2, d3, dl⟩ := FF.out.cells
    obtain ⟨o0, o1, o2, o3, ol⟩ := HH.out.cells
    obtain ⟨p0, p1, p2, p3, pl⟩ := KK.out.cells
    simp only at c0 c1 c2 c3 d0 d1 d2 d3 o0 o1 o2 o3 p0 p1 p2 p3
    go_wp2_with fail
    go_ret
    exact ⟨rfl, B.out⟩
  · have n2 : (st == 2) = false := by simpa using h2
    have CH : Hid (∀ W, Calls Try.prog 15 #[.agg #[.int .i64 st, .int .i64 v, .int .i64 wa, .int .i64 sq]] W (SuPost W ⟨st, v, wa, sq⟩ false)) := fun W => sd_at (sdhurt_is ⟨st, v, wa, sq⟩ W) (if_neg fun h => h2 h.2) (decide_eq_false fun h => h2 h.2)
    obtain ⟨y, hy⟩ : ∃ y, y = Su.turn ⟨st, v, wa, sq⟩ 3 2 := ⟨_, rfl⟩
    obtain ⟨z, hz⟩ : ∃ z, z = decide (Su.turns ⟨st, v, wa, sq⟩ 3) := ⟨_, rfl⟩
    have CB : Hid (∀ W, Calls Try.prog 16 #[.agg #[.int .i64 st, .int .i64 v, .int .i64 wa, .int .i64 sq]] W (SuPost W y z)) := fun W => by rw [hy, hz]; exact sdheal_is ⟨st, v, wa, sq⟩ W
    have SE := slot_same ⟨st, v, wa, sq⟩
    clear hy hz h2
    unfold suV suC at *
    simp only at *
    have B := Lib.hid ((Below.refl W.heap.size W).alloc (Nat.le_refl _) (.cells (suC s0) 23))
    have T0 := Lib.hid (SuAt.new 23 W s0)
    obtain ⟨g0, hg0⟩ : ∃ g, g = W.heap.size := ⟨_, rfl⟩
    rw [← hg0] at T0
    have HG0 := Lib.hid hg0
    clear hg0
    unfold suC at *
    go_enter Try.func6, Try.ntmps6
    go_upto_region 1 with fail
    rw [← HG0.out]
    generalize W.alloc (.cells #[.int .i64 s0.st, .int .i64 s0.v, .int .i64 s0.wa, .int .i64 s0.sq] 23) = W1 at *
    go_upto_region 3 with (go_at_call 7; (with_reducible refine (CL.out _).mono ?_); rintro e w1 ⟨rfl, hb⟩; replace T0 := Lib.hid (T0.out.on hb); replace B := Lib.hid (B.out.trans (hb.mono B.out.size)); clear hb)
    obtain ⟨c0, c1, c2, c3, cl⟩ := T0.out.cells
    go_upto_region 4 with (go_at_call 8; (with_reducible refine (CG.out _).mono ?_); rintro e w2 ⟨rfl, hb⟩; replace T0 := Lib.hid (T0.out.on hb); replace B := Lib.hid (B.out.trans (hb.mono B.out.size)); clear hb c0 c1 c2 c3 cl)
    have X := Lib.hid (SuAt.new 28 w2 ⟨st, v, wa, sq⟩)
    have hb := (Below.refl w2.heap.size w2).alloc (Nat.le_refl _) (.cells (suC (⟨st, v, wa, sq⟩ : Su.S)) 28)
    replace T0 := Lib.hid (T0.out.on hb); replace B := Lib.hid (B.out.trans (hb.mono B.out.size))
    clear hb
    obtain ⟨gx, hgx⟩ : ∃ gx, gx = w2.heap.size := ⟨_, rfl⟩
    rw [← hgx] at X ⊢
    have HGX := Lib.hid hgx
    clear hgx
    unfold suC at *
    generalize w2.alloc (.cells #[.int .i64 st, .int .i64 v, .int .i64 wa, .int .i64 sq] 28) = w2x at *
    obtain ⟨c0, c1, c2, c3, cl⟩ := X.out.cells
    simp only at c0 c1 c2 c3
    go_upto_region 5 with (go_at_call 14; (with_reducible refine (CF.out _).mono ?_); rintro e w3 ⟨rfl, hb⟩; replace T0 := Lib.hid (T0.out.on hb); replace X := Lib.hid (X.out.on hb); replace B := Lib.hid (B.out.trans (hb.mono B.out.size)); clear hb c0 c1 c2 c3 cl)
    have FF := Lib.hid (SuAt.new 28 w3 ⟨0, 0, wa, sq⟩)
    have hb := (Below.refl w3.heap.size w3).alloc (Nat.le_refl _) (.cells (suC (⟨0, 0, wa, sq⟩ : Su.S)) 28)
    replace T0 := Lib.hid (T0.out.on hb); replace X := Lib.hid (X.out.on hb); replace B := Lib.hid (B.out.trans (hb.mono B.out.size))
    clear hb
    obtain ⟨gf, hgf⟩ : ∃ gf, gf = w3.heap.size := ⟨_, rfl⟩
    rw [← hgf] at FF ⊢
    have HGF := Lib.hid hgf
    clear hgf
    unfold suC at *
    generalize w3.alloc (.cells #[.int .i64 0, .int .i64 0, .int .i64 wa, .int .i64 sq] 28) = w3x at *
    obtain ⟨c0, c1, c2, c3, cl⟩ := X.out.cells
    simp only at c0 c1 c2 c3
    go_upto_region 6 with (go_at_call 15; (with_reducible refine (CH.out _).mono ?_); rintro e w4 ⟨rfl, hb⟩; replace T0 := Lib.hid (T0.out.on hb); replace X := Lib.hid (X.out.on hb); replace FF := Lib.hid (FF.out.on hb); replace B := Lib.hid (B.out.trans (hb.mono B.out.size)); clear hb c0 c1 c2 c3 cl)
    have HH := Lib.hid (SuAt.new 28 w4 ⟨st, v, wa, sq⟩)
    have hb := (Below.refl w4.heap.size w4).alloc (Nat.le_refl _) (.cells (suC (⟨st, v, wa, sq⟩ : Su.S)) 28)
    replace T0 := Lib.hid (T0.out.on hb); replace X := Lib.hid (X.out.on hb); replace FF := Lib.hid (FF.out.on hb); replace B := Lib.hid (B.out.trans (hb.mono B.out.size))
    clear hb
    obtain ⟨gh, hgh⟩ : ∃ gh, gh = w4.heap.size := ⟨_, rfl⟩
    rw [← hgh] at HH ⊢
    have HGH := Lib.hid hgh
    clear hgh
    unfold suC at *
    generalize w4.alloc (.cells #[.int .i64 st, .int .i64 v, .int .i64 wa, .int .i64 sq] 28) = w4x at *
    obtain ⟨c0, c1, c2, c3, cl⟩ := HH.out.cells
    simp only at c0 c1 c2 c3
    go_upto_region 7 with (go_at_call 16; (with_reducible refine (CB.out _).mono ?_); rintro e w5 ⟨rfl, hb⟩; replace T0 := Lib.hid (T0.out.on hb); replace X := Lib.hid (X.out.on hb); replace FF := Lib.hid (FF.out.on hb); replace HH := Lib.hid (HH.out.on hb); replace B := Lib.hid (B.out.trans (hb.mono B.out.size)); clear hb c0 c1 c2 c3 cl)
    have KK := Lib.hid (SuAt.new 28 w5 y)
    have hb := (Below.refl w5.heap.size w5).alloc (Nat.le_refl _) (.cells (suC y) 28)
    replace T0 := Lib.hid (T0.out.on hb); replace X := Lib.hid (X.out.on hb); replace FF := Lib.hid (FF.out.on hb); replace HH := Lib.hid (HH.out.on hb); replace B := Lib.hid (B.out.trans (hb.mono B.out.size))
    clear hb
    obtain ⟨gk, hgk⟩ : ∃ gk, gk = w5.heap.size := ⟨_, rfl⟩
    rw [← hgk] at KK ⊢
    have HGK := Lib.hid hgk
    clear hgk
    unfold suC at *
    generalize w5.alloc (.cells #[.int .i64 y.st, .int .i64 y.v, .int .i64 y.wa, .int .i64 y.sq] 28) = w5x at *
    obtain ⟨c0, c1, c2, c3, cl⟩ := X.out.cells
    obtain ⟨d0, d1, d2, d3, dl⟩ := FF.out.cells
    obtain ⟨o0, o1, o2, o3, ol⟩ := HH.out.cells
    obtain ⟨p0, p1, p2, p3, pl⟩ := KK.out.cells
    simp only at c0 c1 c2 c3 d0 d1 d2 d3 o0 o1 o2 o3
    go_wp2_with fail
    go_ret
    exact ⟨rfl, B.out⟩
end Go.Proofs.Ytlkfbnafookjdaa
