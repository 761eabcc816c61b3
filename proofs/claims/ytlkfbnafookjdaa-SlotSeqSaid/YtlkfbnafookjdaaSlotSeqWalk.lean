/-
  SlotSeq of layer 15, walked. Written by wip/tools/gen/sulaw.py. No condition.
-/
import Derived.Test.YtlkfbnafookjdaaSlotFallsWalk
namespace Go.Proofs.Ytlkfbnafookjdaa
open Go.RowKit Go.Deep
set_option linter.unusedSimpArgs false
set_option linter.unusedVariables false

set_option maxHeartbeats 3200000 in
theorem slotseq_walk (s0 : Su.S) (n q : Int) (W : World) : Calls Try.prog 5 #[suV s0, .int .i64 n, .int .i64 q] W (fun e w' => e = .returned (.bool true) ∧ Below W.heap.size W w') := by
  have CL := Lib.hid (fun W => sulives_any W)
  have CG := Lib.hid (fun W => rsgood_any s0 W)
  have RX := Lib.hid (Su.goodOf_right s0)
  generalize Su.goodOf s0 = x at *
  obtain ⟨st, v, wa, sq⟩ := x
  by_cases ht : Su.takes ⟨st, v, wa, sq⟩ n q
  · obtain ⟨y, hy⟩ : ∃ y, y = (if 1 ≤ st ∧ st ≤ 3 ∧ v ≠ n then (4 : Int) else st) := ⟨_, rfl⟩
    have CW : Hid (∀ W, Calls Try.prog 13 #[.agg #[.int .i64 st, .int .i64 v, .int .i64 wa, .int .i64 sq], .int .i64 n, .int .i64 q] W (SuPost W ⟨y, v, n, q⟩ true)) := fun W => sd_at (sdwant_is ⟨st, v, wa, sq⟩ n q W) (by rw [hy]; exact if_pos ht) (decide_eq_true ht)
    have NT : Hid (¬ Su.takes ⟨y, v, n, q⟩ n q) := fun h => by have := h.2.2; simp only at this; omega
    have CX : Hid (∀ W, Calls Try.prog 13 #[.agg #[.int .i64 y, .int .i64 v, .int .i64 n, .int .i64 q], .int .i64 n, .int .i64 q] W (SuPost W ⟨y, v, n, q⟩ false)) := fun W => sd_at (sdwant_is ⟨y, v, n, q⟩ n q W) (if_neg NT.out) (decide_eq_false NT.out)
    have SE := slot_same ⟨y, v, n, q⟩
    have gq : sq < q := ht.2.2
    have EY : Hid ((y == st) = true ∨ ((y == st) = false ∧ (y == 4) = true ∧ (v != n) = true)) := by
      by_cases hc : 1 ≤ st ∧ st ≤ 3 ∧ v ≠ n
      · rw [if_pos hc] at hy
        subst hy
        exact .inr ⟨by simp; omega, rfl, by simpa using hc.2.2⟩
      · rw [if_neg hc] at hy
        subst hy
        exact .inl (by simp)
    clear ht hy
    unfold suV suC at *
    simp only at *
    have B := Lib.hid ((Below.refl W.heap.size W).alloc (Nat.le_refl _) (.cells (suC s0) 23))
    have T0 := Lib.hid (SuAt.new 23 W s0)
    obtain ⟨g0, hg0⟩ : ∃ g, g = W.heap.size := ⟨_, rfl⟩
    rw [← hg0] at T0
    have HG0 := Lib.hid hg0
    clear hg0
    unfold suC at *
    go_enter Try.func5, Try.ntmps5
    go_upto_region 1 with fail
    rw [← HG0.out]
    generalize W.alloc (.cells #[.int .i64 s0.st, .int .i64 s0.v, .int .i64 s0.wa, .int .i64 s0.sq] 23) = W1 at *
    go_upto_region 3 with (go_at_call 7; (with_reducible refine (CL.out _).mono ?_); rintro e w1 ⟨rfl, hb⟩; replace T0 := Lib.hid (T0.out.on hb); replace B := Lib.hid (B.out.trans (hb.mono B.out.size)); clear hb)
    obtain ⟨c0, c1, c2, c3, cl⟩ := T0.out.cells
    go_upto_region 4 with (go_at_call 8; (with_reducible refine (CG.out _).mono ?_); rintro e w2 ⟨rfl, hb⟩; replace T0 := Lib.hid (T0.out.on hb); replace B := Lib.hid (B.out.trans (hb.mono B.out.size)); clear hb c0 c1 c2 c3 cl)
    have X := Lib.hid (SuAt.new 28 w2 ⟨st, v, wa, sq⟩)
    have hb := (Below.refl w2.heap.size w2).alloc (Nat.le_refl _) (.cells (suC (⟨st, v, wa, sq⟩ : Su.S)) 28)
    replace T0 := Lib.hid (T0.out.on hb); replace B := Lib.hid (B.out.trans (hb.mono B.out.size))
    clear hb
    obtain ⟨gx, hgx⟩ : ∃ gx, gx = w2.heap.size := ⟨_, rfl⟩
    rw [← hgx] at X ⊢
    have HGX := Lib.hid hgx
    clear hgx
    unfold suC at *
    generalize w2.alloc (.cells #[.int .i64 st, .int .i64 v, .int .i64 wa, .int .i64 sq] 28) = w2x at *
    obtain ⟨c0, c1, c2, c3, cl⟩ := X.out.cells
    simp only at c0 c1 c2 c3
    go_upto_region 5 with (go_at_call 13; (with_reducible refine (CW.out _).mono ?_); rintro e w3 ⟨rfl, hb⟩; replace T0 := Lib.hid (T0.out.on hb); replace X := Lib.hid (X.out.on hb); replace B := Lib.hid (B.out.trans (hb.mono B.out.size)); clear hb c0 c1 c2 c3 cl)
    have YY := Lib.hid (SuAt.new 28 w3 ⟨y, v, n, q⟩)
    have hb := (Below.refl w3.heap.size w3).alloc (Nat.le_refl _) (.cells (suC (⟨y, v, n, q⟩ : Su.S)) 28)
    replace T0 := Lib.hid (T0.out.on hb); replace X := Lib.hid (X.out.on hb); replace B := Lib.hid (B.out.trans (hb.mono B.out.size))
    clear hb
    obtain ⟨gy, hgy⟩ : ∃ gy, gy = w3.heap.size := ⟨_, rfl⟩
    rw [← hgy] at YY ⊢
    have HGY := Lib.hid hgy
    clear hgy
    unfold suC at *
    generalize w3.alloc (.cells #[.int .i64 y, .int .i64 v, .int .i64 n, .int .i64 q] 28) = w3x at *
    obtain ⟨c0, c1, c2, c3, cl⟩ := YY.out.cells
    simp only at c0 c1 c2 c3
    go_upto_region 8 with (go_at_call 13; (with_reducible refine (CX.out _).mono ?_); rintro e w4 ⟨rfl, hb⟩; replace T0 := Lib.hid (T0.out.on hb); replace X := Lib.hid (X.out.on hb); replace YY := Lib.hid (YY.out.on hb); replace B := Lib.hid (B.out.trans (hb.mono B.out.size)); clear hb c0 c1 c2 c3 cl)
    have ZZ := Lib.hid (SuAt.new 28 w4 ⟨y, v, n, q⟩)
    have hb := (Below.refl w4.heap.size w4).alloc (Nat.le_refl _) (.cells (suC (⟨y, v, n, q⟩ : Su.S)) 28)
    replace T0 := Lib.hid (T0.out.on hb); replace X := Lib.hid (X.out.on hb); replace YY := Lib.hid (YY.out.on hb); replace B := Lib.hid (B.out.trans (hb.mono B.out.size))
    clear hb
    obtain ⟨gz, hgz⟩ : ∃ gz, gz = w4.heap.size := ⟨_, rfl⟩
    rw [← hgz] at ZZ ⊢
    have HGZ := Lib.hid hgz
    clear hgz
    unfold suC at *
    generalize w4.alloc (.cells #[.int .i64 y, .int .i64 v, .int .i64 n, .int .i64 q] 28) = w4x at *
    obtain ⟨c0, c1, c2, c3, cl⟩ := X.out.cells
    obtain ⟨d0, d1, d2, d3, dl⟩ := YY.out.cells
    obtain ⟨o0, o1, o2, o3, ol⟩ := ZZ.out.cells
    simp only at c0 c1 c2 c3 d0 d1 d2 d3 o0 o1 o2 o3
    rcases EY.out with e1 | ⟨e1, e2, e3⟩
    · go_wp2_with fail
      go_ret
      exact ⟨rfl, B.out⟩
    · go_wp2_with fail
      go_ret
      exact ⟨rfl, B.out⟩
  · have CW : Hid (∀ W, Calls Try.prog 13 #[.agg #[.int .i64 st, .int .i64 v, .int .i64 wa, .int .i64 sq], .int .i64 n, .int .i64 q] W (SuPost W ⟨st, v, wa, sq⟩ false)) := fun W => sd_at (sdwant_is ⟨st, v, wa, sq⟩ n q W) (if_neg ht) (decide_eq_false ht)
    have SE := slot_same ⟨st, v, wa, sq⟩
    have EY : Hid (decide (q ≤ sq) = true ∨ (decide (q ≤ sq) = false ∧ decide (n < 0) = true)) := by
      by_cases h1 : q ≤ sq
      · exact .inl (decide_eq_true h1)
      · exact .inr ⟨decide_eq_false h1, decide_eq_true (Classical.byContradiction fun h => ht ⟨RX.out, by omega, by show sq < q; omega⟩)⟩
    clear ht
    unfold suV suC at *
    simp only at *
    have B := Lib.hid ((Below.refl W.heap.size W).alloc (Nat.le_refl _) (.cells (suC s0) 23))
    have T0 := Lib.hid (SuAt.new 23 W s0)
    obtain ⟨g0, hg0⟩ : ∃ g, g = W.heap.size := ⟨_, rfl⟩
    rw [← hg0] at T0
    have HG0 := Lib.hid hg0
    clear hg0
    unfold suC at *
    go_enter Try.func5, Try.ntmps5
    go_upto_region 1 with fail
    rw [← HG0.out]
    generalize W.alloc (.cells #[.int .i64 s0.st, .int .i64 s0.v, .int .i64 s0.wa, .int .i64 s0.sq] 23) = W1 at *
    go_upto_region 3 with (go_at_call 7; (with_reducible refine (CL.out _).mono ?_); rintro e w1 ⟨rfl, hb⟩; replace T0 := Lib.hid (T0.out.on hb); replace B := Lib.hid (B.out.trans (hb.mono B.out.size)); clear hb)
    obtain ⟨c0, c1, c2, c3, cl⟩ := T0.out.cells
    go_upto_region 4 with (go_at_call 8; (with_reducible refine (CG.out _).mono ?_); rintro e w2 ⟨rfl, hb⟩; replace T0 := Lib.hid (T0.out.on hb); replace B := Lib.hid (B.out.trans (hb.mono B.out.size)); clear hb c0 c1 c2 c3 cl)
    have X := Lib.hid (SuAt.new 28 w2 ⟨st, v, wa, sq⟩)
    have hb := (Below.refl w2.heap.size w2).alloc (Nat.le_refl _) (.cells (suC (⟨st, v, wa, sq⟩ : Su.S)) 28)
    replace T0 := Lib.hid (T0.out.on hb); replace B := Lib.hid (B.out.trans (hb.mono B.out.size))
    clear hb
    obtain ⟨gx, hgx⟩ : ∃ gx, gx = w2.heap.size := ⟨_, rfl⟩
    rw [← hgx] at X ⊢
    have HGX := Lib.hid hgx
    clear hgx
    unfold suC at *
    generalize w2.alloc (.cells #[.int .i64 st, .int .i64 v, .int .i64 wa, .int .i64 sq] 28) = w2x at *
    obtain ⟨c0, c1, c2, c3, cl⟩ := X.out.cells
    simp only at c0 c1 c2 c3
    go_upto_region 6 with (go_at_call 13; (with_reducible refine (CW.out _).mono ?_); rintro e w3 ⟨rfl, hb⟩; replace T0 := Lib.hid (T0.out.on hb); replace X := Lib.hid (X.out.on hb); replace B := Lib.hid (B.out.trans (hb.mono B.out.size)); clear hb c0 c1 c2 c3 cl)
    have YY := Lib.hid (SuAt.new 28 w3 ⟨st, v, wa, sq⟩)
    have hb := (Below.refl w3.heap.size w3).alloc (Nat.le_refl _) (.cells (suC (⟨st, v, wa, sq⟩ : Su.S)) 28)
    replace T0 := Lib.hid (T0.out.on hb); replace X := Lib.hid (X.out.on hb); replace B := Lib.hid (B.out.trans (hb.mono B.out.size))
    clear hb
    obtain ⟨gy, hgy⟩ : ∃ gy, gy = w3.heap.size := ⟨_, rfl⟩
    rw [← hgy] at YY ⊢
    have HGY := Lib.hid hgy
    clear hgy
    unfold suC at *
    generalize w3.alloc (.cells #[.int .i64 st, .int .i64 v, .int .i64 wa, .int .i64 sq] 28) = w3x at *
    obtain ⟨c0, c1, c2, c3, cl⟩ := X.out.cells
    obtain ⟨d0, d1, d2, d3, dl⟩ := YY.out.cells
    simp only at c0 c1 c2 c3 d0 d1 d2 d3
    rcases EY.out with e1 | ⟨e1, e2⟩
    · go_wp2_with fail
      go_ret
      exact ⟨rfl, B.out⟩
    · go_wp2_with fail
      go_ret
      exact ⟨rfl, B.out⟩
end Go.Proofs.Ytlkfbnafookjdaa
