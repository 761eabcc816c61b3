/-
  The law's lives of layer 15: the document's example. No condition.
-/
import Derived.Test.YtlkfbnafookjdaaSuDev2
namespace Go.Proofs.Ytlkfbnafookjdaa
open Go.RowKit Go.Deep
set_option linter.unusedSimpArgs false
set_option linter.unusedVariables false

set_option maxHeartbeats 1600000 in
theorem sulives_any (W : World) : Calls Try.prog 7 #[] W (fun e w' => e = .returned (.bool true) ∧ Below W.heap.size W w') := by
  have C0 : Hid (∀ W, Calls Try.prog 13 #[.agg #[.int .i64 0, .int .i64 0, .int .i64 0, .int .i64 0], .int .i64 3, .int .i64 1] W (SuPost W ⟨0, 0, 3, 1⟩ true)) := fun W => by
    have h := sdwant_is ⟨0, 0, 0, 0⟩ 3 1 W
    rw [show Su.want ⟨0, 0, 0, 0⟩ 3 1 = ⟨0, 0, 3, 1⟩ from by decide, show decide (Su.takes ⟨0, 0, 0, 0⟩ 3 1) = true from by decide] at h
    exact h
  have C1 : Hid (∀ W, Calls Try.prog 11 #[.agg #[.int .i64 0, .int .i64 0, .int .i64 3, .int .i64 1]] W (SuPost W ⟨1, 3, 3, 1⟩ true)) := fun W => by
    have h := sdgo_is ⟨0, 0, 3, 1⟩ W
    rw [show Su.go ⟨0, 0, 3, 1⟩ = ⟨1, 3, 3, 1⟩ from by decide, show decide (Su.goes ⟨0, 0, 3, 1⟩) = true from by decide] at h
    exact h
  have C2 : Hid (∀ W, Calls Try.prog 11 #[.agg #[.int .i64 1, .int .i64 3, .int .i64 3, .int .i64 1]] W (SuPost W ⟨2, 3, 3, 1⟩ true)) := fun W => by
    have h := sdgo_is ⟨1, 3, 3, 1⟩ W
    rw [show Su.go ⟨1, 3, 3, 1⟩ = ⟨2, 3, 3, 1⟩ from by decide, show decide (Su.goes ⟨1, 3, 3, 1⟩) = true from by decide] at h
    exact h
  have C3 : Hid (∀ W, Calls Try.prog 13 #[.agg #[.int .i64 2, .int .i64 3, .int .i64 3, .int .i64 1], .int .i64 0, .int .i64 2] W (SuPost W ⟨4, 3, 0, 2⟩ true)) := fun W => by
    have h := sdwant_is ⟨2, 3, 3, 1⟩ 0 2 W
    rw [show Su.want ⟨2, 3, 3, 1⟩ 0 2 = ⟨4, 3, 0, 2⟩ from by decide, show decide (Su.takes ⟨2, 3, 3, 1⟩ 0 2) = true from by decide] at h
    exact h
  have C4 : Hid (∀ W, Calls Try.prog 11 #[.agg #[.int .i64 4, .int .i64 3, .int .i64 0, .int .i64 2]] W (SuPost W ⟨0, 0, 0, 2⟩ true)) := fun W => by
    have h := sdgo_is ⟨4, 3, 0, 2⟩ W
    rw [show Su.go ⟨4, 3, 0, 2⟩ = ⟨0, 0, 0, 2⟩ from by decide, show decide (Su.goes ⟨4, 3, 0, 2⟩) = true from by decide] at h
    exact h
  have B := Lib.hid (Below.refl W.heap.size W)
  go_enter Try.func7, Try.ntmps7
  go_upto_region 2 with (go_at_call 13; (with_reducible refine (C0.out _).mono ?_); rintro e w1 ⟨rfl, hb⟩; replace B := Lib.hid (B.out.trans (hb.mono B.out.size)); clear hb)
  have T1 := Lib.hid (SuAt.new 28 w1 ⟨0, 0, 3, 1⟩)
  have hb := (Below.refl w1.heap.size w1).alloc (Nat.le_refl _) (.cells (suC (⟨0, 0, 3, 1⟩ : Su.S)) 28)
  replace B := Lib.hid (B.out.trans (hb.mono B.out.size))
  clear hb
  obtain ⟨g1, hg1⟩ : ∃ g1, g1 = w1.heap.size := ⟨_, rfl⟩
  rw [← hg1] at T1 ⊢
  have HG1 := Lib.hid hg1
  clear hg1
  unfold suC at *
  generalize w1.alloc (.cells #[.int .i64 0, .int .i64 0, .int .i64 3, .int .i64 1] 28) = w1x at *
  obtain ⟨c0, c1, c2, c3, cl⟩ := T1.out.cells
  simp only at c0 c1 c2 c3
  go_upto_region 3 with (go_at_call 11; (with_reducible refine (C1.out _).mono ?_); rintro e w2 ⟨rfl, hb⟩; replace T1 := Lib.hid (T1.out.on hb); replace B := Lib.hid (B.out.trans (hb.mono B.out.size)); clear hb c0 c1 c2 c3 cl)
  have T2 := Lib.hid (SuAt.new 28 w2 ⟨1, 3, 3, 1⟩)
  have hb := (Below.refl w2.heap.size w2).alloc (Nat.le_refl _) (.cells (suC (⟨1, 3, 3, 1⟩ : Su.S)) 28)
  replace T1 := Lib.hid (T1.out.on hb); replace B := Lib.hid (B.out.trans (hb.mono B.out.size))
  clear hb
  obtain ⟨g2, hg2⟩ : ∃ g2, g2 = w2.heap.size := ⟨_, rfl⟩
  rw [← hg2] at T2 ⊢
  have HG2 := Lib.hid hg2
  clear hg2
  unfold suC at *
  generalize w2.alloc (.cells #[.int .i64 1, .int .i64 3, .int .i64 3, .int .i64 1] 28) = w2x at *
  obtain ⟨c0, c1, c2, c3, cl⟩ := T2.out.cells
  simp only at c0 c1 c2 c3
  go_upto_region 4 with (go_at_call 11; (with_reducible refine (C2.out _).mono ?_); rintro e w3 ⟨rfl, hb⟩; replace T1 := Lib.hid (T1.out.on hb); replace T2 := Lib.hid (T2.out.on hb); replace B := Lib.hid (B.out.trans (hb.mono B.out.size)); clear hb c0 c1 c2 c3 cl)
  have T3 := Lib.hid (SuAt.new 28 w3 ⟨2, 3, 3, 1⟩)
  have hb := (Below.refl w3.heap.size w3).alloc (Nat.le_refl _) (.cells (suC (⟨2, 3, 3, 1⟩ : Su.S)) 28)
  replace T1 := Lib.hid (T1.out.on hb); replace T2 := Lib.hid (T2.out.on hb); replace B := Lib.hid (B.out.trans (hb.mono B.out.size))
  clear hb
  obtain ⟨g3, hg3⟩ : ∃ g3, g3 = w3.heap.size := ⟨_, rfl⟩
  rw [← hg3] at T3 ⊢
  have HG3 := Lib.hid hg3
  clear hg3
  unfold suC at *
  generalize w3.alloc (.cells #[.int .i64 2, .int .i64 3, .int .i64 3, .int .i64 1] 28) = w3x at *
  obtain ⟨c0, c1, c2, c3, cl⟩ := T3.out.cells
  simp only at c0 c1 c2 c3
  go_upto_region 5 with (go_at_call 13; (with_reducible refine (C3.out _).mono ?_); rintro e w4 ⟨rfl, hb⟩; replace T1 := Lib.hid (T1.out.on hb); replace T2 := Lib.hid (T2.out.on hb); replace T3 := Lib.hid (T3.out.on hb); replace B := Lib.hid (B.out.trans (hb.mono B.out.size)); clear hb c0 c1 c2 c3 cl)
  have T4 := Lib.hid (SuAt.new 28 w4 ⟨4, 3, 0, 2⟩)
  have hb := (Below.refl w4.heap.size w4).alloc (Nat.le_refl _) (.cells (suC (⟨4, 3, 0, 2⟩ : Su.S)) 28)
  replace T1 := Lib.hid (T1.out.on hb); replace T2 := Lib.hid (T2.out.on hb); replace T3 := Lib.hid (T3.out.on hb); replace B := Lib.hid (B.out.trans (hb.mono B.out.size))
  clear hb
  obtain ⟨g4, hg4⟩ : ∃ g4, g4 = w4.heap.size := ⟨_, rfl⟩
  rw [← hg4] at T4 ⊢
  have HG4 := Lib.hid hg4
  clear hg4
  unfold suC at *
  generalize w4.alloc (.cells #[.int .i64 4, .int .i64 3, .int .i64 0, .int .i64 2] 28) = w4x at *
  obtain ⟨c0, c1, c2, c3, cl⟩ := T4.out.cells
  simp only at c0 c1 c2 c3
  go_upto_region 6 with (go_at_call 11; (with_reducible refine (C4.out _).mono ?_); rintro e w5 ⟨rfl, hb⟩; replace T1 := Lib.hid (T1.out.on hb); replace T2 := Lib.hid (T2.out.on hb); replace T3 := Lib.hid (T3.out.on hb); replace T4 := Lib.hid (T4.out.on hb); replace B := Lib.hid (B.out.trans (hb.mono B.out.size)); clear hb c0 c1 c2 c3 cl)
  have T5 := Lib.hid (SuAt.new 28 w5 ⟨0, 0, 0, 2⟩)
  have hb := (Below.refl w5.heap.size w5).alloc (Nat.le_refl _) (.cells (suC (⟨0, 0, 0, 2⟩ : Su.S)) 28)
  replace T1 := Lib.hid (T1.out.on hb); replace T2 := Lib.hid (T2.out.on hb); replace T3 := Lib.hid (T3.out.on hb); replace T4 := Lib.hid (T4.out.on hb); replace B := Lib.hid (B.out.trans (hb.mono B.out.size))
  clear hb
  obtain ⟨g5, hg5⟩ : ∃ g5, g5 = w5.heap.size := ⟨_, rfl⟩
  rw [← hg5] at T5 ⊢
  have HG5 := Lib.hid hg5
  clear hg5
  unfold suC at *
  generalize w5.alloc (.cells #[.int .i64 0, .int .i64 0, .int .i64 0, .int .i64 2] 28) = w5x at *
  obtain ⟨c0, c1, c2, c3, cl⟩ := T2.out.cells
  obtain ⟨d0, d1, d2, d3, dl⟩ := T3.out.cells
  obtain ⟨o0, o1, o2, o3, ol⟩ := T4.out.cells
  obtain ⟨p0, p1, p2, p3, pl⟩ := T5.out.cells
  simp only at c0 d0 d1 o0 p0 p1
  go_wp2_with fail
  go_ret
  exact ⟨rfl, B.out⟩
end Go.Proofs.Ytlkfbnafookjdaa
