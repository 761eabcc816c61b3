/-
  The document's own slot (layer 15): Right, Want, Go, Turn, Fall. No condition.
-/
import Derived.Test.YtgljepjflpijiaaSuMem
namespace Go.Proofs.Ytgljepjflpijiaa
open Go.RowKit Go.Deep
set_option linter.unusedSimpArgs false
set_option linter.unusedVariables false

set_option maxHeartbeats 1600000 in
theorem rsright_is {s : Su.S} {b : Bool} (hb : b = true ↔ Su.Right s) (W : World) : Calls Try.prog 57 #[suV s] W (fun e w' => e = .returned (.bool b) ∧ Below W.heap.size W w') := by
  have B1 := Lib.hid ((Below.refl W.heap.size W).alloc (Nat.le_refl _) (.cells (suC s) 29))
  obtain ⟨st, v, wa, sq⟩ := s
  unfold Su.Right at hb
  simp only at *
  have HB := Lib.hid hb
  clear hb
  rcases (by omega : st < 0 ∨ (0 ≤ st ∧ 4 < st) ∨ (0 ≤ st ∧ st ≤ 4 ∧ v < 0) ∨ (0 ≤ st ∧ st ≤ 4 ∧ 0 ≤ v ∧ wa < 0) ∨ (0 ≤ st ∧ st ≤ 4 ∧ 0 ≤ v ∧ 0 ≤ wa ∧ sq < 0) ∨ (0 ≤ st ∧ st ≤ 4 ∧ 0 ≤ v ∧ 0 ≤ wa ∧ 0 ≤ sq)) with h | ⟨h1, h⟩ | ⟨h1, h2, h⟩ | ⟨h1, h2, h3, h⟩ | ⟨h1, h2, h3, h4, h⟩ | ⟨h1, h2, h3, h4, h5⟩
  all_goals
    go_enter Try.func57, Try.ntmps57
    go_wp2_with fail
    go_ret
    refine ⟨?_, B1.out⟩
    refine ret_bool ?_
    rw [Bool.eq_iff_iff, HB.out]
    simp
    first
      | omega
      | (by_cases v0 : 0 < v <;> by_cases s0 : st = 0 <;> simp [v0, s0] <;> omega)
set_option maxHeartbeats 1600000 in
theorem rsfall_any (s : Su.S) (W : World) : Calls Try.prog 48 #[suV s] W (SuPost W (Su.fall s) (decide (Su.falls s))) := by
  obtain ⟨g, W1, hW, hg, r0⟩ := su_two 29 29 W s
  obtain ⟨b, hb⟩ : ∃ b, b = decide (Su.Right s) := ⟨_, rfl⟩
  have CR := Lib.hid (fun W => rsright_is (s := s) (b := b) (by rw [hb]; simp) W)
  have HR : Hid (b = true ↔ Su.Right s) := by rw [hb]; show _ ↔ _; simp
  have HW := Lib.hid hW
  have HG := Lib.hid hg
  have R := Lib.hid r0
  have c := Lib.hid r0.a.cells
  clear hb hW hg r0
  unfold suV suC at *
  go_enter Try.func48, Try.ntmps48
  go_upto_region 1 with fail
  rw [← HW.out, ← HG.out]
  obtain ⟨c0, c1, c2, c3, cl⟩ := c.out
  go_upto_region 2 with (go_at_call 57; (with_reducible refine (CR.out _).mono ?_); rintro e w2 ⟨rfl, hb⟩; replace R := Lib.hid (R.out.on hb); clear hb)
  clear c0 c1 c2 c3 cl c CR HW HG
  obtain ⟨c0, c1, c2, c3, cl⟩ := R.out.a.cells
  obtain ⟨z0, z1, z2, z3, zl⟩ := R.out.r.cells
  obtain ⟨f0, f1, f2, f3⟩ := R.out.a.fz
  obtain ⟨k0, k1, k2, k3⟩ := R.out.r.fz
  obtain ⟨st, v, wa, sq⟩ := s
  simp only at c0 c1 c2 c3
  cases b with
  | false =>
    have NO : Hid (¬ Su.falls ⟨st, v, wa, sq⟩) := fun h => by have := HR.out.2 h.1; cases this
    go_wp2_with fail
    exact su_ret Try.results48 Try.underlying29 (by kernel_rfl) (R.out.fill st v wa sq) rfl rfl rfl ((if_neg NO.out).symm) ((decide_eq_false NO.out).symm)
  | true =>
    have RT : Hid (Su.Right ⟨st, v, wa, sq⟩) := HR.out.1 rfl
    by_cases h0 : st = 0
    · subst h0
      have NO : Hid (¬ Su.falls ⟨0, v, wa, sq⟩) := fun h => h.2 rfl
      go_wp2_with fail
      exact su_ret Try.results48 Try.underlying29 (by kernel_rfl) (R.out.fill 0 v wa sq) rfl rfl rfl ((if_neg NO.out).symm) ((decide_eq_false NO.out).symm)
    · have YES : Hid (Su.falls ⟨st, v, wa, sq⟩) := ⟨RT.out, h0⟩
      have h1 : (st == 0) = false := by simpa using h0
      go_wp2_with fail
      exact su_ret Try.results48 Try.underlying29 (by kernel_rfl) (((R.out.s0 0).s1 0).fill 0 0 wa sq) rfl rfl rfl ((if_pos YES.out).symm) ((decide_eq_true YES.out).symm)
set_option maxHeartbeats 1600000 in
theorem rsturn_any (s : Su.S) (a b' : Int) (W : World) : Calls Try.prog 47 #[suV s, .int .i64 a, .int .i64 b'] W (SuPost W (Su.turn s a b') (decide (Su.turns s a))) := by
  obtain ⟨g, W1, hW, hg, r0⟩ := su_two 29 29 W s
  obtain ⟨b, hb⟩ : ∃ b, b = decide (Su.Right s) := ⟨_, rfl⟩
  have CR := Lib.hid (fun W => rsright_is (s := s) (b := b) (by rw [hb]; simp) W)
  have HR : Hid (b = true ↔ Su.Right s) := by rw [hb]; show _ ↔ _; simp
  have HW := Lib.hid hW
  have HG := Lib.hid hg
  have R := Lib.hid r0
  have c := Lib.hid r0.a.cells
  clear hb hW hg r0
  unfold suV suC at *
  go_enter Try.func47, Try.ntmps47
  go_upto_region 1 with fail
  rw [← HW.out, ← HG.out]
  obtain ⟨c0, c1, c2, c3, cl⟩ := c.out
  go_upto_region 2 with (go_at_call 57; (with_reducible refine (CR.out _).mono ?_); rintro e w2 ⟨rfl, hb⟩; replace R := Lib.hid (R.out.on hb); clear hb)
  clear c0 c1 c2 c3 cl c CR HW HG
  obtain ⟨c0, c1, c2, c3, cl⟩ := R.out.a.cells
  obtain ⟨z0, z1, z2, z3, zl⟩ := R.out.r.cells
  obtain ⟨f0, f1, f2, f3⟩ := R.out.a.fz
  obtain ⟨k0, k1, k2, k3⟩ := R.out.r.fz
  obtain ⟨st, v, wa, sq⟩ := s
  simp only at c0 c1 c2 c3
  cases b with
  | false =>
    have NO : Hid (¬ Su.turns ⟨st, v, wa, sq⟩ a) := fun h => by have := HR.out.2 h.1; cases this
    go_wp2_with fail
    exact su_ret Try.results47 Try.underlying29 (by kernel_rfl) (R.out.fill st v wa sq) rfl rfl rfl ((if_neg NO.out).symm) ((decide_eq_false NO.out).symm)
  | true =>
    have RT : Hid (Su.Right ⟨st, v, wa, sq⟩) := HR.out.1 rfl
    by_cases h0 : st = a
    · subst h0
      have YES : Hid (Su.turns ⟨st, v, wa, sq⟩ st) := ⟨RT.out, rfl⟩
      go_wp2_with fail
      exact su_ret Try.results47 Try.underlying29 (by kernel_rfl) ((R.out.s0 b').fill b' v wa sq) rfl rfl rfl ((if_pos YES.out).symm) ((decide_eq_true YES.out).symm)
    · have NO : Hid (¬ Su.turns ⟨st, v, wa, sq⟩ a) := fun h => h0 h.2
      have h1 : (st == a) = false := by simpa using h0
      have h2 : (st != a) = true := by simpa using h0
      go_wp2_with fail
      exact su_ret Try.results47 Try.underlying29 (by kernel_rfl) (R.out.fill st v wa sq) rfl rfl rfl ((if_neg NO.out).symm) ((decide_eq_false NO.out).symm)
set_option maxHeartbeats 1600000 in
theorem rsgo_any (s : Su.S) (W : World) : Calls Try.prog 46 #[suV s] W (SuPost W (Su.go s) (decide (Su.goes s))) := by
  obtain ⟨g, W1, hW, hg, r0⟩ := su_two 29 29 W s
  obtain ⟨b, hb⟩ : ∃ b, b = decide (Su.Right s) := ⟨_, rfl⟩
  have CR := Lib.hid (fun W => rsright_is (s := s) (b := b) (by rw [hb]; simp) W)
  have HR : Hid (b = true ↔ Su.Right s) := by rw [hb]; show _ ↔ _; simp
  have HW := Lib.hid hW
  have HG := Lib.hid hg
  have R := Lib.hid r0
  have c := Lib.hid r0.a.cells
  clear hb hW hg r0
  unfold suV suC at *
  go_enter Try.func46, Try.ntmps46
  go_upto_region 1 with fail
  rw [← HW.out, ← HG.out]
  obtain ⟨c0, c1, c2, c3, cl⟩ := c.out
  go_upto_region 2 with (go_at_call 57; (with_reducible refine (CR.out _).mono ?_); rintro e w2 ⟨rfl, hb⟩; replace R := Lib.hid (R.out.on hb); clear hb)
  clear c0 c1 c2 c3 cl c CR HW HG
  obtain ⟨c0, c1, c2, c3, cl⟩ := R.out.a.cells
  obtain ⟨z0, z1, z2, z3, zl⟩ := R.out.r.cells
  obtain ⟨f0, f1, f2, f3⟩ := R.out.a.fz
  obtain ⟨k0, k1, k2, k3⟩ := R.out.r.fz
  obtain ⟨st, v, wa, sq⟩ := s
  simp only at c0 c1 c2 c3
  cases b with
  | false =>
    have NO : Hid (¬ Su.goes ⟨st, v, wa, sq⟩) := fun h => by have := HR.out.2 h.1; cases this
    go_wp2_with fail
    exact su_ret Try.results46 Try.underlying29 (by kernel_rfl) (R.out.fill st v wa sq) rfl rfl rfl ((if_neg NO.out).symm) ((decide_eq_false NO.out).symm)
  | true =>
    have RT : Hid (Su.Right ⟨st, v, wa, sq⟩) := HR.out.1 rfl
    by_cases h0 : st = 0
    · subst h0
      by_cases w0 : wa = 0
      · subst w0
        have NO : Hid (¬ Su.goes ⟨0, v, 0, sq⟩) := fun h => by have := h.2; simp at this
        go_wp2_with fail
        exact su_ret Try.results46 Try.underlying29 (by kernel_rfl) (R.out.fill 0 v 0 sq) rfl rfl rfl ((if_neg NO.out).symm) ((decide_eq_false NO.out).symm)
      · have YES : Hid (Su.goes ⟨0, v, wa, sq⟩) := ⟨RT.out, .inl ⟨rfl, w0⟩⟩
        have h1 : (wa == 0) = false := by simpa using w0
        go_wp2_with fail
        exact su_ret Try.results46 Try.underlying29 (by kernel_rfl) (((R.out.s0 1).s1 wa).fill 1 wa wa sq) rfl rfl rfl ((if_pos YES.out).symm) ((decide_eq_true YES.out).symm)
    · have n0 : (st == 0) = false := by simpa using h0
      by_cases h1 : st = 1
      · subst h1
        have YES : Hid (Su.goes ⟨1, v, wa, sq⟩) := ⟨RT.out, .inr (.inl rfl)⟩
        go_wp2_with fail
        exact su_ret Try.results46 Try.underlying29 (by kernel_rfl) ((R.out.s0 2).fill 2 v wa sq) rfl rfl rfl ((if_pos YES.out).symm) ((decide_eq_true YES.out).symm)
      · have n1 : (st == 1) = false := by simpa using h1
        by_cases h4 : st = 4
        · subst h4
          have YES : Hid (Su.goes ⟨4, v, wa, sq⟩) := ⟨RT.out, .inr (.inr rfl)⟩
          go_wp2_with fail
          exact su_ret Try.results46 Try.underlying29 (by kernel_rfl) (((R.out.s0 0).s1 0).fill 0 0 wa sq) rfl rfl rfl ((if_pos YES.out).symm) ((decide_eq_true YES.out).symm)
        · have n4 : (st == 4) = false := by simpa using h4
          have NO : Hid (¬ Su.goes ⟨st, v, wa, sq⟩) := fun h => by have := h.2; simp only at this; omega
          go_wp2_with fail
          exact su_ret Try.results46 Try.underlying29 (by kernel_rfl) (R.out.fill st v wa sq) rfl rfl rfl ((if_neg NO.out).symm) ((decide_eq_false NO.out).symm)
set_option maxHeartbeats 1600000 in
theorem rswant_any (s : Su.S) (n q : Int) (W : World) : Calls Try.prog 45 #[suV s, .int .i64 n, .int .i64 q] W (SuPost W (Su.want s n q) (decide (Su.takes s n q))) := by
  obtain ⟨g, W1, hW, hg, r0⟩ := su_two 29 29 W s
  obtain ⟨b, hb⟩ : ∃ b, b = decide (Su.Right s) := ⟨_, rfl⟩
  have CR := Lib.hid (fun W => rsright_is (s := s) (b := b) (by rw [hb]; simp) W)
  have HR : Hid (b = true ↔ Su.Right s) := by rw [hb]; show _ ↔ _; simp
  have HW := Lib.hid hW
  have HG := Lib.hid hg
  have R := Lib.hid r0
  have c := Lib.hid r0.a.cells
  clear hb hW hg r0
  unfold suV suC at *
  go_enter Try.func45, Try.ntmps45
  go_upto_region 1 with fail
  rw [← HW.out, ← HG.out]
  obtain ⟨c0, c1, c2, c3, cl⟩ := c.out
  go_upto_region 2 with (go_at_call 57; (with_reducible refine (CR.out _).mono ?_); rintro e w2 ⟨rfl, hb⟩; replace R := Lib.hid (R.out.on hb); clear hb)
  clear c0 c1 c2 c3 cl c CR HW HG
  obtain ⟨c0, c1, c2, c3, cl⟩ := R.out.a.cells
  obtain ⟨z0, z1, z2, z3, zl⟩ := R.out.r.cells
  obtain ⟨f0, f1, f2, f3⟩ := R.out.a.fz
  obtain ⟨k0, k1, k2, k3⟩ := R.out.r.fz
  obtain ⟨st, v, wa, sq⟩ := s
  simp only at c0 c1 c2 c3
  cases b with
  | false =>
    have NO : Hid (¬ Su.takes ⟨st, v, wa, sq⟩ n q) := fun h => by have := HR.out.2 h.1; cases this
    go_wp2_with fail
    exact su_ret Try.results45 Try.underlying29 (by kernel_rfl) (R.out.fill st v wa sq) rfl rfl rfl ((if_neg NO.out).symm) ((decide_eq_false NO.out).symm)
  | true =>
    have RT : Hid (Su.Right ⟨st, v, wa, sq⟩) := HR.out.1 rfl
    by_cases h0 : n < 0
    · have NO : Hid (¬ Su.takes ⟨st, v, wa, sq⟩ n q) := fun h => by have := h.2.1; omega
      go_wp2_with fail
      exact su_ret Try.results45 Try.underlying29 (by kernel_rfl) (R.out.fill st v wa sq) rfl rfl rfl ((if_neg NO.out).symm) ((decide_eq_false NO.out).symm)
    · by_cases h1 : q ≤ sq
      · have NO : Hid (¬ Su.takes ⟨st, v, wa, sq⟩ n q) := fun h => by have := h.2.2; simp only at this; omega
        go_wp2_with fail
        exact su_ret Try.results45 Try.underlying29 (by kernel_rfl) (R.out.fill st v wa sq) rfl rfl rfl ((if_neg NO.out).symm) ((decide_eq_false NO.out).symm)
      · have YES : Hid (Su.takes ⟨st, v, wa, sq⟩ n q) := ⟨RT.out, by omega, by show sq < q; omega⟩
        have EW := Lib.hid (Su.want_yes YES.out)
        by_cases h2 : st < 1
        · have E2 : Hid ((if 1 ≤ st ∧ st ≤ 3 ∧ v ≠ n then (4 : Int) else st) = st) := if_neg (by omega)
          go_wp2_with fail
          exact su_ret Try.results45 Try.underlying29 (by kernel_rfl) (((R.out.s2 n).s3 q).fill st v n q) rfl rfl rfl (by rw [EW.out, E2.out]) ((decide_eq_true YES.out).symm)
        · by_cases h3 : 3 < st
          · have E2 : Hid ((if 1 ≤ st ∧ st ≤ 3 ∧ v ≠ n then (4 : Int) else st) = st) := if_neg (by omega)
            go_wp2_with fail
            exact su_ret Try.results45 Try.underlying29 (by kernel_rfl) (((R.out.s2 n).s3 q).fill st v n q) rfl rfl rfl (by rw [EW.out, E2.out]) ((decide_eq_true YES.out).symm)
          · by_cases h4 : v = n
            · subst h4
              have E2 : Hid ((if 1 ≤ st ∧ st ≤ 3 ∧ v ≠ v then (4 : Int) else st) = st) := if_neg (by omega)
              go_wp2_with fail
              exact su_ret Try.results45 Try.underlying29 (by kernel_rfl) (((R.out.s2 v).s3 q).fill st v v q) rfl rfl rfl (by rw [EW.out, E2.out]) ((decide_eq_true YES.out).symm)
            · have h5 : (v != n) = true := by simpa using h4
              have E2 : Hid ((if 1 ≤ st ∧ st ≤ 3 ∧ v ≠ n then (4 : Int) else st) = 4) := if_pos (by omega)
              go_wp2_with fail
              exact su_ret Try.results45 Try.underlying29 (by kernel_rfl) ((((R.out.s2 n).s3 q).s0 4).fill 4 v n q) rfl rfl rfl (by rw [EW.out, E2.out]) ((decide_eq_true YES.out).symm)
end Go.Proofs.Ytgljepjflpijiaa
