/-
  Package slot: what changes a slot in memory. No condition.
-/
import Derived.Test.YtgljepjflpijiaaSuMem
namespace Go.Proofs.Ytgljepjflpijiaa
open Go.RowKit Go.Deep
set_option linter.unusedSimpArgs false
set_option linter.unusedVariables false

theorem su_min3 {v wa sq m : Int} (h : min (min v wa) sq = m) (w : World) (ts : Array TypeId) (t : TypeId) : (Builtin.min_ ts t #[.int .i64 v, .int .i64 wa, .int .i64 sq]).run Try.prog w = .ok (.int .i64 m) w := by
  have e1 : (if wa < v then wa else v) = min v wa := by
    rw [Int.min_def]
    split <;> split <;> omega
  have e2 : (if sq < min v wa then sq else min v wa) = m := by
    rw [← h, Int.min_def (min v wa) sq]
    split <;> split <;> omega
  simp [Builtin.min_, Builtin.min2, e1, e2]
theorem sdstate_is {n : Int} {b : Bool} (hb : b = true ↔ 0 ≤ n ∧ n < 5) (W : World) : Calls Try.prog 70 #[.int .i64 n] W (fun e w' => e = .returned (.bool b) ∧ w' = W) := by
  by_cases h : n < 0
  · obtain rfl : b = false := by rw [Bool.eq_false_iff]; intro e; have := hb.1 e; omega
    clear hb
    go_enter Try.func70, Try.ntmps70
    go_wp2_with fail
    go_ret
    exact ⟨rfl, rfl⟩
  · have e : decide (n < 5) = b := by rw [Bool.eq_iff_iff, hb]; simp; omega
    clear hb
    go_enter Try.func70, Try.ntmps70
    go_wp2_with fail
    go_ret
    exact ⟨rfl, rfl⟩
set_option maxHeartbeats 1600000 in
theorem sdright_is {s : Su.S} {b : Bool} (hb : b = true ↔ Su.Right s) (W : World) : Calls Try.prog 58 #[suV s] W (fun e w' => e = .returned (.bool b) ∧ Below W.heap.size W w') := by
  have B1 := Lib.hid ((Below.refl W.heap.size W).alloc (Nat.le_refl _) (.cells (suC s) 46))
  obtain ⟨st, v, wa, sq⟩ := s
  unfold Su.Right at hb
  simp only at *
  have HB := Lib.hid hb
  clear hb
  by_cases h : 0 ≤ st ∧ st < 5
  · have CS := Lib.hid (fun W => sdstate_is (n := st) (b := true) (by simp [h]) W)
    obtain ⟨m, hm⟩ : ∃ m, min (min v wa) sq = m := ⟨_, rfl⟩
    have M3 := su_min3 hm
    have hm1 : m < 0 ↔ v < 0 ∨ wa < 0 ∨ sq < 0 := by rw [← hm]; omega
    have HM := Lib.hid hm1
    clear hm hm1
    by_cases h2 : m < 0
    · obtain rfl : b = false := by rw [Bool.eq_false_iff]; intro e; have := HB.out.1 e; have := HM.out.1 h2; omega
      go_enter Try.func58, Try.ntmps58
      go_wp2_with (go_at_call 70; (with_reducible refine (CS.out _).mono ?_); rintro e w2 ⟨rfl, rfl⟩)
      go_ret
      exact ⟨rfl, B1.out⟩
    · have e : (((v != 0) == (st != 0)) = b) := by
        have h3 : ¬ (v < 0 ∨ wa < 0 ∨ sq < 0) := fun x => h2 (HM.out.2 x)
        rw [Bool.eq_iff_iff, HB.out]
        have e1 : (v != 0) = decide (v ≠ 0) := by by_cases v0 : v = 0 <;> simp [v0]
        have e2 : (st != 0) = decide (st ≠ 0) := by by_cases s0 : st = 0 <;> simp [s0]
        rw [e1, e2]
        by_cases v0 : v = 0 <;> by_cases s0 : st = 0 <;> simp [v0, s0] <;> omega
      clear h
      go_enter Try.func58, Try.ntmps58
      go_wp2_with (go_at_call 70; (with_reducible refine (CS.out _).mono ?_); rintro e w2 ⟨rfl, rfl⟩)
      go_ret
      exact ⟨rfl, B1.out⟩
  · have CS := Lib.hid (fun W => sdstate_is (n := st) (b := false) (by simp; omega) W)
    obtain rfl : b = false := by rw [Bool.eq_false_iff]; intro e; have := HB.out.1 e; omega
    clear h
    go_enter Try.func58, Try.ntmps58
    go_wp2_with (go_at_call 70; (with_reducible refine (CS.out _).mono ?_); rintro e w2 ⟨rfl, rfl⟩)
    go_ret
    exact ⟨rfl, B1.out⟩
/-! Changes in memory. -/
theorem su_grown {T : TypeId} {w : World} {q : Nat} {s : Su.S} (h : SuAt T w q s) : SuAt T w q s ∧ w.grownBy w (some q) := ⟨h, rfl, rfl, rfl, Nat.le_refl _, fun _ _ _ => rfl⟩
/-- A slot in memory, turned since w. -/
structure Su1 (T : TypeId) (w w' : World) (q : Nat) (s : Su.S) : Prop where
  a : SuAt T w' q s
  g : w.grownBy w' (some q)
section
variable {T : TypeId} {w w' w2 : World} {q : Nat} {s : Su.S}
theorem Su1.refl (h : SuAt T w q s) : Su1 T w w q s := ⟨h, rfl, rfl, rfl, Nat.le_refl _, fun _ _ _ => rfl⟩
theorem Su1.s0 (h : Su1 T w w' q s) (x : Int) : Su1 T w (w'.setCell ⟨q, 0, none⟩ (.int .i64 x)) q ⟨x, s.v, s.wa, s.sq⟩ := ⟨h.a.set0 x, grown_trans h.g (grown_set _ _ _ _)⟩
theorem Su1.s1 (h : Su1 T w w' q s) (x : Int) : Su1 T w (w'.setCell ⟨q, 1, none⟩ (.int .i64 x)) q ⟨s.st, x, s.wa, s.sq⟩ := ⟨h.a.set1 x, grown_trans h.g (grown_set _ _ _ _)⟩
theorem Su1.s2 (h : Su1 T w w' q s) (x : Int) : Su1 T w (w'.setCell ⟨q, 2, none⟩ (.int .i64 x)) q ⟨s.st, s.v, x, s.sq⟩ := ⟨h.a.set2 x, grown_trans h.g (grown_set _ _ _ _)⟩
theorem Su1.s3 (h : Su1 T w w' q s) (x : Int) : Su1 T w (w'.setCell ⟨q, 3, none⟩ (.int .i64 x)) q ⟨s.st, s.v, s.wa, x⟩ := ⟨h.a.set3 x, grown_trans h.g (grown_set _ _ _ _)⟩
theorem Su1.on (h : Su1 T w w' q s) (hb : Below w'.heap.size w' w2) : Su1 T w w2 q s := ⟨h.a.on hb, grown_trans h.g (grown_below _ hb)⟩
theorem Su1.drewN (h : Su1 T w w' q s) (n : Nat) : Su1 T w (w'.drewN n) q s := h.on (Below.drewN (Below.refl _ _) n)
theorem Su1.drew (h : Su1 T w w' q s) : Su1 T w w'.drew q s := h.on (Below.refl _ _).drew
end
theorem sdstop_any (W : World) (g : Nat) (s : Su.S) (h : SuAt 46 W g s) : Calls Try.prog 53 #[.pointer (some ⟨g, 0, none⟩)] W (SuCh W g ⟨0, 0, s.wa, s.sq⟩) := by
  obtain ⟨c0, c1, c2, c3, cl⟩ := h.cells
  obtain ⟨f0, f1, f2, f3⟩ := h.fz
  have R := Lib.hid (Su1.refl h)
  clear h
  go_enter Try.func53, Try.ntmps53
  go_wp2_with fail
  go_end0
  have E := (R.out.s0 0).s1 0
  exact ⟨rfl, E.a, E.g⟩
theorem sdhurt_any (W : World) (g : Nat) (s : Su.S) (hr : Su.Right s) (h : SuAt 46 W g s) : Calls Try.prog 55 #[.pointer (some ⟨g, 0, none⟩)] W (SuCh W g (Su.turn s 2 3)) := by
  obtain ⟨c0, c1, c2, c3, cl⟩ := h.cells
  obtain ⟨f0, f1, f2, f3⟩ := h.fz
  have R := Lib.hid (Su1.refl h)
  have HR := Lib.hid hr
  clear h hr
  obtain ⟨st, v, wa, sq⟩ := s
  simp only at *
  by_cases h0 : st = 2
  · subst h0
    have E1 : Hid (Su.turn ⟨2, v, wa, sq⟩ 2 3 = ⟨3, v, wa, sq⟩) := if_pos ⟨HR.out, rfl⟩
    rw [E1.out]
    go_enter Try.func55, Try.ntmps55
    go_wp2_with fail
    go_end0
    exact ⟨rfl, (R.out.s0 3).a, (R.out.s0 3).g⟩
  · have E1 : Hid (Su.turn ⟨st, v, wa, sq⟩ 2 3 = ⟨st, v, wa, sq⟩) := if_neg (fun h => h0 h.2)
    rw [E1.out]
    have h1 : (st == 2) = false := by simpa using h0
    go_enter Try.func55, Try.ntmps55
    go_wp2_with fail
    go_end0
    exact ⟨rfl, R.out.a, R.out.g⟩
theorem sdheal_any (W : World) (g : Nat) (s : Su.S) (hr : Su.Right s) (h : SuAt 46 W g s) : Calls Try.prog 56 #[.pointer (some ⟨g, 0, none⟩)] W (SuCh W g (Su.turn s 3 2)) := by
  obtain ⟨c0, c1, c2, c3, cl⟩ := h.cells
  obtain ⟨f0, f1, f2, f3⟩ := h.fz
  have R := Lib.hid (Su1.refl h)
  have HR := Lib.hid hr
  clear h hr
  obtain ⟨st, v, wa, sq⟩ := s
  simp only at *
  by_cases h0 : st = 3
  · subst h0
    have E1 : Hid (Su.turn ⟨3, v, wa, sq⟩ 3 2 = ⟨2, v, wa, sq⟩) := if_pos ⟨HR.out, rfl⟩
    rw [E1.out]
    go_enter Try.func56, Try.ntmps56
    go_wp2_with fail
    go_end0
    exact ⟨rfl, (R.out.s0 2).a, (R.out.s0 2).g⟩
  · have E1 : Hid (Su.turn ⟨st, v, wa, sq⟩ 3 2 = ⟨st, v, wa, sq⟩) := if_neg (fun h => h0 h.2)
    rw [E1.out]
    have h1 : (st == 3) = false := by simpa using h0
    go_enter Try.func56, Try.ntmps56
    go_wp2_with fail
    go_end0
    exact ⟨rfl, R.out.a, R.out.g⟩
set_option maxHeartbeats 1600000 in
theorem sdgoon_any (W : World) (g : Nat) (s : Su.S) (hr : Su.Right s) (h : SuAt 46 W g s) : Calls Try.prog 54 #[.pointer (some ⟨g, 0, none⟩)] W (SuCh W g (Su.go s)) := by
  have CS := Lib.hid (sdstop_any W g s h)
  obtain ⟨c0, c1, c2, c3, cl⟩ := h.cells
  obtain ⟨f0, f1, f2, f3⟩ := h.fz
  have R := Lib.hid (Su1.refl h)
  have HR := Lib.hid hr
  clear h hr
  obtain ⟨st, v, wa, sq⟩ := s
  simp only at *
  by_cases h0 : st = 0
  · subst h0
    by_cases w0 : 0 < wa
    · have E1 : Hid (Su.go ⟨0, v, wa, sq⟩ = ⟨1, wa, wa, sq⟩) := by show _ = _; unfold Su.go; rw [if_pos ⟨HR.out, .inl ⟨rfl, by show wa ≠ 0; omega⟩⟩, if_pos rfl]
      rw [E1.out]
      go_enter Try.func54, Try.ntmps54
      go_wp2_with fail
      go_end0
      have E := (R.out.s0 1).s1 wa
      exact ⟨rfl, E.a, E.g⟩
    · have E1 : Hid (Su.go ⟨0, v, wa, sq⟩ = ⟨0, v, wa, sq⟩) := if_neg (fun h => by have h1 := HR.out.2.2.2.1; have := h.2; simp only at this h1; omega)
      rw [E1.out]
      go_enter Try.func54, Try.ntmps54
      go_wp2_with fail
      go_end0
      exact ⟨rfl, R.out.a, R.out.g⟩
  · have n0 : (st == 0) = false := by simpa using h0
    by_cases h1 : st = 1
    · subst h1
      have E1 : Hid (Su.go ⟨1, v, wa, sq⟩ = ⟨2, v, wa, sq⟩) := by show _ = _; unfold Su.go; rw [if_pos ⟨HR.out, .inr (.inl rfl)⟩, if_neg (by simp), if_pos rfl]
      rw [E1.out]
      go_enter Try.func54, Try.ntmps54
      go_wp2_with fail
      go_end0
      exact ⟨rfl, (R.out.s0 2).a, (R.out.s0 2).g⟩
    · have n1 : (st == 1) = false := by simpa using h1
      by_cases h4 : st = 4
      · subst h4
        have E1 : Hid (Su.go ⟨4, v, wa, sq⟩ = ⟨0, 0, wa, sq⟩) := by show _ = _; unfold Su.go; rw [if_pos ⟨HR.out, .inr (.inr rfl)⟩, if_neg (by simp), if_neg (by simp)]
        rw [E1.out]
        go_enter Try.func54, Try.ntmps54
        go_wp2_with (go_at_call 53; (with_reducible refine CS.out.mono ?_); rintro e w2 ⟨rfl, ha, hg⟩; have HA := Lib.hid ha; have HG := Lib.hid hg; clear ha hg)
        go_end0
        exact ⟨rfl, HA.out, HG.out⟩
      · have n4 : (st == 4) = false := by simpa using h4
        have E1 : Hid (Su.go ⟨st, v, wa, sq⟩ = ⟨st, v, wa, sq⟩) := if_neg (fun h => by have := h.2; simp only at this; omega)
        rw [E1.out]
        go_enter Try.func54, Try.ntmps54
        go_wp2_with fail
        go_end0
        exact ⟨rfl, R.out.a, R.out.g⟩
end Go.Proofs.Ytgljepjflpijiaa
