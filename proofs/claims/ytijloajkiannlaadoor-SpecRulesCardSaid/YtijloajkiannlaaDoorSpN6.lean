/-
  The developers' package spec: its steps and its budget.
-/
import Derived.Test.YtijloajkiannlaaDoorSpN1
import Derived.Test.YtijloajkiannlaaDoorSpRef7
import Derived.Lib.MinMax
namespace Go.Proofs.YtijloajkiannlaaDoor
open Go.RowKit
set_option linter.unusedSimpArgs false
set_option linter.unusedVariables false

theorem nwithin_any (n lo hi : Int) (w : World) :
    Calls Tryd.prog 53 #[.int .i64 n, .int .i64 lo, .int .i64 hi] w fun e w' => e = .returned (.int .i64 (max lo (min n hi))) ∧ w = w' := by
  go_enter Tryd.func53, Tryd.ntmps53
  go_wp2_with fail
  all_goals (go_ret; exact ⟨ret_int (by omega), rfl⟩)
theorem ncut_any (n : Int) (w : World) :
    Calls Tryd.prog 46 #[.int .i64 n] w fun e w' => e = .returned (.int .i64 (Spc.cutc n)) ∧ w = w' := by
  go_enter Tryd.func46, Tryd.ntmps46
  go_wp2_with fail
  refine (nwithin_any n 0 1048576 w).mono ?_
  rintro e w' ⟨rfl, rfl⟩
  go_wp2_with fail
  go_ret
  exact ⟨rfl, rfl⟩
theorem nreq_any (d m : Int) (w : World) :
    Calls Tryd.prog 45 #[.int .i64 d, .int .i64 m] w fun e w' => e = .returned (.int .i64 (max 0 (Spc.cutc d - Spc.cutc m))) ∧ w = w' := by
  obtain ⟨a1, a2⟩ := cutc_in d
  obtain ⟨b1, b2⟩ := cutc_in m
  go_enter Tryd.func45, Tryd.ntmps45
  go_wp2_with ((with_reducible refine (ncut_any _ _).mono ?_); rintro e w' ⟨rfl, rfl⟩)
  all_goals (go_ret; exact ⟨ret_int (by omega), rfl⟩)
theorem cutc_zero : Spc.cutc 0 = 0 := by unfold Spc.cutc; omega
theorem nneed_any (d m : Int) (w : World) :
    Calls Tryd.prog 32 #[.int .i64 0, .int .i64 d, .int .i64 m] w fun e w' => e = .returned (.int .i64 (max (Spc.cutc d - Spc.cutc m) 0)) ∧ w = w' := by
  have a0 := cutc_zero
  obtain ⟨a1, a2⟩ := cutc_in d
  obtain ⟨b1, b2⟩ := cutc_in m
  have hz := ncut_any 0 w
  rw [a0] at hz
  go_enter Tryd.func32, Tryd.ntmps32
  go_wp2_with (first | ((with_reducible refine hz.mono ?_); rintro e w' ⟨rfl, rfl⟩) | ((with_reducible refine (nreq_any _ _ _).mono ?_); rintro e w' ⟨rfl, rfl⟩))
  all_goals (go_ret; exact ⟨ret_int (by omega), rfl⟩)
theorem nroom_any (d m : Int) (w : World) :
    Calls Tryd.prog 33 #[.int .i64 0, .int .i64 d, .int .i64 m] w fun e w' => e = .returned (.int .i64 (Spc.cutc d + Spc.cutc m)) ∧ w = w' := by
  have a0 := cutc_zero
  obtain ⟨b1, b2⟩ := cutc_in d
  obtain ⟨c1, c2⟩ := cutc_in m
  have hz := ncut_any 0 w
  rw [a0] at hz
  go_enter Tryd.func33, Tryd.ntmps33
  go_wp2_with (first | ((with_reducible refine hz.mono ?_); rintro e w' ⟨rfl, rfl⟩) | ((with_reducible refine (ncut_any _ _).mono ?_); rintro e w' ⟨rfl, rfl⟩))
  all_goals (go_ret; exact ⟨ret_int (by omega), rfl⟩)
set_option maxHeartbeats 1600000 in
theorem budget_any (s : Spc.Sp) (w : World) : Calls Tryd.prog 17 #[Spc.val s] w (APos w (.tuple #[.int .i64 (Spc.low s), .int .i64 (Spc.high s)])) := by
  have hb := (Below.refl w.heap.size w).alloc (Nat.le_refl _) (.cells (Spc.cells s) 25)
  have A1 := Lib.hid (spAt_of (heap_alloc_new w (.cells (Spc.cells s) 25)))
  have B1 := Lib.hid hb
  have HL : Hid (Spc.low s = max (Spc.cutc s.d - Spc.cutc s.n) 0) := rfl
  have HH : Hid (Spc.high s = Spc.cutc s.d + Spc.cutc s.u) := rfl
  have C1 : Hid (∀ W, Calls Tryd.prog 32 #[.int .i64 0, .int .i64 s.d, .int .i64 s.n] W fun e w' => e = .returned (.int .i64 (Spc.low s)) ∧ w' = W) := fun W => same_of (by rw [HL.out]; exact nneed_any s.d s.n W)
  have C2 : Hid (∀ W, Calls Tryd.prog 33 #[.int .i64 0, .int .i64 s.d, .int .i64 s.u] W fun e w' => e = .returned (.int .i64 (Spc.high s)) ∧ w' = W) := fun W => same_of (by rw [HH.out]; exact nroom_any s.d s.u W)
  clear HL HH
  obtain ⟨f0, f1, f2, f3, f4, f5, f6, f7, f8, f9, f10, f11⟩ := A1.out
  clear hb
  unfold Spc.val at *
  unfold Spc.cells at *
  generalize Spc.low s = x at *
  generalize Spc.high s = y at *
  go_enter Tryd.func17, Tryd.ntmps17
  go_wp2_with fail
  generalize w.alloc (.cells #[.int .i64 s.v, .int .i64 s.d, .int .i64 s.u, .int .i64 s.n, .int .i64 s.g, .int .i64 s.a, .int .i64 s.b, .int .i64 s.c, .int .i64 s.e, .int .i64 s.w, .int .i64 s.x, .int .i64 s.k] 25) = w1 at *
  go_quiet (first | (go_at_call 32; exact Calls.quiet_of_same (C1.out _)) | (go_at_call 33; exact Calls.quiet_of_same (C2.out _)))
  go_wp2_with fail
  go_ret2
  exact ⟨rfl, Below.drewN B1.out _⟩
theorem arr_int : Tryd.prog.underlying 23 = some (.array 4 3) := by kernel_rfl
/-- The step at place j, taken out of their array. -/
theorem steps_run (s : Spc.Sp) (j : Nat) (hj : j < 4) (W : World) : (Instr.index 23 (.agg #[.int .i64 s.a, .int .i64 s.b, .int .i64 s.c, .int .i64 s.e]) (.int .i64 (j : Nat))).run Tryd.prog W = .ok (.int .i64 (Spc.at_ s j)) W := by
  have h1 : (0 : Int) ≤ (j : Nat) ∧ ((j : Nat) : Int) < ((4 : Nat) : Int) := by omega
  have hp : (#[.int .i64 s.a, .int .i64 s.b, .int .i64 s.c, .int .i64 s.e] : Array Value)[j]? = some (.int .i64 (Spc.at_ s j)) := by
    rcases j with _ | _ | _ | _ | j <;> first | rfl | omega
  generalize (#[.int .i64 s.a, .int .i64 s.b, .int .i64 s.c, .int .i64 s.e] : Array Value) = cs at *
  simp [Instr.index, run_underlying arr_int, asIntOf, part, isAgg, run_underlying Tryd.underlying3, h1, hp, go_sem]
  intro h; omega
set_option maxHeartbeats 1600000 in
theorem steps_any (s : Spc.Sp) (w : World) : Calls Tryd.prog 18 #[Spc.val s] w fun e w' => ∃ A c, e = .returned (.slice A (Spc.steps s).length c) ∧ OwnI w' w.heap.size (.slice A (Spc.steps s).length c) (Spc.steps s) ∧ Below w.heap.size w w' := by
  have hb := (Below.refl w.heap.size w).alloc (Nat.le_refl _) (.cells (Spc.cells s) 25)
  have A1 := Lib.hid (spAt_of (heap_alloc_new w (.cells (Spc.cells s) 25)))
  have B1 := Lib.hid hb
  obtain ⟨f0, f1, f2, f3, f4, f5, f6, f7, f8, f9, f10, f11⟩ := A1.out
  clear hb
  unfold Spc.val at *
  unfold Spc.cells at *
  go_enter Tryd.func18, Tryd.ntmps18
  go_wp2_with fail
  generalize w.alloc (.cells #[.int .i64 s.v, .int .i64 s.d, .int .i64 s.u, .int .i64 s.n, .int .i64 s.g, .int .i64 s.a, .int .i64 s.b, .int .i64 s.c, .int .i64 s.e, .int .i64 s.w, .int .i64 s.x, .int .i64 s.k] 25) = w1 at *
  clear f0 f1 f2 f3 f4 f5 f6 f7 f8 f9 f10 f11 A1
  go_loopw [3, 8] (fun v i wr => ∃ (j : Nat) (l : List Int), j ≤ 4 ∧ i = .int .i64 (j : Nat) ∧ l = [s.a, s.b, s.c, s.e].take j ∧ (∀ m, m < j → Spc.at_ s m ≠ 0) ∧ OwnI wr w1.heap.size v l ∧ Below w1.heap.size w1 wr) (fun _ i _ => 4 - (intOf i).toNat)
  case atStart => exact ⟨0, [], by omega, rfl, rfl, fun m hm => absurd hm (by omega), World.ownsRow_nil _ _ _ _, Below.refl _ _⟩
  case round =>
    obtain ⟨j, l, hj, rfl, hl, hnz, ho, hbr⟩ := hrel
    have O := Lib.hid ho
    have B := Lib.hid hbr
    have HL := Lib.hid hl
    have NZ := Lib.hid hnz
    have hll : l.length ≤ 4 := by rw [hl, List.length_take]; simp; omega
    have hbase := hbr.size
    have fin : Spc.steps s = l → ∃ A c, u3 = .slice A (Spc.steps s).length c ∧ OwnI wr w.heap.size (.slice A (Spc.steps s).length c) (Spc.steps s) ∧ Below w.heap.size w wr := fun e => by
      obtain ⟨A', c', ev, _⟩ := O.out.sl
      rw [e, ev]
      exact ⟨A', c', rfl, own_lower (by rw [← ev]; exact O.out) B1.out.size, B1.out.trans (B.out.mono B1.out.size)⟩
    have FIN := Lib.hid fin
    clear ho hbr hl hnz fin
    by_cases hlt : j < 4
    · have hpj := fun W => steps_run s j hlt W
      have i1 : (0 : Int) ≤ (j : Int) := by omega
      have i2 : (j : Int) < 4 := by omega
      obtain ⟨x, hx⟩ : ∃ x, x = Spc.at_ s j := ⟨_, rfl⟩
      rw [← hx] at hpj
      by_cases h0 : x = 0
      · have hxb : (x == 0) = true := by rw [h0]; rfl
        have E := Lib.hid (FIN.out (by rw [HL.out]; exact steps_at (j := j) (by omega) NZ.out (.inr (by rw [← hx]; exact h0))))
        clear h0 hx
        go_wp2_with fail
        go_ret
        obtain ⟨A', c', ev, h1, h2⟩ := E.out
        exact ⟨A', c', by rw [← ev]; rfl, h1, h2⟩
      · have hxb : (x == 0) = false := by rw [beq_eq_false_iff_ne]; exact h0
        have NX : Hid (∀ m, m < j + 1 → Spc.at_ s m ≠ 0) := fun m hm => by
          rcases Nat.lt_or_ge m j with h | h
          · exact NZ.out m h
          · rw [show m = j by omega, ← hx]; exact h0
        have HN : Hid (l ++ [x] = [s.a, s.b, s.c, s.e].take (j + 1)) := by
          show _ = _
          rw [HL.out, hx]
          rcases j with _ | _ | _ | _ | j <;> first | rfl | omega
        clear h0 hx
        go_wp2_with (at_builtin; refine wpList_append_num rfl (.tmp 13) (.tmp 15) rfl w1.heap.size _ l rfl O.out _ rfl (by omega) hbase ?_; intro v3 w3 ho3 hg3; have O3 := Lib.hid ho3; have B3 := Lib.hid (B.out.grown hg3 hbase (own_base O.out)); clear ho3 hg3)
        exact ⟨⟨j + 1, l ++ [x], by omega, by go_num, HN.out, NX.out, O3.out, B3.out⟩, by simp [intOf]; omega⟩
    · obtain rfl : j = 4 := by omega
      have E := Lib.hid (FIN.out (by rw [HL.out]; exact steps_at (j := 4) (by omega) NZ.out (.inl rfl)))
      go_wp2_with fail
      go_ret
      obtain ⟨A', c', ev, h1, h2⟩ := E.out
      exact ⟨A', c', by rw [← ev]; rfl, h1, h2⟩
end Go.Proofs.YtijloajkiannlaaDoor
