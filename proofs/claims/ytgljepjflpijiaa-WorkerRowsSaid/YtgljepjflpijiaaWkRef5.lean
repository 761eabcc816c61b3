/-
  The document's worker (layer 16): Turn of a unit that isn't its own; Fall. No condition but that its numbers may be.
-/
import Derived.Test.YtgljepjflpijiaaWkRef4
namespace Go.Proofs.Ytgljepjflpijiaa
open Go.RowKit Go.Deep
set_option linter.unusedSimpArgs false
set_option linter.unusedVariables false
set_option maxRecDepth 100000

set_option maxHeartbeats 3200000 in
theorem rwturn_no {s : Wk.W} (u k : Int) (hm : 1 ≤ s.many ∧ s.many ≤ 16) (ho : ¬ Wk.own s u) (W : World) : Calls Try.prog 29 #[.agg (Wk.cells s), .int .i64 u, .int .i64 k] W (WkPost W s (.bool false)) := by
  obtain ⟨g, W1, hW, hg, r0⟩ := wk_two2 W s
  have HW := Lib.hid hW
  have HG := Lib.hid hg
  have R := Lib.hid r0
  have CO := Lib.hid (fun W => rwown_is (s := s) (u := u) (b := false) hm (by simp [ho]) W)
  have hz := wk_zero
  clear hW hg r0 hm ho
  go_enter Try.func29, Try.ntmps29
  go_upto_region 1 with fail
  rw [← HW.out, ← HG.out]
  go_wp2_with (first
    | ((with_reducible show wpList _ _ _ ({ dst := some 17, op := .load _ _, type := _, pos := _, after := _, guard := _ } :: _) _ _); refine wpList_load_wk rfl (.tmp 3) rfl rfl R.out.a ?_)
    | ((with_reducible show wpList _ _ _ ({ dst := some 22, op := .load _ _, type := _, pos := _, after := _, guard := _ } :: _) _ _); refine wpList_load_wk rfl (.tmp 3) rfl rfl R.out.a ?_)
    | (go_at_call 32; (with_reducible refine (CO.out _).mono ?_); rintro e w2 ⟨rfl, hb⟩; replace R := Lib.hid (R.out.on hb); clear hb)
    | ((with_reducible show wpList _ _ _ ({ dst := none, op := .store _ _ _, type := _, pos := _, after := _, guard := _ } :: _) _ _); refine wpList_store_wk rfl (.tmp 6) (.tmp 22) rfl rfl rfl R.out.r ?_))
  exact wk_ret Try.results29 (R.out.fill _) rfl rfl rfl
/-- Turn, of any unit. -/
theorem rwturn_any {s : Wk.W} (u k : Int) (hk : k = 1 ∨ k = 2 ∨ k = 3) (hm : 1 ≤ s.many ∧ s.many ≤ 16) (W : World) : Calls Try.prog 29 #[.agg (Wk.cells s), .int .i64 u, .int .i64 k] W (WkPost W (Wk.turnS s u k) (.bool (decide (Wk.turnB s u k)))) := by
  by_cases ho : Wk.own s u
  · obtain ⟨hj, hju⟩ := Wk.own_lt ho
    have h := rwturn_own (s := s) u.toNat hj k hk hm (by rw [hju]; exact ho) W
    rw [hju] at h
    rw [show Wk.turnS s u k = _ from if_pos ho, show decide (Wk.turnB s u k) = decide (Wk.turnP k (s.l u.toNat)) from by rw [Bool.eq_iff_iff]; simp [Wk.turnB, ho]]
    exact h
  · rw [show Wk.turnS s u k = s from if_neg ho, show decide (Wk.turnB s u k) = false from decide_eq_false (fun h => ho h.1)]
    exact rwturn_no u k hm ho W
set_option maxHeartbeats 6400000 in
theorem rwfall_any (s : Wk.W) (W : World) : Calls Try.prog 30 #[.agg (Wk.cells s)] W (WkPost W (Wk.fallS s) (.int .i64 (Wk.fallN s.l 16 : Nat))) := by
  obtain ⟨g, W1, hW, hg, r0⟩ := wk_two2 W s
  have HW := Lib.hid hW
  have HG := Lib.hid hg
  have R := Lib.hid r0
  have hz := wk_zero
  clear hW hg r0
  go_enter Try.func30, Try.ntmps30
  go_upto_region 1 with fail
  rw [← HW.out, ← HG.out]
  go_wp2_with fail
  go_loopw [4, 5] (fun n i wr => ∃ j : Nat, n = .int .i64 (Wk.fallN s.l j : Nat) ∧ i = .int .i64 j ∧ j ≤ 16 ∧ Wk2 W wr g ⟨s.n, s.many, s.seen, Wk.fallL s.l j⟩ Wk.zero) (fun _ i _ => 16 - (intOf i).toNat)
  case atStart => exact ⟨0, rfl, rfl, by omega, by rw [Wk.fallL_zero]; exact R.out⟩
  case round =>
    obtain ⟨j, rfl, rfl, hj, hr⟩ := hrel
    clear R
    have R := Lib.hid hr
    clear hr
    by_cases hlt : j < 16
    · obtain ⟨x, hx⟩ : ∃ x, x = s.l j := ⟨_, rfl⟩
      obtain ⟨y, hy⟩ : ∃ y, y = Su.fall x := ⟨_, rfl⟩
      obtain ⟨b, hb⟩ : ∃ b, b = decide (Su.falls x) := ⟨_, rfl⟩
      have CF : Hid (∀ W, Calls Try.prog 48 #[suV x] W (SuPost W y b)) := fun W => by rw [hy, hb]; exact rsfall_any x W
      have EL : Hid (Wk.fallL s.l (j + 1) = Wk.setL (Wk.fallL s.l j) j y) := by show _ = _; rw [Wk.fallL_next, Wk.fallL_at, hy, hx]
      have EN : Hid (Wk.fallN s.l (j + 1) = Wk.fallN s.l j + if b = true then 1 else 0) := by
        show Wk.fallN s.l j + (if Su.falls (s.l j) then 1 else 0) = _
        rw [hb, hx]
        simp
      have EX : Hid (Wk.fallL s.l j j = x) := by show _ = _; rw [Wk.fallL_at, hx]
      have hcb := Wk.fallN_le s.l j
      obtain ⟨c, hc⟩ : ∃ c, c = Wk.fallN s.l j := ⟨_, rfl⟩
      rw [← hc] at EN hcb ⊢
      clear hc hx hy hb
      have hw1 : wrap64 ((c : Int) + 1) = (c : Int) + 1 := IntWalk.wrap64_in _ ⟨by omega, by omega⟩
      have hw2 : wrap64 ((j : Int) + 1) = (j : Int) + 1 := IntWalk.wrap64_in _ ⟨by omega, by omega⟩
      have hj2 : (j : Int) < 16 := by omega
      obtain ⟨d0, d1, d2, d3⟩ := R.out.a.slot hlt
      simp only at d0 d1 d2 d3
      rw [EX.out] at d0 d1 d2 d3
      unfold suV suC at CF
      go_upto_region 6 with (go_at_call 48; (with_reducible refine (CF.out _).mono ?_); rintro e w2 ⟨rfl, hb⟩; replace R := Lib.hid (R.out.on hb); clear hb d0 d1 d2 d3)
      have Y := Lib.hid (SuAt.new 29 w2 y)
      have hb := (Below.refl w2.heap.size w2).alloc (Nat.le_refl _) (.cells (suC y) 29)
      replace R := Lib.hid (R.out.on hb)
      obtain ⟨gy, hgy⟩ : ∃ g, g = w2.heap.size := ⟨_, rfl⟩
      rw [← hgy] at Y ⊢
      clear hb hgy
      unfold suC at Y
      generalize w2.alloc (.cells #[.int .i64 y.st, .int .i64 y.v, .int .i64 y.wa, .int .i64 y.sq] 29) = w3 at *
      obtain ⟨o0, o1, o2, o3, ol⟩ := Y.out.cells
      obtain ⟨d0, d1, d2, d3⟩ := R.out.a.slot hlt
      have fz := R.out.a.fz
      have R7 := Lib.hid (R.out.put hlt y)
      have hg16 := R.out.a.cs.2.2.2
      cases b with
      | true =>
        go_wp2_with fail
        exact ⟨⟨j + 1, by rw [EN.out]; simp, by go_num, by omega, by rw [EL.out]; exact R7.out⟩, by simp [intOf]; omega⟩
      | false =>
        go_wp2_with fail
        exact ⟨⟨j + 1, by rw [EN.out]; simp, by go_num, by omega, by rw [EL.out]; exact R7.out⟩, by simp [intOf]; omega⟩
    · obtain rfl : j = 16 := by omega
      go_wp2_with (first
        | ((with_reducible show wpList _ _ _ ({ dst := some 27, op := .load _ _, type := _, pos := _, after := _, guard := _ } :: _) _ _); refine wpList_load_wk rfl (.tmp 1) rfl rfl R.out.a ?_)
        | ((with_reducible show wpList _ _ _ ({ dst := none, op := .store _ _ _, type := _, pos := _, after := _, guard := _ } :: _) _ _); refine wpList_store_wk rfl (.tmp 2) (.tmp 27) rfl rfl rfl R.out.r ?_))
      exact wk_ret Try.results30 (R.out.fill _) rfl rfl rfl
end Go.Proofs.Ytgljepjflpijiaa
