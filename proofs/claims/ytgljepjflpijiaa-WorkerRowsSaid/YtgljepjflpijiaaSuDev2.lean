/-
  Package slot: tell, behind, and the calls. No condition.
-/
import Derived.Test.YtgljepjflpijiaaSuDev
import Derived.Test.YtgljepjflpijiaaRegion
import Derived.Deep.QuietTactic
import Derived.BigQuiet
namespace Go.Proofs.Ytgljepjflpijiaa
open Go.RowKit Go.Deep
set_option linter.unusedSimpArgs false
set_option linter.unusedVariables false

set_option maxHeartbeats 1600000 in
theorem sdtell_any (W : World) (g : Nat) (s : Su.S) (n q : Int) (hr : Su.Right s) (h : SuAt 46 W g s) : Calls Try.prog 50 #[.agg #[.int .i64 n, .int .i64 q], .pointer (some ⟨g, 0, none⟩)] W (SuCh W g (Su.want s n q)) := by
  obtain ⟨W1, hW⟩ : ∃ W1, W1 = W.alloc (.cells #[.int .i64 n, .int .i64 q] 86) := ⟨_, rfl⟩
  have hb : Below W.heap.size W W1 := by rw [hW]; exact (Below.refl W.heap.size W).alloc (Nat.le_refl _) _
  have hrow : W1.heap[W.heap.size]? = some (.cells #[.int .i64 n, .int .i64 q] 86 (0, 0)) := by rw [hW]; exact heap_alloc_new W _
  obtain ⟨k, hk⟩ : ∃ k, k = W.heap.size := ⟨_, rfl⟩
  rw [← hk] at hrow
  have HW := Lib.hid hW
  have HK := Lib.hid hk
  have RK := Lib.hid hrow
  have HR := Lib.hid hr
  have HGK : Hid (g ≠ k) := by have := h.cells.2.2.2.2; show g ≠ k; omega
  have R := Lib.hid ((Su1.refl h).on hb)
  clear h hr hW hk hrow hb
  obtain ⟨st, v, wa, sq⟩ := s
  have key : Hid (∀ W2, Su1 46 W W2 g ⟨st, v, wa, sq⟩ → SuCh W g ⟨st, v, wa, sq⟩ (.returned (.tuple #[])) W2) := fun W2 h => ⟨rfl, h.a, h.g⟩
  obtain ⟨c0, c1, c2, c3, cl⟩ := R.out.a.cells
  obtain ⟨f0, f1, f2, f3⟩ := R.out.a.fz
  have d0 : W1.cell? ⟨k, 0, none⟩ = some (.int .i64 n) := by rw [cell_of_row W1 k 0 _ _ _ RK.out]; rfl
  have d1 : W1.cell? ⟨k, 1, none⟩ = some (.int .i64 q) := by rw [cell_of_row W1 k 1 _ _ _ RK.out]; rfl
  have hgk := HGK.out
  simp only at c0 c1 c2 c3
  by_cases hq : q ≤ sq
  · have E1 : Hid (Su.want ⟨st, v, wa, sq⟩ n q = ⟨st, v, wa, sq⟩) := if_neg (fun h => by have h1 := h.2; simp only at h1; omega)
    rw [E1.out]
    have g1 : decide (q ≤ sq) = true := decide_eq_true hq
    go_enter Try.func50, Try.ntmps50
    go_upto_region 1 with fail
    rw [← HW.out, ← HK.out]
    go_quiet (fail)
    go_wp2_with fail
    go_end0
    exact key.out _ (R.out.drewN _)
  · have g1 : decide (q ≤ sq) = false := decide_eq_false hq
    by_cases hn : n < 0
    · have E1 : Hid (Su.want ⟨st, v, wa, sq⟩ n q = ⟨st, v, wa, sq⟩) := if_neg (fun h => by have h1 := h.2; simp only at h1; omega)
      rw [E1.out]
      have g2 : decide (n < 0) = true := decide_eq_true hn
      go_enter Try.func50, Try.ntmps50
      go_upto_region 1 with fail
      rw [← HW.out, ← HK.out]
      go_quiet (fail)
      go_wp2_with fail
      go_end0
      exact key.out _ (R.out.drewN _)
    · have g2 : decide (n < 0) = false := decide_eq_false hn
      have TK : Hid (Su.takes ⟨st, v, wa, sq⟩ n q) := ⟨HR.out, by omega, by show sq < q; omega⟩
      have EW := Lib.hid (Su.want_yes TK.out)
      simp only at EW
      obtain ⟨rr, hrr⟩ : ∃ rr, rr = Su.want ⟨st, v, wa, sq⟩ n q := ⟨_, rfl⟩
      rw [← hrr] at EW ⊢
      clear hrr
      go_enter Try.func50, Try.ntmps50
      go_upto_region 1 with fail
      rw [← HW.out, ← HK.out]
      go_quiet (fail)
      go_upto_region 2 with fail
      go_region
      go_upto_region 3 with fail
      have R5 := Lib.hid (((R.out.drewN (nq + 1)).s2 n).s3 q)
      have RK5 : Hid ((((W1.drewN (nq + 1)).setCell ⟨g, 2, none⟩ (.int .i64 n)).setCell ⟨g, 3, none⟩ (.int .i64 q)).heap[k]? = some (.cells #[.int .i64 n, .int .i64 q] 86 (0, 0))) := (Below.heap_setCell _ _ _ _ (by first | exact HGK.out | exact HGK.out.symm)).trans ((Below.heap_setCell _ _ _ _ (by first | exact HGK.out | exact HGK.out.symm)).trans RK.out)
      clear c0 c1 c2 c3 cl f0 f1 f2 f3 d0 d1 hgk key g1 g2
      generalize ((W1.drewN (nq + 1)).setCell ⟨g, 2, none⟩ (.int .i64 n)).setCell ⟨g, 3, none⟩ (.int .i64 q) = W5 at *
      obtain ⟨c0, c1, c2, c3, cl⟩ := R5.out.a.cells
      obtain ⟨f0, f1, f2, f3⟩ := R5.out.a.fz
      have d0 : W5.cell? ⟨k, 0, none⟩ = some (.int .i64 n) := by rw [cell_of_row W5 k 0 _ _ _ RK5.out]; rfl
      simp only at c0 c1 c2 c3
      by_cases hs : st = 0
      · have E2 : Hid ((if 1 ≤ st ∧ st ≤ 3 ∧ v ≠ n then (4 : Int) else st) = st) := if_neg (by omega)
        have n0 : (st != 0) = false := by simpa using hs
        rw [E2.out] at EW
        go_quiet (fail)
        go_wp2_with fail
        go_end0
        rw [EW.out]
        exact ⟨rfl, (R5.out.drewN _).a, (R5.out.drewN _).g⟩
      · have n0 : (st != 0) = true := by simpa using hs
        by_cases hv : v = n
        · have E2 : Hid ((if 1 ≤ st ∧ st ≤ 3 ∧ v ≠ n then (4 : Int) else st) = st) := if_neg (fun h => h.2.2 hv)
          have n1 : (v != n) = false := by simpa using hv
          rw [E2.out] at EW
          clear hv
          go_quiet (fail)
          go_wp2_with fail
          go_end0
          rw [EW.out]
          exact ⟨rfl, (R5.out.drewN _).a, (R5.out.drewN _).g⟩
        · have n1 : (v != n) = true := by simpa using hv
          have E2 : Hid ((if 1 ≤ st ∧ st ≤ 3 ∧ v ≠ n then (4 : Int) else st) = 4) := by
            have h1 := HR.out.1
            have h2 := HR.out.2.1
            simp only at h1 h2
            by_cases h4 : st = 4
            · show _ = _; rw [if_neg (by omega), h4]
            · exact if_pos (by omega)
          rw [E2.out] at EW
          go_quiet (fail)
          go_wp2_with fail
          go_end0
          rw [EW.out]
          exact ⟨rfl, ((R5.out.drewN _).s0 4).a, ((R5.out.drewN _).s0 4).g⟩
/-- What is handed on to behind: called with a slot that may be, in memory. -/
def SuFn (f : Nat) (pre : Array Value) (s r : Su.S) : Prop := ∀ W g, SuAt 46 W g s → Calls Try.prog f (pre.push (.pointer (some ⟨g, 0, none⟩))) W (SuCh W g r)
theorem Su2.turned {T U : TypeId} {W w w' : World} {g : Nat} {s r s' : Su.S} (h : Su2 T U W w g s r) (h1 : SuAt T w' g s') (h2 : w.grownBy w' (some g)) : Su2 T U W w' g s' r :=
  ⟨h1, h.r.off h2 (by omega), h.b.trans ⟨h2.os, h2.tape, h2.output, h2.size, fun i hi => h2.block i (by have := h.b.size; omega) (fun e => by injection e with e; have := h.g; omega)⟩, h.g⟩
theorem Su2.drew {T U : TypeId} {W w : World} {g : Nat} {s r : Su.S} (h : Su2 T U W w g s r) : Su2 T U W w.drew g s r := h.on (Below.refl _ _).drew
set_option maxHeartbeats 1600000 in
theorem sdbehind_no (f : Nat) (pre : Array Value) (s : Su.S) (hr : ¬ Su.Right s) (W : World) : Calls Try.prog 49 #[suV s, .func (.func f) pre #[]] W (SuPost W s false) := by
  obtain ⟨g, W1, hW, hg, r0⟩ := su_two 46 46 W s
  have CR := Lib.hid (fun W => sdright_is (s := s) (b := false) (by simp [hr]) W)
  have HW := Lib.hid hW
  have HG := Lib.hid hg
  have R := Lib.hid r0
  have c := Lib.hid r0.a.cells
  clear hW hg r0 hr
  unfold suV suC at *
  go_enter Try.func49, Try.ntmps49
  go_upto_region 1 with fail
  rw [← HW.out, ← HG.out]
  obtain ⟨c0, c1, c2, c3, cl⟩ := c.out
  go_upto_region 2 with (go_at_call 58; (with_reducible refine (CR.out _).mono ?_); rintro e w2 ⟨rfl, hb⟩; replace R := Lib.hid (R.out.on hb); clear hb)
  clear c0 c1 c2 c3 cl c CR HW HG
  obtain ⟨c0, c1, c2, c3, cl⟩ := R.out.a.cells
  obtain ⟨z0, z1, z2, z3, zl⟩ := R.out.r.cells
  obtain ⟨f0, f1, f2, f3⟩ := R.out.a.fz
  obtain ⟨k0, k1, k2, k3⟩ := R.out.r.fz
  obtain ⟨st, v, wa, sq⟩ := s
  simp only at c0 c1 c2 c3
  go_wp2_with fail
  exact su_ret Try.results49 Try.underlying46 (by kernel_rfl) (R.out.fill st v wa sq) rfl rfl rfl rfl rfl
set_option maxHeartbeats 1600000 in
theorem sdbehind_yes (f : Nat) (pre : Array Value) (eg : ∀ args w, (callFunc f args).run Try.prog w = .ok (.enter f args) w) (s r : Su.S) (hr : Su.Right s) (hf : SuFn f pre s r) (W : World) : Calls Try.prog 49 #[suV s, .func (.func f) pre #[]] W (SuPost W r (!decide (r = s))) := by
  obtain ⟨g, W1, hW, hg, r0⟩ := su_two 46 46 W s
  have CR := Lib.hid (fun W => sdright_is (s := s) (b := true) (by simp [hr]) W)
  have HF := Lib.hid hf
  have HW := Lib.hid hW
  have HG := Lib.hid hg
  have R := Lib.hid r0
  have c := Lib.hid r0.a.cells
  obtain ⟨d, hd⟩ : ∃ d, d = !decide (r = s) := ⟨_, rfl⟩
  have HD := Lib.hid hd
  rw [← hd]
  clear hW hg r0 hr hf hd
  unfold suV suC at *
  go_enter Try.func49, Try.ntmps49
  go_upto_region 1 with fail
  rw [← HW.out, ← HG.out]
  obtain ⟨c0, c1, c2, c3, cl⟩ := c.out
  go_upto_region 3 with (go_at_call 58; (with_reducible refine (CR.out _).mono ?_); rintro e w2 ⟨rfl, hb⟩; replace R := Lib.hid (R.out.on hb); clear hb)
  clear c0 c1 c2 c3 cl c CR HW HG
  obtain ⟨c0, c1, c2, c3, cl⟩ := R.out.a.cells
  go_upto_region 4 with fail
  have R3 := Lib.hid (R.out.on ((Below.refl w2.heap.size w2).alloc (Nat.le_refl _) (.cells (suC s) 46)))
  have N3 := Lib.hid (SuAt.new 46 w2 s)
  obtain ⟨k, hk⟩ : ∃ k, k = w2.heap.size := ⟨_, rfl⟩
  have KG : Hid (g + 1 < k) := by have := R.out.r.cells.2.2.2.2; show g + 1 < k; omega
  rw [← hk] at N3 ⊢
  have HK := Lib.hid hk
  clear c0 c1 c2 c3 cl R hk
  unfold suC at N3 R3
  generalize w2.alloc (.cells #[.int .i64 s.st, .int .i64 s.v, .int .i64 s.wa, .int .i64 s.sq] 46) = W3 at *
  have CF := Lib.hid (HF.out W3 g R3.out.a)
  go_upto_region 5 with (go_at_fn f; (with_reducible refine CF.out.mono ?_); rintro e w4 ⟨rfl, h1, h2⟩; have R4 := Lib.hid (R3.out.turned h1 h2); have N4 := Lib.hid (N3.out.off h2 (by have := KG.out; omega)); clear h1 h2)
  obtain ⟨c0, c1, c2, c3, cl⟩ := R4.out.a.cells
  obtain ⟨z0, z1, z2, z3, zl⟩ := R4.out.r.cells
  obtain ⟨y0, y1, y2, y3, yl⟩ := N4.out.cells
  obtain ⟨k0, k1, k2, k3⟩ := R4.out.r.fz
  have NE := fun W => slot_neq (a := r) (b := s) (x := d) HD.out W
  unfold suV suC at NE
  have hkg : k ≠ g + 1 := by have := KG.out; omega
  clear R3 N3 CF
  go_region
  all_goals
    go_wp2_with fail
    first
      | exact su_ret Try.results49 Try.underlying46 (by kernel_rfl) (R4.out.drew.fill r.st r.v r.wa r.sq) rfl rfl rfl rfl rfl
      | exact su_ret Try.results49 Try.underlying46 (by kernel_rfl) ((R4.out.fill r.st r.v r.wa r.sq).drew) rfl rfl rfl rfl rfl
      | exact su_ret Try.results49 Try.underlying46 (by kernel_rfl) ((R4.out.drew.drew).fill r.st r.v r.wa r.sq) rfl rfl rfl rfl rfl
/-- Both ways at once. -/
theorem sdbehind_any (f : Nat) (pre : Array Value) (eg : ∀ args w, (callFunc f args).run Try.prog w = .ok (.enter f args) w) (s r : Su.S) (hf : Su.Right s → SuFn f pre s r) {p : Prop} [Decidable p] (h1 : Su.Right s → (p ↔ r ≠ s)) (h2 : ¬ Su.Right s → r = s ∧ ¬ p) (W : World) : Calls Try.prog 49 #[suV s, .func (.func f) pre #[]] W (SuPost W r (decide p)) := by
  by_cases hr : Su.Right s
  · have e : (!decide (r = s)) = decide p := by rw [Bool.eq_iff_iff]; simp [h1 hr]
    rw [← e]
    exact sdbehind_yes f pre eg s r hr (hf hr) W
  · obtain ⟨e, np⟩ := h2 hr
    rw [e, decide_eq_false np]
    exact sdbehind_no f pre s hr W
theorem sdfall_any (W : World) (g : Nat) (s : Su.S) (hr : Su.Right s) (h : SuAt 46 W g s) : Calls Try.prog 53 #[.pointer (some ⟨g, 0, none⟩)] W (SuCh W g (Su.fall s)) := by
  have e : Su.fall s = ⟨0, 0, s.wa, s.sq⟩ := by
    unfold Su.fall
    split
    · rfl
    · rename_i hn
      have h0 : s.st = 0 := Classical.byContradiction fun h => hn ⟨hr, h⟩
      obtain ⟨st, v, wa, sq⟩ := s
      unfold Su.Right at hr
      simp only at *
      subst h0
      obtain rfl : v = 0 := by omega
      rfl
  rw [e]
  exact sdstop_any W g s h
set_option maxHeartbeats 1600000 in
theorem sdgo_is (s : Su.S) (W : World) : Calls Try.prog 41 #[suV s] W (SuPost W (Su.go s) (decide (Su.goes s))) := by
  obtain ⟨g, W1, hW, hg, r0⟩ := su_two 46 46 W s
  obtain ⟨r, hr⟩ : ∃ r, r = Su.go s := ⟨_, rfl⟩
  obtain ⟨d, hd⟩ : ∃ d, d = decide (Su.goes s) := ⟨_, rfl⟩
  have CB := Lib.hid (fun W => sdbehind_any 54 #[] (enters_of Try.func54 (by kernel_rfl) rfl) s (Su.go s) (fun hr W g h => sdgoon_any W g s hr h) (p := Su.goes s) (fun _ => ⟨fun h => Su.go_did h, fun h => Classical.byContradiction fun hn => h (if_neg hn)⟩) (fun hn => ⟨if_neg fun h => hn h.1, fun h => hn h.1⟩) W)
  rw [← hr, ← hd] at CB
  rw [← hr, ← hd]
  have HW := Lib.hid hW
  have HG := Lib.hid hg
  have R := Lib.hid r0
  have c := Lib.hid r0.a.cells
  clear hW hg r0 hr hd
  unfold suV suC at *
  go_enter Try.func41, Try.ntmps41
  go_upto_region 1 with fail
  rw [← HW.out, ← HG.out]
  obtain ⟨c0, c1, c2, c3, cl⟩ := c.out
  go_wp2_with (go_at_call 49; (with_reducible refine (CB.out _).mono ?_); rintro e w2 ⟨rfl, hb⟩; have R := Lib.hid (R.out.on hb); clear hb c0 c1 c2 c3 cl; obtain ⟨z0, z1, z2, z3, zl⟩ := R.out.r.cells; obtain ⟨k0, k1, k2, k3⟩ := R.out.r.fz)
  exact su_ret Try.results41 Try.underlying46 (by kernel_rfl) (R.out.fill r.st r.v r.wa r.sq) rfl rfl rfl rfl rfl
set_option maxHeartbeats 1600000 in
theorem sdhurt_is (s : Su.S) (W : World) : Calls Try.prog 42 #[suV s] W (SuPost W (Su.turn s 2 3) (decide (Su.turns s 2))) := by
  obtain ⟨g, W1, hW, hg, r0⟩ := su_two 46 46 W s
  obtain ⟨r, hr⟩ : ∃ r, r = Su.turn s 2 3 := ⟨_, rfl⟩
  obtain ⟨d, hd⟩ : ∃ d, d = decide (Su.turns s 2) := ⟨_, rfl⟩
  have CB := Lib.hid (fun W => sdbehind_any 55 #[] (enters_of Try.func55 (by kernel_rfl) rfl) s (Su.turn s 2 3) (fun hr W g h => sdhurt_any W g s hr h) (p := Su.turns s 2) (fun _ => ⟨fun h => Su.turn_did (by decide) h, fun h => Classical.byContradiction fun hn => h (if_neg hn)⟩) (fun hn => ⟨if_neg fun h => hn h.1, fun h => hn h.1⟩) W)
  rw [← hr, ← hd] at CB
  rw [← hr, ← hd]
  have HW := Lib.hid hW
  have HG := Lib.hid hg
  have R := Lib.hid r0
  have c := Lib.hid r0.a.cells
  clear hW hg r0 hr hd
  unfold suV suC at *
  go_enter Try.func42, Try.ntmps42
  go_upto_region 1 with fail
  rw [← HW.out, ← HG.out]
  obtain ⟨c0, c1, c2, c3, cl⟩ := c.out
  go_wp2_with (go_at_call 49; (with_reducible refine (CB.out _).mono ?_); rintro e w2 ⟨rfl, hb⟩; have R := Lib.hid (R.out.on hb); clear hb c0 c1 c2 c3 cl; obtain ⟨z0, z1, z2, z3, zl⟩ := R.out.r.cells; obtain ⟨k0, k1, k2, k3⟩ := R.out.r.fz)
  exact su_ret Try.results42 Try.underlying46 (by kernel_rfl) (R.out.fill r.st r.v r.wa r.sq) rfl rfl rfl rfl rfl
set_option maxHeartbeats 1600000 in
theorem sdheal_is (s : Su.S) (W : World) : Calls Try.prog 43 #[suV s] W (SuPost W (Su.turn s 3 2) (decide (Su.turns s 3))) := by
  obtain ⟨g, W1, hW, hg, r0⟩ := su_two 46 46 W s
  obtain ⟨r, hr⟩ : ∃ r, r = Su.turn s 3 2 := ⟨_, rfl⟩
  obtain ⟨d, hd⟩ : ∃ d, d = decide (Su.turns s 3) := ⟨_, rfl⟩
  have CB := Lib.hid (fun W => sdbehind_any 56 #[] (enters_of Try.func56 (by kernel_rfl) rfl) s (Su.turn s 3 2) (fun hr W g h => sdheal_any W g s hr h) (p := Su.turns s 3) (fun _ => ⟨fun h => Su.turn_did (by decide) h, fun h => Classical.byContradiction fun hn => h (if_neg hn)⟩) (fun hn => ⟨if_neg fun h => hn h.1, fun h => hn h.1⟩) W)
  rw [← hr, ← hd] at CB
  rw [← hr, ← hd]
  have HW := Lib.hid hW
  have HG := Lib.hid hg
  have R := Lib.hid r0
  have c := Lib.hid r0.a.cells
  clear hW hg r0 hr hd
  unfold suV suC at *
  go_enter Try.func43, Try.ntmps43
  go_upto_region 1 with fail
  rw [← HW.out, ← HG.out]
  obtain ⟨c0, c1, c2, c3, cl⟩ := c.out
  go_wp2_with (go_at_call 49; (with_reducible refine (CB.out _).mono ?_); rintro e w2 ⟨rfl, hb⟩; have R := Lib.hid (R.out.on hb); clear hb c0 c1 c2 c3 cl; obtain ⟨z0, z1, z2, z3, zl⟩ := R.out.r.cells; obtain ⟨k0, k1, k2, k3⟩ := R.out.r.fz)
  exact su_ret Try.results43 Try.underlying46 (by kernel_rfl) (R.out.fill r.st r.v r.wa r.sq) rfl rfl rfl rfl rfl
set_option maxHeartbeats 1600000 in
theorem sdfall_is (s : Su.S) (W : World) : Calls Try.prog 40 #[suV s] W (SuPost W (Su.fall s) (decide (Su.falls s))) := by
  obtain ⟨g, W1, hW, hg, r0⟩ := su_two 46 46 W s
  obtain ⟨r, hr⟩ : ∃ r, r = Su.fall s := ⟨_, rfl⟩
  obtain ⟨d, hd⟩ : ∃ d, d = decide (Su.falls s) := ⟨_, rfl⟩
  have CB := Lib.hid (fun W => sdbehind_any 53 #[] (enters_of Try.func53 (by kernel_rfl) rfl) s (Su.fall s) (fun hr W g h => sdfall_any W g s hr h) (p := Su.falls s) (fun _ => ⟨fun h => Su.fall_did h, fun h => Classical.byContradiction fun hn => h (if_neg hn)⟩) (fun hn => ⟨if_neg fun h => hn h.1, fun h => hn h.1⟩) W)
  rw [← hr, ← hd] at CB
  rw [← hr, ← hd]
  have HW := Lib.hid hW
  have HG := Lib.hid hg
  have R := Lib.hid r0
  have c := Lib.hid r0.a.cells
  clear hW hg r0 hr hd
  unfold suV suC at *
  go_enter Try.func40, Try.ntmps40
  go_upto_region 1 with fail
  rw [← HW.out, ← HG.out]
  obtain ⟨c0, c1, c2, c3, cl⟩ := c.out
  go_wp2_with (go_at_call 49; (with_reducible refine (CB.out _).mono ?_); rintro e w2 ⟨rfl, hb⟩; have R := Lib.hid (R.out.on hb); clear hb c0 c1 c2 c3 cl; obtain ⟨z0, z1, z2, z3, zl⟩ := R.out.r.cells; obtain ⟨k0, k1, k2, k3⟩ := R.out.r.fz)
  exact su_ret Try.results40 Try.underlying46 (by kernel_rfl) (R.out.fill r.st r.v r.wa r.sq) rfl rfl rfl rfl rfl
set_option maxHeartbeats 1600000 in
theorem sdwant_is (s : Su.S) (n q : Int) (W : World) : Calls Try.prog 37 #[suV s, .int .i64 n, .int .i64 q] W (SuPost W (Su.want s n q) (decide (Su.takes s n q))) := by
  obtain ⟨g, W1, hW, hg, r0⟩ := su_two 46 46 W s
  obtain ⟨r, hr⟩ : ∃ r, r = Su.want s n q := ⟨_, rfl⟩
  obtain ⟨d, hd⟩ : ∃ d, d = decide (Su.takes s n q) := ⟨_, rfl⟩
  have CB := Lib.hid (fun W => sdbehind_any 50 #[.agg #[.int .i64 n, .int .i64 q]] (enters_of Try.func50 (by kernel_rfl) rfl) s (Su.want s n q) (fun hr W g h => sdtell_any W g s n q hr h) (p := Su.takes s n q) (fun _ => ⟨fun h => Su.want_did h, fun h => Classical.byContradiction fun hn => h (if_neg hn)⟩) (fun hn => ⟨if_neg fun h => hn h.1, fun h => hn h.1⟩) W)
  rw [← hr, ← hd] at CB
  rw [← hr, ← hd]
  have HW := Lib.hid hW
  have HG := Lib.hid hg
  have R := Lib.hid r0
  have c := Lib.hid r0.a.cells
  clear hW hg r0 hr hd
  unfold suV suC at *
  go_enter Try.func37, Try.ntmps37
  go_upto_region 1 with fail
  rw [← HW.out, ← HG.out]
  obtain ⟨c0, c1, c2, c3, cl⟩ := c.out
  go_wp2_with (go_at_call 49; (with_reducible refine (CB.out _).mono ?_); rintro e w2 ⟨rfl, hb⟩; have R := Lib.hid (R.out.on hb); clear hb c0 c1 c2 c3 cl; obtain ⟨z0, z1, z2, z3, zl⟩ := R.out.r.cells; obtain ⟨k0, k1, k2, k3⟩ := R.out.r.fz)
  exact su_ret Try.results37 Try.underlying46 (by kernel_rfl) (R.out.fill r.st r.v r.wa r.sq) rfl rfl rfl rfl rfl
end Go.Proofs.Ytgljepjflpijiaa
