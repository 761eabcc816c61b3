/-
  The walk of the statement SpecRules, of whatever package spec keeps SC.
-/
import Derived.Test.YtijloajkiannlaaDoorSpecBackWalk
namespace Go.Proofs.YtijloajkiannlaaDoor
open Go.RowKit
set_option linter.unusedSimpArgs false

theorem may_steps {s : Spc.Sp} (h : Spc.May s) : ∀ i, i < (Spc.steps s).length → 1 ≤ (Spc.steps s).getD i 0 ∧ (Spc.steps s).getD i 0 ≤ 100 ∧ (0 < i → (Spc.steps s).getD (i - 1) 0 < (Spc.steps s).getD i 0) := by
  intro i hi
  by_cases hg : s.g = 0
  · have hc := h.canary hg
    unfold Spc.steps at *
    rw [if_neg (by omega)] at *
    split at hi
    · rename_i hb
      rw [if_pos hb]
      simp at hi
      subst hi
      simp; omega
    · rename_i hb
      rw [if_neg hb]
      split at hi
      · rename_i hc'
        rw [if_pos hc']
        rcases i with _ | _ | i <;> simp at hi ⊢ <;> omega
      · rename_i hc'
        rw [if_neg hc']
        split at hi
        · rename_i he
          rw [if_pos he]
          rcases i with _ | _ | _ | i <;> simp at hi ⊢ <;> omega
        · rename_i he
          rw [if_neg he]
          rcases i with _ | _ | _ | _ | i <;> simp at hi ⊢ <;> omega
  · have ho := h.other hg
    unfold Spc.steps at hi
    rw [if_pos ho.1] at hi
    simp at hi
theorem may_count {s : Spc.Sp} (h : Spc.May s) : (decide (0 < (Spc.steps s).length) == (s.g == 0)) = true ∧ (Spc.steps s).length ≤ 4 := by
  refine ⟨?_, ?_⟩
  · by_cases hg : s.g = 0
    · have hc := h.canary hg
      have : 0 < (Spc.steps s).length := by
        unfold Spc.steps
        rw [if_neg (by omega)]
        split
        · simp
        · split
          · simp
          · split <;> simp
      rw [decide_eq_true this, hg]; rfl
    · have ho := h.other hg
      have : Spc.steps s = [] := by unfold Spc.steps; rw [if_pos ho.1]
      rw [this]
      have : (s.g == 0) = false := by rw [beq_eq_false_iff_ne]; exact hg
      rw [this]; rfl
  · unfold Spc.steps
    split
    · simp
    · split
      · simp
      · split
        · simp
        · split <;> simp
set_option maxRecDepth 100000 in
set_option maxHeartbeats 6400000 in
theorem srules_walk (hS : SC) (hG : GoodC) (s : Spc.Sp) (hin : Spc.In s) (w : World) (ht : Tb w) :
    Calls Tryd.prog 6 #[Spc.val s] w fun e w' => e = .returned (.bool true) ∧ Below w.heap.size w w' := by
  have HS := Lib.hid hS
  have HTB := Lib.hid ht
  clear ht
  have CG := Lib.hid (fun W => hG s W hin)
  have GM := Lib.hid (Spc.good_may s)
  have CC := Lib.hid (fun W => HS.out.check s W hin)
  unfold CPost at CC
  have HB1 := Lib.hid ((Below.refl w.heap.size w).alloc (Nat.le_refl _) (.cells (Spc.cells s) 25))
  have X1 := Lib.hid (Bx.new w s)
  clear hS hG hin
  have CC2 : Hid (∀ g, Spc.May g → ∀ W, Calls Tryd.prog 16 #[.agg (Spc.cells g)] W fun e w' => e = .returned (.tuple #[.int .i64 0, .int .i64 0]) ∧ Below W.heap.size W w') := fun g hm W => by
    have := HS.out.check g W (may_in hm)
    unfold CPost at this
    have hce : Spc.chkE g = 0 := by unfold Spc.chkE; rw [if_pos (Spc.chk_of hm)]
    rw [hce, Spc.chk_of hm] at this
    exact this
  have CB2 : Hid (∀ g, Spc.May g → ∀ W, Calls Tryd.prog 17 #[.agg (Spc.cells g)] W (APos W (.tuple #[.int .i64 (g.d - g.n), .int .i64 (g.d + g.u)]))) := fun g hm W => by
    have := HS.out.budget g W (may_in hm)
    rw [hm.budget.1, hm.budget.2] at this
    exact this
  have CP2 : Hid (∀ g, Spc.May g → ∀ W, Calls Tryd.prog 18 #[.agg (Spc.cells g)] W (RowI (Spc.steps g) W)) := fun g hm W => HS.out.steps g W (may_in hm)
  unfold Spc.val at *
  unfold Spc.cells at *
  go_enter Tryd.func6, Tryd.ntmps6
  go_wp2_with fail
  obtain ⟨gs, hgs⟩ : ∃ gs, gs = w.heap.size := ⟨_, rfl⟩
  rw [← hgs] at X1 ⊢
  generalize w.alloc (.cells #[.int .i64 s.v, .int .i64 s.d, .int .i64 s.u, .int .i64 s.n, .int .i64 s.g, .int .i64 s.a, .int .i64 s.b, .int .i64 s.c, .int .i64 s.e, .int .i64 s.w, .int .i64 s.x, .int .i64 s.k] 25) = w1 at *
  clear hgs
  refine (slives_any HS.out w1 (HTB.out.on HB1.out)).mono ?_
  rintro e w2 ⟨rfl, hb2⟩
  have X2 := Lib.hid (X1.out.on hb2)
  have B2 := Lib.hid (HB1.out.trans (hb2.mono HB1.out.size))
  obtain ⟨f0, f1, f2, f3, f4, f5, f6, f7, f8, f9, f10, f11⟩ := X2.out.at_
  clear hb2 X1 HB1
  have hb3 := (Below.refl w2.heap.size w2).alloc (Nat.le_refl _) (.cells (Spc.cells s) 25)
  have X3 := Lib.hid (X2.out.on hb3)
  have HH3 : Hid ((w2.alloc (.cells (Spc.cells s) 25)).heap[w2.heap.size]? = some (.cells (Spc.cells s) 25 (0, 0))) := heap_alloc_new w2 _
  have B3 := Lib.hid (B2.out.trans (hb3.mono B2.out.size))
  have ZB : Hid (w.heap.size ≤ w2.heap.size) := B2.out.size
  have NE : Hid (gs < w2.heap.size) := X2.out.lt
  obtain ⟨y0, y1, y2, y3, y4, y5, y6, y7, y8, y9, y10, y11⟩ := X3.out.at_
  clear hb3 X2 B2
  unfold Spc.cells at *
  go_wp2_with fail
  obtain ⟨gb, hgb⟩ : ∃ gb, gb = w2.heap.size := ⟨_, rfl⟩
  rw [← hgb] at HH3 ZB NE ⊢
  generalize w2.alloc (.cells #[.int .i64 s.v, .int .i64 s.d, .int .i64 s.u, .int .i64 s.n, .int .i64 s.g, .int .i64 s.a, .int .i64 s.b, .int .i64 s.c, .int .i64 s.e, .int .i64 s.w, .int .i64 s.x, .int .i64 s.k] 25) = w3 at *
  clear hgb f0  f1  f2  f3  f4  f5  f6  f7  f8  f9  f10  f11 y0  y1  y2  y3  y4  y5  y6  y7  y8  y9  y10  y11
  refine (CC.out w3).mono ?_
  rintro e w4 ⟨rfl, hb4⟩
  have X4 := Lib.hid (X3.out.on hb4)
  have HH4 := Lib.hid ((hb4.block gb (Array.getElem?_eq_some_iff.1 HH3.out).1).trans HH3.out)
  have B4 := Lib.hid (B3.out.trans (hb4.mono B3.out.size))
  clear hb4 X3 HH3 B3 CC
  by_cases hc : Spc.chk s = 0
  · have hce : Spc.chkE s = 0 := by unfold Spc.chkE; rw [if_pos hc]
    have M := Lib.hid (Spc.may_of hc)
    rw [hce]
    generalize Spc.chk s = ck at *
    clear hc hce CG GM X4
    obtain ⟨f0, f1, f2, f3, f4, f5, f6, f7, f8, f9, f10, f11⟩ := spAt_of (s := s) HH4.out
    obtain ⟨H5, B5⟩ := (⟨HH4, B4⟩ : _ ∧ _)
    go_wp2_with fail
    refine (CC2.out s M.out w4).mono ?_
    rintro e w6 ⟨rfl, hb6⟩
    have H6 := Lib.hid ((hb6.block gb (Array.getElem?_eq_some_iff.1 H5.out).1).trans H5.out)
    have B6 := Lib.hid (B5.out.trans (hb6.mono B5.out.size))
    clear hb6 H5 B5 CC2 f0  f1  f2  f3  f4  f5  f6  f7  f8  f9  f10  f11
    obtain ⟨f0, f1, f2, f3, f4, f5, f6, f7, f8, f9, f10, f11⟩ := spAt_of (s := s) H6.out
    go_wp2_with fail
    refine (CB2.out s M.out w6).mono ?_
    rintro e w7 ⟨rfl, hb7⟩
    have H7 := Lib.hid ((hb7.block gb (Array.getElem?_eq_some_iff.1 H6.out).1).trans H6.out)
    have B7 := Lib.hid (B6.out.trans (hb7.mono B6.out.size))
    clear hb7 H6 B6 CB2 f0  f1  f2  f3  f4  f5  f6  f7  f8  f9  f10  f11
    obtain ⟨f0, f1, f2, f3, f4, f5, f6, f7, f8, f9, f10, f11⟩ := spAt_of (s := s) H7.out
    go_wp2_with fail
    refine (CP2.out s M.out w7).mono ?_
    rintro e w8 ⟨A8, c8, rfl, hs8, hb8⟩
    have H8 := Lib.hid ((hb8.block gb (Array.getElem?_eq_some_iff.1 H7.out).1).trans H7.out)
    have B8 := Lib.hid (B7.out.trans (hb8.mono B7.out.size))
    have S8 := Lib.hid hs8
    have ST := Lib.hid (may_steps M.out)
    have CT := Lib.hid (may_count M.out)
    have hn4 := CT.out.2
    clear hb8 H7 B7 CP2 f0  f1  f2  f3  f4  f5  f6  f7  f8  f9  f10  f11 hs8
    obtain ⟨l, hl⟩ : ∃ l, l = Spc.steps s := ⟨_, rfl⟩
    rw [← hl] at S8 ST CT hn4 ⊢
    obtain ⟨n, hn⟩ : ∃ n, n = l.length := ⟨_, rfl⟩
    rw [← hn] at S8 ST CT hn4 ⊢
    have HN := Lib.hid hn
    clear hl hn
    have hcap := S8.out.cap
    have hmax := S8.out.max
    unfold maxLen at hmax
    go_wp2_with fail
    go_loopw [11] (fun i wr => ∃ j : Nat, j ≤ n ∧ i = .int .i64 (j : Nat) ∧ ∃ d, wr = w8.drewN d) (fun i _ => n - (intOf i).toNat)
    case atStart => exact ⟨0, by omega, rfl, 0, rfl⟩
    case round =>
      obtain ⟨j, hj, rfl, dd, rfl⟩ := hrel
      by_cases hlt : j < n
      · obtain ⟨b, o, rfl, _, hc⟩ := S8.out.rd (by rw [← HN.out]; omega)
        have hcj := hc j (by rw [← HN.out]; exact hlt)
        obtain ⟨q1, q2, q3⟩ := ST.out j hlt
        have i1 : (0 : Int) ≤ (j : Int) := by omega
        have i2 : (j : Int) < (n : Int) := by omega
        obtain ⟨x, hx⟩ : ∃ x, x = l.getD j 0 := ⟨_, rfl⟩
        rw [← hx] at hcj q1 q2 q3
        have t1 := decide_eq_false (show ¬ x < 1 by omega)
        have t2 := decide_eq_false (show ¬ 100 < x by omega)
        by_cases h0 : j = 0
        · subst h0
          have hcz : w8.cell? ⟨b, o, none⟩ = some (.int .i64 x) := hcj
          clear hcj hx q3 hc
          go_wp2_with fail
          go_quiet (fail)
          go_wp2_with fail
          exact ⟨⟨1, by omega, rfl, _, rfl⟩, by simp [intOf]; omega⟩
        · obtain ⟨m, rfl⟩ : ∃ m, j = m + 1 := ⟨j - 1, by omega⟩
          have hcm := hc m (by rw [← HN.out]; omega)
          have q4 := q3 (by omega)
          rw [show m + 1 - 1 = m by omega] at q4
          obtain ⟨y, hy⟩ : ∃ y, y = l.getD m 0 := ⟨_, rfl⟩
          rw [← hy] at hcm q4
          have t3 := decide_eq_false (show ¬ x ≤ y by omega)
          have t4 := decide_eq_true (show (0 : Int) < ((m + 1 : Nat) : Int) by omega)
          have t5 := decide_eq_true (show (0 : Int) < (m : Int) + 1 by omega)
          have wr1 : IntKind.i64.wrap ((m : Int) + 1 - 1) = (m : Int) := by rw [show (m : Int) + 1 - 1 = (m : Int) by omega]; exact IntWalk.i64_in (m : Int) (by omega)
          have wr2 : IntKind.i64.wrap (m : Int) = (m : Int) := IntWalk.i64_in (m : Int) (by omega)
          clear hx hy q3 hc h0
          go_wp2_with fail
          go_quiet (fail)
          go_wp2_with fail
          exact ⟨⟨m + 1 + 1, by omega, by go_num, _, rfl⟩, by simp [intOf]; omega⟩
      · obtain rfl : j = n := by omega
        obtain ⟨f0, f1, f2, f3, f4, f5, f6, f7, f8, f9, f10, f11⟩ := spAt_of (s := s) H8.out
        have m1 := M.out.d
        have m2 := M.out.u
        have m3 := M.out.n
        have m4 := M.out.g
        have m5 := M.out.w
        have m6 := M.out.k
        have t1 := decide_eq_true (show 0 ≤ s.d - s.n by omega)
        have hct := CT.out.1
        go_wp2_with fail
        all_goals exact bodyPost_ret (v := .bool true) (by simp [results, Tryd.results6, go_sem] <;> omega) rfl ⟨rfl, Below.drewN B8.out dd⟩
  · have hce : Spc.chkE s = 11 := by unfold Spc.chkE; rw [if_neg hc]
    rw [hce]
    generalize Spc.chk s = ck at *
    clear hc hce
    obtain ⟨g, hg⟩ : ∃ g, g = Spc.good s := ⟨_, rfl⟩
    rw [← hg] at CG GM
    have M := Lib.hid GM.out
    clear hg GM
    obtain ⟨f0, f1, f2, f3, f4, f5, f6, f7, f8, f9, f10, f11⟩ := X4.out.at_
    go_wp2_with fail
    refine (CG.out w4).mono ?_
    rintro e w5 ⟨rfl, hb5⟩
    have HH5 := Lib.hid ((hb5.block gb (Array.getElem?_eq_some_iff.1 HH4.out).1).trans HH4.out)
    have B5a := Lib.hid (B4.out.trans (hb5.mono B4.out.size))
    clear hb5 X4 HH4 B4 CG f0  f1  f2  f3  f4  f5  f6  f7  f8  f9  f10  f11
    have hP5 := puts_sp (s := g) (r := s) HH5.out
    have hG5 := puts_grown gb (Spc.cells g).toList 0 w5
    obtain ⟨f0, f1, f2, f3, f4, f5, f6, f7, f8, f9, f10, f11⟩ := spAt_of (s := s) HH5.out
    obtain ⟨z0, z1, z2, z3, z4, z5, z6, z7, z8, z9, z10, z11⟩ := spFz_of HH5.out
    have F6 := spAt_of (s := g) hP5
    obtain ⟨W, hW⟩ : ∃ W, W = puts w5 gb 0 (Spc.cells g).toList := ⟨_, rfl⟩
    rw [← hW] at hP5 hG5
    have H5 := Lib.hid hP5
    have B5 := Lib.hid (B5a.out.grown hG5 B5a.out.size (fun i hi => by injection hi with hi; rw [← hi]; exact ZB.out))
    have key : ((((((((((((w5.setCell ⟨gb, 0, none⟩ (.int .i64 g.v)).setCell ⟨gb, 1, none⟩ (.int .i64 g.d)).setCell ⟨gb, 2, none⟩ (.int .i64 g.u)).setCell ⟨gb, 3, none⟩ (.int .i64 g.n)).setCell ⟨gb, 4, none⟩ (.int .i64 g.g)).setCell ⟨gb, 5, none⟩ (.int .i64 g.a)).setCell ⟨gb, 6, none⟩ (.int .i64 g.b)).setCell ⟨gb, 7, none⟩ (.int .i64 g.c)).setCell ⟨gb, 8, none⟩ (.int .i64 g.e)).setCell ⟨gb, 9, none⟩ (.int .i64 g.w)).setCell ⟨gb, 10, none⟩ (.int .i64 g.x)).setCell ⟨gb, 11, none⟩ (.int .i64 g.k)) = W := by rw [hW]; rfl
    have KEY := Lib.hid key
    clear hP5 hG5 hW key HH5 B5a
    obtain ⟨y0, y1, y2, y3, y4, y5, y6, y7, y8, y9, y10, y11⟩ := F6
    unfold Spc.cells at *
    simp only [puts, Nat.zero_add, Nat.reduceAdd] at y0  y1  y2  y3  y4  y5  y6  y7  y8  y9  y10  y11
    go_wp2_with fail
    clear z0  z1  z2  z3  z4  z5  z6  z7  z8  z9  z10  z11 y0  y1  y2  y3  y4  y5  y6  y7  y8  y9  y10  y11
    rw [KEY.out]
    clear KEY
    refine (CC2.out g M.out W).mono ?_
    rintro e w6 ⟨rfl, hb6⟩
    have H6 := Lib.hid ((hb6.block gb (Array.getElem?_eq_some_iff.1 H5.out).1).trans H5.out)
    have B6 := Lib.hid (B5.out.trans (hb6.mono B5.out.size))
    clear hb6 H5 B5 CC2 f0  f1  f2  f3  f4  f5  f6  f7  f8  f9  f10  f11
    obtain ⟨f0, f1, f2, f3, f4, f5, f6, f7, f8, f9, f10, f11⟩ := spAt_of (s := g) H6.out
    go_wp2_with fail
    refine (CB2.out g M.out w6).mono ?_
    rintro e w7 ⟨rfl, hb7⟩
    have H7 := Lib.hid ((hb7.block gb (Array.getElem?_eq_some_iff.1 H6.out).1).trans H6.out)
    have B7 := Lib.hid (B6.out.trans (hb7.mono B6.out.size))
    clear hb7 H6 B6 CB2 f0  f1  f2  f3  f4  f5  f6  f7  f8  f9  f10  f11
    obtain ⟨f0, f1, f2, f3, f4, f5, f6, f7, f8, f9, f10, f11⟩ := spAt_of (s := g) H7.out
    go_wp2_with fail
    refine (CP2.out g M.out w7).mono ?_
    rintro e w8 ⟨A8, c8, rfl, hs8, hb8⟩
    have H8 := Lib.hid ((hb8.block gb (Array.getElem?_eq_some_iff.1 H7.out).1).trans H7.out)
    have B8 := Lib.hid (B7.out.trans (hb8.mono B7.out.size))
    have S8 := Lib.hid hs8
    have ST := Lib.hid (may_steps M.out)
    have CT := Lib.hid (may_count M.out)
    have hn4 := CT.out.2
    clear hb8 H7 B7 CP2 f0  f1  f2  f3  f4  f5  f6  f7  f8  f9  f10  f11 hs8
    obtain ⟨l, hl⟩ : ∃ l, l = Spc.steps g := ⟨_, rfl⟩
    rw [← hl] at S8 ST CT hn4 ⊢
    obtain ⟨n, hn⟩ : ∃ n, n = l.length := ⟨_, rfl⟩
    rw [← hn] at S8 ST CT hn4 ⊢
    have HN := Lib.hid hn
    clear hl hn
    have hcap := S8.out.cap
    have hmax := S8.out.max
    unfold maxLen at hmax
    go_wp2_with fail
    go_loopw [11] (fun i wr => ∃ j : Nat, j ≤ n ∧ i = .int .i64 (j : Nat) ∧ ∃ d, wr = w8.drewN d) (fun i _ => n - (intOf i).toNat)
    case atStart => exact ⟨0, by omega, rfl, 0, rfl⟩
    case round =>
      obtain ⟨j, hj, rfl, dd, rfl⟩ := hrel
      by_cases hlt : j < n
      · obtain ⟨b, o, rfl, _, hc⟩ := S8.out.rd (by rw [← HN.out]; omega)
        have hcj := hc j (by rw [← HN.out]; exact hlt)
        obtain ⟨q1, q2, q3⟩ := ST.out j hlt
        have i1 : (0 : Int) ≤ (j : Int) := by omega
        have i2 : (j : Int) < (n : Int) := by omega
        obtain ⟨x, hx⟩ : ∃ x, x = l.getD j 0 := ⟨_, rfl⟩
        rw [← hx] at hcj q1 q2 q3
        have t1 := decide_eq_false (show ¬ x < 1 by omega)
        have t2 := decide_eq_false (show ¬ 100 < x by omega)
        by_cases h0 : j = 0
        · subst h0
          have hcz : w8.cell? ⟨b, o, none⟩ = some (.int .i64 x) := hcj
          clear hcj hx q3 hc
          go_wp2_with fail
          go_quiet (fail)
          go_wp2_with fail
          exact ⟨⟨1, by omega, rfl, _, rfl⟩, by simp [intOf]; omega⟩
        · obtain ⟨m, rfl⟩ : ∃ m, j = m + 1 := ⟨j - 1, by omega⟩
          have hcm := hc m (by rw [← HN.out]; omega)
          have q4 := q3 (by omega)
          rw [show m + 1 - 1 = m by omega] at q4
          obtain ⟨y, hy⟩ : ∃ y, y = l.getD m 0 := ⟨_, rfl⟩
          rw [← hy] at hcm q4
          have t3 := decide_eq_false (show ¬ x ≤ y by omega)
          have t4 := decide_eq_true (show (0 : Int) < ((m + 1 : Nat) : Int) by omega)
          have t5 := decide_eq_true (show (0 : Int) < (m : Int) + 1 by omega)
          have wr1 : IntKind.i64.wrap ((m : Int) + 1 - 1) = (m : Int) := by rw [show (m : Int) + 1 - 1 = (m : Int) by omega]; exact IntWalk.i64_in (m : Int) (by omega)
          have wr2 : IntKind.i64.wrap (m : Int) = (m : Int) := IntWalk.i64_in (m : Int) (by omega)
          clear hx hy q3 hc h0
          go_wp2_with fail
          go_quiet (fail)
          go_wp2_with fail
          exact ⟨⟨m + 1 + 1, by omega, by go_num, _, rfl⟩, by simp [intOf]; omega⟩
      · obtain rfl : j = n := by omega
        obtain ⟨f0, f1, f2, f3, f4, f5, f6, f7, f8, f9, f10, f11⟩ := spAt_of (s := g) H8.out
        have m1 := M.out.d
        have m2 := M.out.u
        have m3 := M.out.n
        have m4 := M.out.g
        have m5 := M.out.w
        have m6 := M.out.k
        have t1 := decide_eq_true (show 0 ≤ g.d - g.n by omega)
        have hct := CT.out.1
        go_wp2_with fail
        all_goals exact bodyPost_ret (v := .bool true) (by simp [results, Tryd.results6, go_sem] <;> omega) rfl ⟨rfl, Below.drewN B8.out dd⟩
end Go.Proofs.YtijloajkiannlaaDoor
