/-
  The document's package of layer 7: which specs may be.
-/
import Derived.Test.YtifokcpkamdkeaaDoorSpRef2
namespace Go.Proofs.YtifokcpkamdkeaaDoor
open Go.RowKit
set_option linter.unusedSimpArgs false

theorem rstep_any (s : Spc.Sp) (i : Nat) (hi : i < 4) (hin : Spc.In s) (hs : 0 < i → s.g = 0 → Spc.at_ s (i - 1) ≤ 1000) (w : World) : Calls Tryd.prog 52 #[Spc.val s, .int .i64 (i : Nat)] w (APos w (.bool (Spc.st s i))) := by
  obtain ⟨v, d, u, n, g, a, b, c, f, wi, x, k⟩ := s
  have ha : Spc.i64 a := hin a (by simp [Spc.flds])
  have hb : Spc.i64 b := hin b (by simp [Spc.flds])
  have hc : Spc.i64 c := hin c (by simp [Spc.flds])
  rcases i with _ | _ | _ | _ | i
  · exact rstep0 v d u n g a b c f wi x k w
  · exact rstep1 v d u n g a b c f wi x k w (fun h => ⟨ha.1, hs (by omega) h⟩)
  · exact rstep2 v d u n g a b c f wi x k w (fun h => ⟨hb.1, hs (by omega) h⟩)
  · exact rstep3 v d u n g a b c f wi x k w (fun h => ⟨hc.1, hs (by omega) h⟩)
  · omega
/-- A step that may be is 100 at most. -/
theorem st_le {s : Spc.Sp} {i : Nat} (hg : s.g = 0) (h : Spc.st s i = true) (hi : i < 4) : Spc.at_ s i ≤ 1000 := by
  unfold Spc.st at h
  rw [if_neg (by omega)] at h
  by_cases h0 : i = 0
  · subst h0
    rw [if_pos rfl] at h
    have := Spc.inn_iff.1 h
    show s.a ≤ 1000
    omega
  · rw [if_neg h0, Bool.or_eq_true, decide_eq_true_eq, Bool.and_eq_true] at h
    rcases h with h | ⟨_, h⟩
    · omega
    · have := Spc.inn_iff.1 h
      omega
def CPost (s : Spc.Sp) (w : World) (e : Ending) (w' : World) : Prop := e = .returned (.tuple #[.int .i64 (Spc.chk s : Nat), .int .i64 (Spc.chkE s)]) ∧ Below w.heap.size w w'
theorem CPost.mk {s : Spc.Sp} {w w' : World} {x y : Int} {z : Nat} (h : Spc.chk s = z) (hx : x = (z : Int)) (hy : y = if z = 0 then 0 else 11) (hb : Below w.heap.size w w') : CPost s w (.returned (.tuple #[.int .i64 x, .int .i64 y])) w' := by
  refine ⟨?_, hb⟩
  have : Spc.chkE s = if z = 0 then 0 else 11 := by unfold Spc.chkE; rw [h]
  rw [this, h, hx, hy]
set_option maxRecDepth 100000 in
set_option maxHeartbeats 3200000 in
theorem rcheck_any (s : Spc.Sp) (hin : Spc.In s) (w : World) : Calls Tryd.prog 29 #[Spc.val s] w (CPost s w) := by
  have HI := Lib.hid hin
  have hb := (Below.refl w.heap.size w).alloc (Nat.le_refl _) (.cells (Spc.cells s) 24)
  have hk := heap_alloc_new w (.cells (Spc.cells s) 24)
  have B1 := Lib.hid hb
  have A1 := Lib.hid (spAt_of hk)
  have Z1 : Hid (w.heap.size < (w.alloc (.cells (Spc.cells s) 24)).heap.size) := by show _ < _; simp
  have HC : Hid (∀ (W : World) (i : Nat), i < 4 → (0 < i → s.g = 0 → Spc.at_ s (i - 1) ≤ 1000) → Calls Tryd.prog 52 #[Spc.val s, .int .i64 (i : Nat)] W (APos W (.bool (Spc.st s i)))) := fun W i hi hs => rstep_any s i hi hin hs W
  obtain ⟨f0, f1, f2, f3, f4, f5, f6, f7, f8, f9, f10, f11⟩ := A1.out
  clear hb hk hin
  unfold Spc.val at *
  unfold Spc.cells at *
  go_enter Tryd.func29, Tryd.ntmps29
  go_wp2_with fail
  generalize w.alloc (.cells #[.int .i64 s.v, .int .i64 s.d, .int .i64 s.u, .int .i64 s.n, .int .i64 s.g, .int .i64 s.a, .int .i64 s.b, .int .i64 s.c, .int .i64 s.e, .int .i64 s.w, .int .i64 s.x, .int .i64 s.k] 24) = w1 at *
  cases h1 : Spc.inn s.v 1 1048576
  case false =>
    refine (rin_any s.v 1 1048576 _).mono ?_
    rw [h1]
    rintro en wx ⟨rfl, rfl⟩
    go_wp2_with fail
    go_ret2
    exact CPost.mk (z := 1) (by unfold Spc.chk; simp [h1]) rfl rfl B1.out
  case true =>
    refine (rin_any s.v 1 1048576 _).mono ?_
    rw [h1]
    rintro en wx ⟨rfl, rfl⟩
    go_wp2_with fail
    cases h2 : Spc.inn s.d 1 16
    case false =>
      refine (rin_any s.d 1 16 _).mono ?_
      rw [h2]
      rintro en wx ⟨rfl, rfl⟩
      go_wp2_with fail
      go_ret2
      exact CPost.mk (z := 2) (by unfold Spc.chk; simp [h1, h2]) rfl rfl B1.out
    case true =>
      refine (rin_any s.d 1 16 _).mono ?_
      rw [h2]
      rintro en wx ⟨rfl, rfl⟩
      have hd2 := Spc.inn_iff.1 h2
      go_wp2_with fail
      cases h3 : Spc.inn s.u 0 (16 - s.d)
      case false =>
        refine (rin_any s.u 0 (16 - s.d) _).mono ?_
        rw [h3]
        rintro en wx ⟨rfl, rfl⟩
        go_wp2_with fail
        go_ret2
        exact CPost.mk (z := 3) (by unfold Spc.chk; simp [h1, h2, h3]) rfl rfl B1.out
      case true =>
        refine (rin_any s.u 0 (16 - s.d) _).mono ?_
        rw [h3]
        rintro en wx ⟨rfl, rfl⟩
        go_wp2_with fail
        cases h4 : Spc.inn s.n 0 s.d
        case false =>
          refine (rin_any s.n 0 s.d _).mono ?_
          rw [h4]
          rintro en wx ⟨rfl, rfl⟩
          go_wp2_with fail
          go_ret2
          exact CPost.mk (z := 4) (by unfold Spc.chk; simp [h1, h2, h3, h4]) rfl rfl B1.out
        case true =>
          refine (rin_any s.n 0 s.d _).mono ?_
          rw [h4]
          rintro en wx ⟨rfl, rfl⟩
          have key : ∀ (nz uz : Bool), (s.n == 0) = nz → (s.u == 0) = uz → (nz && uz) = true → Spc.chk s = 4 := fun nz uz e1 e2 e3 => by
            rw [Bool.and_eq_true] at e3
            rw [e3.1, beq_iff_eq] at e1
            rw [e3.2, beq_iff_eq] at e2
            unfold Spc.chk
            rw [h1, h2, h3]
            simp [e1, e2]
          have H4 : Hid ((∃ nz uz, (s.n == 0) = nz ∧ (s.u == 0) = uz ∧ (nz && uz) = false) → (!Spc.inn s.n 0 s.d || (decide (s.n = 0) && decide (s.u = 0))) = false) := fun h => by
            obtain ⟨nz, uz, e1, e2, e3⟩ := h
            rw [h4, Bool.not_true, Bool.false_or, ← e3, ← e1, ← e2]
            rfl
          have KEY := Lib.hid key
          clear key
          cases hnz : (s.n == 0)
          case' true =>
            cases huz : (s.u == 0)
          case true.true =>
            go_wp2_with fail
            go_ret2
            exact CPost.mk (z := 4) (KEY.out true true hnz huz rfl) rfl rfl B1.out
          all_goals
            have P4 : Hid ((!Spc.inn s.n 0 s.d || (decide (s.n = 0) && decide (s.u = 0))) = false) := by first | exact H4.out ⟨_, _, hnz, huz, rfl⟩ | exact H4.out ⟨_, _, hnz, rfl, rfl⟩
            clear KEY H4
            go_wp2_with fail
            cases h5 : Spc.inn s.g 0 2
            case false =>
              refine (rin_any s.g 0 2 _).mono ?_
              rw [h5]
              rintro en wx ⟨rfl, rfl⟩
              go_wp2_with fail
              go_ret2
              exact CPost.mk (z := 5) (by unfold Spc.chk; rw [P4.out]; simp [h1, h2, h3, h5]) rfl rfl B1.out
            case true =>
              refine (rin_any s.g 0 2 _).mono ?_
              rw [h5]
              rintro en wx ⟨rfl, rfl⟩
              have H5 : Hid ((∃ gz uz, (s.g == 2) = gz ∧ decide (s.u < s.d) = uz ∧ (gz && uz) = false) → (!Spc.inn s.g 0 2 || (decide (s.g = 2) && decide (s.u < s.d))) = false) := fun h => by
                obtain ⟨gz, uz, e1, e2, e3⟩ := h
                rw [h5, Bool.not_true, Bool.false_or, ← e3, ← e1, ← e2]
                rfl
              have KEY : Hid ((s.g == 2) = true → decide (s.u < s.d) = true → Spc.chk s = 5) := fun e1 e2 => by
                rw [beq_iff_eq] at e1
                unfold Spc.chk
                rw [P4.out, e2]
                simp [h1, h2, h3, e1]
              cases hgz : (s.g == 2)
              case' true =>
                cases hud : decide (s.u < s.d)
              case true.true =>
                go_wp2_with fail
                go_ret2
                exact CPost.mk (z := 5) (KEY.out hgz hud) rfl rfl B1.out
              all_goals
                have P5 : Hid ((!Spc.inn s.g 0 2 || (decide (s.g = 2) && decide (s.u < s.d))) = false) := by first | exact H5.out ⟨_, _, hgz, hud, rfl⟩ | exact H5.out ⟨_, _, hgz, rfl, rfl⟩
                clear KEY H5
                go_wp2_with fail
                go_loopw [4] (fun i wr => ∃ j : Nat, j ≤ 4 ∧ i = .int .i64 (j : Nat) ∧ (∀ m, m < j → Spc.st s m = true) ∧ Below w.heap.size w wr ∧ SpAt wr w.heap.size s ∧ w.heap.size < wr.heap.size) (fun i _ => 4 - (intOf i).toNat)
                case atStart => exact ⟨0, by omega, rfl, fun m hm => absurd hm (by omega), B1.out, A1.out, Z1.out⟩
                case round =>
                  obtain ⟨j, hj, rfl, hst, hbr, har, hzr⟩ := hrel
                  have BR := Lib.hid hbr
                  have AR := Lib.hid har
                  have ZR := Lib.hid hzr
                  have ST := Lib.hid hst
                  obtain ⟨f0, f1, f2, f3, f4, f5, f6, f7, f8, f9, f10, f11⟩ := har
                  clear hbr hzr hst B1 A1 Z1
                  by_cases hlt : j < 4
                  · have C := Lib.hid (HC.out wr j hlt (fun h0 hg => st_le hg (ST.out (j - 1) (by omega)) (by omega)))
                    go_wp2_with fail
                    cases hs : Spc.st s j
                    case false =>
                      refine C.out.mono ?_
                      rw [hs]
                      rintro en wx ⟨rfl, hbx⟩
                      have BX := Lib.hid (BR.out.trans (hbx.mono BR.out.size))
                      clear hbx
                      have HK : Hid (Spc.chk s = 6 + j) := by
                        show Spc.chk s = _
                        have s0 : 0 < j → Spc.st s 0 = true := fun h => ST.out 0 h
                        have s1 : 1 < j → Spc.st s 1 = true := fun h => ST.out 1 h
                        have s2 : 2 < j → Spc.st s 2 = true := fun h => ST.out 2 h
                        unfold Spc.chk
                        rw [P4.out, P5.out]
                        rcases j with _ | _ | _ | _ | j
                        · simp [h1, h2, h3, hs]
                        · simp [h1, h2, h3, hs, s0]
                        · simp [h1, h2, h3, hs, s0, s1]
                        · simp [h1, h2, h3, hs, s0, s1, s2]
                        · omega
                      go_wp2_with fail
                      refine bodyPost_ret (results_tmp2 rfl _ _ _) rfl ?_
                      exact CPost.mk (z := 6 + j) HK.out (by show (6 : Int) + (j : Int) = _; omega) (by rw [if_neg (by omega)]) BX.out
                    case true =>
                      refine C.out.mono ?_
                      rw [hs]
                      rintro en wx ⟨rfl, hbx⟩
                      have BX := Lib.hid (BR.out.trans (hbx.mono BR.out.size))
                      have AX := Lib.hid (AR.out.below ZR.out hbx)
                      have ZX := Nat.lt_of_lt_of_le ZR.out hbx.size
                      clear hbx
                      go_wp2_with fail
                      exact ⟨⟨j + 1, by omega, by go_num, (fun m hm => by rcases Nat.lt_or_ge m j with h | h; exact ST.out m h; rw [show m = j from by omega]; exact hs), BX.out, AX.out, ZX⟩, by simp [intOf]; omega⟩
                  · obtain rfl : j = 4 := by omega
                    have s0 := ST.out 0 (by omega)
                    have s1 := ST.out 1 (by omega)
                    have s2 := ST.out 2 (by omega)
                    have s3 := ST.out 3 (by omega)
                    have S0 := Lib.hid s0
                    have S1 := Lib.hid s1
                    have S2 := Lib.hid s2
                    have S3 := Lib.hid s3
                    clear s0 s1 s2 s3 ST HC
                    go_wp2_with fail
                    cases h10 : Spc.inn s.w 1 1048576
                    case false =>
                      refine (rin_any s.w 1 1048576 _).mono ?_
                      rw [h10]
                      rintro en wx ⟨rfl, rfl⟩
                      go_wp2_with fail
                      go_ret2
                      exact CPost.mk (z := 10) (by unfold Spc.chk; rw [P4.out, P5.out]; simp [h1, h2, h3, S0.out, S1.out, S2.out, S3.out, h10]) rfl rfl BR.out
                    case true =>
                      refine (rin_any s.w 1 1048576 _).mono ?_
                      rw [h10]
                      rintro en wx ⟨rfl, rfl⟩
                      go_wp2_with fail
                      cases h11 : Spc.inn s.x 0 1048576
                      case false =>
                        refine (rin_any s.x 0 1048576 _).mono ?_
                        rw [h11]
                        rintro en wx ⟨rfl, rfl⟩
                        go_wp2_with fail
                        go_ret2
                        exact CPost.mk (z := 11) (by unfold Spc.chk; rw [P4.out, P5.out]; simp [h1, h2, h3, S0.out, S1.out, S2.out, S3.out, h10, h11]) rfl rfl BR.out
                      case true =>
                        refine (rin_any s.x 0 1048576 _).mono ?_
                        rw [h11]
                        rintro en wx ⟨rfl, rfl⟩
                        go_wp2_with fail
                        cases h12 : Spc.inn s.k 1 1048576
                        case false =>
                          refine (rin_any s.k 1 1048576 _).mono ?_
                          rw [h12]
                          rintro en wx ⟨rfl, rfl⟩
                          go_wp2_with fail
                          go_ret2
                          exact CPost.mk (z := 12) (by unfold Spc.chk; rw [P4.out, P5.out]; simp [h1, h2, h3, S0.out, S1.out, S2.out, S3.out, h10, h11, h12]) rfl rfl BR.out
                        case true =>
                          refine (rin_any s.k 1 1048576 _).mono ?_
                          rw [h12]
                          rintro en wx ⟨rfl, rfl⟩
                          go_wp2_with fail
                          go_ret2
                          exact CPost.mk (z := 0) (by unfold Spc.chk; rw [P4.out, P5.out]; simp [h1, h2, h3, S0.out, S1.out, S2.out, S3.out, h10, h11, h12]) rfl rfl BR.out
end Go.Proofs.YtifokcpkamdkeaaDoor
