/-
  WorkerApart. No condition.
-/
import Derived.Test.YtgljepjflpijiaaWkLaw0
import Derived.Test.YtgljepjflpijiaaWkPure
namespace Go.Proofs.Ytgljepjflpijiaa
open Go.RowKit Go.Deep
set_option linter.unusedSimpArgs false
set_option linter.unusedVariables false
set_option maxRecDepth 100000

set_option maxHeartbeats 6400000 in
theorem wkapart_walk {L : WkP} (hC : WC L) (many : Int) (x : Nt.M) (W : World) : Calls Try.prog 6 #[.int .i64 many, Nt.val x] W (WkAns (.bool true) W) := by
  have CL := Lib.hid (fun W => wklives_any hC W)
  have CG := Lib.hid (fun W => rtgood_any x W)
  have ub := Su.um_bd many (n := 16) (by omega)
  have e1 := Su.um_is many (n := 16) (by omega) (by omega)
  obtain ⟨M, hM⟩ : ∃ M : Nat, (1 : Int) + Su.um many 16 = ((M : Nat) : Int) := ⟨(1 + Su.um many 16).toNat, by omega⟩
  have M1 : Hid (1 ≤ M ∧ M ≤ 16) := by show _ ∧ _; omega
  have GR := Nt.good_right x
  have GI := Nt.good_in x
  obtain ⟨y, hy⟩ : ∃ y, y = Nt.good x := ⟨_, rfl⟩
  have GU : 0 ≤ y.u ∧ y.u < 8 ∧ 0 ≤ y.s ∧ y.s < 8 ∧ 0 ≤ y.v ∧ y.v < 4 ∧ 0 ≤ y.e ∧ y.e < 8 ∧ 0 ≤ y.t := by rw [hy]; unfold Nt.good; simp only; omega
  rw [← hy] at CG GR GI
  clear hy
  obtain ⟨W1, hW⟩ : ∃ W1, W1 = W.alloc (.cells #[.int .i64 x.k, .int .i64 x.e, .int .i64 x.s, .int .i64 x.u, .int .i64 x.v, .int .i64 x.t] 38) := ⟨_, rfl⟩
  have B := Lib.hid ((Below.refl W.heap.size W).alloc (Nat.le_refl _) (.cells (Nt.cs x) 38))
  have N := Lib.hid (NtAt.new W x)
  obtain ⟨g, hg⟩ : ∃ g, g = W.heap.size := ⟨_, rfl⟩
  have GB : Hid (W.heap.size ≤ g) := by show _ ≤ _; omega
  unfold Nt.cs at B N
  rw [← hW] at B N
  rw [← hg] at N
  have HW := Lib.hid hW
  have HG := Lib.hid hg
  have HC := Lib.hid hC
  clear hW hg hC
  go_enter Try.func6, Try.ntmps6
  go_upto_region 1 with fail
  rw [← HW.out, ← HG.out]
  go_upto_region 4 with (go_at_call 9; (with_reducible refine (CL.out _).mono ?_); rintro e w2 ⟨rfl, hb⟩; replace N := Lib.hid (N.out.on hb); replace B := Lib.hid (B.out.trans (hb.mono B.out.size)); clear hb)
  obtain ⟨y0, y1, y2, y3, y4, y5, yl⟩ := N.out.cs
  have fz : ∀ i, w2.frozen? ⟨g, i, none⟩ = false := fun i => frozen_of_row _ _ _ _ _ N.out.row
  go_upto_region 5 with (go_at_call 14; (with_reducible refine (CG.out _).mono ?_); rintro e w3 ⟨rfl, hb⟩; replace N := Lib.hid (N.out.on hb); replace B := Lib.hid (B.out.trans (hb.mono B.out.size)); clear hb y0 y1 y2 y3 y4 y5 yl fz; obtain ⟨y0, y1, y2, y3, y4, y5, yl⟩ := N.out.cs; have fz : ∀ i, w3.frozen? ⟨g, i, none⟩ = false := fun i => frozen_of_row _ _ _ _ _ N.out.row)
  obtain ⟨N4, B4⟩ := nt_put N.out B.out GB.out y
  replace N := Lib.hid N4
  replace B := Lib.hid B4
  clear y0 y1 y2 y3 y4 y5 yl fz N4 B4
  obtain ⟨w4, hw4⟩ : ∃ w4, w4 = (((((w3.setCell ⟨g, 0, none⟩ (.int .i64 y.k)).setCell ⟨g, 1, none⟩ (.int .i64 y.e)).setCell ⟨g, 2, none⟩ (.int .i64 y.s)).setCell ⟨g, 3, none⟩ (.int .i64 y.u)).setCell ⟨g, 4, none⟩ (.int .i64 y.v)).setCell ⟨g, 5, none⟩ (.int .i64 y.t) := ⟨_, rfl⟩
  rw [← hw4] at N B ⊢
  clear hw4
  obtain ⟨y0, y1, y2, y3, y4, y5, yl⟩ := N.out.cs
  have fz : ∀ i, w4.frozen? ⟨g, i, none⟩ = false := fun i => frozen_of_row _ _ _ _ _ N.out.row
  obtain ⟨gu0, gu1, gs0, gs1, gv0, gv1, ge0, ge1, gt0⟩ := GU
  go_upto_region 7 with fail
  obtain ⟨m, hm⟩ : ∃ m : Nt.M, m = ⟨1, y.e, y.s + 1, y.u, y.v, y.t⟩ := ⟨_, rfl⟩
  have N6 : NtAt ((w4.setCell ⟨g, 0, none⟩ (.int .i64 1)).setCell ⟨g, 2, none⟩ (.int .i64 (y.s + 1))) g m := by
    rw [hm]
    exact ⟨heap_setCell_same _ g 2 _ _ _ (heap_setCell_same w4 g 0 _ _ _ N.out.row)⟩
  replace B := Lib.hid ((B.out.setCell (p := ⟨g, 0, none⟩) GB.out (.int .i64 1)).setCell (p := ⟨g, 2, none⟩) GB.out (.int .i64 (y.s + 1)))
  replace N := Lib.hid N6
  have MI : Hid (Nt.In m) := by show Nt.In m; rw [hm]; exact ⟨by show Nt.i64 1; decide, GI.e, by unfold Nt.i64; simp only; omega, GI.u, GI.v, GI.t⟩
  have FA : Hid (∀ n many : Int, Wk.applyE (Wk.new n many) m = if Wk.own (Wk.new n many) m.u then 0 else 5) := fun n many => Wk.first_apply (by rw [hm]; unfold Nt.right Nt.mn; simp only [Bool.and_eq_true, Bool.or_eq_true, decide_eq_true_eq]; exact ⟨.inl (by first | exact trivial | rfl), by show (0 : Int) ≤ min (min (min (min y.e (y.s + 1)) y.u) y.v) y.t; omega⟩) (by rw [hm]) (by rw [hm]; simp only; omega) (by rw [hm]; exact gv0) (by rw [hm]; exact ge0)
  have MU : Hid (0 ≤ m.u ∧ m.u < 8) := by show _ ∧ _; rw [hm]; exact ⟨gu0, gu1⟩
  clear y0 y1 y2 y3 y4 y5 yl fz N6 hm gu0 gu1 gs0 gs1 gv0 gv1 ge0 ge1 gt0 GI GR ub e1 hM
  generalize (w4.setCell ⟨g, 0, none⟩ (.int .i64 1)).setCell ⟨g, 2, none⟩ (.int .i64 (y.s + 1)) = w5 at *
  go_wp2_with fail
  go_loopw [5, 6, 7] (fun sn sd si wr => ∃ i : Nat, si = .int .i64 (i : Nat) ∧ i ≤ M ∧ sn = .int .i64 ((Wk.sumU M i : Nat) : Int) ∧ sd = .int .i64 ((Wk.didU M m.u i : Nat) : Int) ∧ NtAt wr g m ∧ Below W.heap.size W wr) (fun _ _ si _ => M - (intOf si).toNat)
  case atStart => exact ⟨0, rfl, by omega, rfl, rfl, N.out, B.out⟩
  case round =>
    obtain ⟨i, rfl, hi, rfl, rfl, hn, hb0⟩ := hrel
    replace N := Lib.hid hn
    replace B := Lib.hid hb0
    clear hn hb0
    have q0 : (0 : Int) ≤ ((i : Nat) : Int) := by omega
    have q6 : ((M : Nat) : Int) ≤ 16 := by have := M1.out; omega
    by_cases hlt : i < M
    · have q1 : ((i : Nat) : Int) < ((M : Nat) : Int) := by omega
      have hok : Wk.mayNew ((i : Nat) : Int) ((M : Nat) : Int) := by unfold Wk.mayNew; have := M1.out; omega
      have C1 := Lib.hid (fun w (hb : Below W.heap.size W w) (hv : ∀ b, b = g → b < w.heap.size) => win_make (F := fun b => b = g) HC.out (n := ((i : Nat) : Int)) (many := ((M : Nat) : Int)) (by unfold Nt.i64; omega) (by unfold Nt.i64; omega) hok hb hv)
      have UL := Wk.units_le (Wk.new ((i : Nat) : Int) ((M : Nat) : Int)) 16
      have SL := Wk.sumU_le M i
      have DL := Wk.didU_le M m.u i
      have C3 := Lib.hid (fun w (h : ∃ q, WIn L W (fun b => b = g) q (Wk.new ((i : Nat) : Int) ((M : Nat) : Int)) w) => h)
      have SN : Hid (Wk.sumU M (i + 1) = Wk.sumU M i + (Wk.units (Wk.new ((i : Nat) : Int) ((M : Nat) : Int)) 16).length) := rfl
      have DN : Hid (Wk.didU M m.u (i + 1) = Wk.didU M m.u i + if Wk.own (Wk.new ((i : Nat) : Int) ((M : Nat) : Int)) m.u then 1 else 0) := rfl
      have CU := Lib.hid (fun q w (h : WIn L W (fun b => b = g) q (Wk.new ((i : Nat) : Int) ((M : Nat) : Int)) w) => win_units HC.out h)
      have CA := Lib.hid (fun q w (h : WIn L W (fun b => b = g) q (Wk.new ((i : Nat) : Int) ((M : Nat) : Int)) w) => win_apply HC.out h MI.out)
      rw [FA.out] at CA
      clear C3 hok
      generalize Wk.new ((i : Nat) : Int) ((M : Nat) : Int) = r at *
      generalize hus : Wk.units r 16 = us at *
      generalize Wk.sumU M i = sn at *
      generalize Wk.didU M m.u i = sd at *
      have p1 : ((sn : Nat) : Int) ≤ 256 := by have := M1.out; omega
      have p2 : ((us.length : Nat) : Int) ≤ 16 := by omega
      have p3 : ((sd : Nat) : Int) ≤ 16 := by have := M1.out; omega
      have HL := Lib.hid hlt
      clear SL UL DL hus hlt hi
      by_cases ho : Wk.own r m.u
      · rw [if_pos ho] at CA DN
        clear ho
        go_wp2_with (first
          | ((with_reducible show wpList _ _ _ ({ dst := some 48, op := .load _ _, type := _, pos := _, after := _, guard := _ } :: _) _ _); refine wpList_load_msg rfl (.tmp 3) rfl g 0 rfl m N.out.range ?_)
          | (go_at_call 10; (with_reducible refine (C1.out _ B.out (fun b e => by rw [e]; exact N.out.cs.lt)).mono ?_); rintro e w6 ⟨q, rfl, hi6, hb⟩; have I := Lib.hid hi6; replace N := Lib.hid (N.out.on hb); clear hb hi6)
          | (go_at_call 18; (with_reducible refine (CU.out _ _ I.out).mono ?_); rintro e w7 ⟨v7, rfl, ov, hb⟩; obtain ⟨A7, c7, rfl, -⟩ := ov.sl; replace N := Lib.hid (N.out.on hb); replace I := Lib.hid (I.out.on HC.out hb); clear hb ov)
          | (go_at_call 17; (with_reducible refine (CA.out _ _ I.out).mono ?_); rintro e w8 ⟨rfl, hi8, hk8⟩; have B8 := Lib.hid hi8.below; have N8 := Lib.hid (N.out.keep (hk8 _ rfl)); clear hi8 hk8))
        have hl := HL.out
        exact ⟨⟨i + 1, by go_num, by omega, by rw [SN.out]; go_num, by rw [DN.out]; go_num, N8.out, B8.out⟩, by simp [intOf]; omega⟩
      · rw [if_neg ho] at CA DN
        clear ho
        go_wp2_with (first
          | ((with_reducible show wpList _ _ _ ({ dst := some 48, op := .load _ _, type := _, pos := _, after := _, guard := _ } :: _) _ _); refine wpList_load_msg rfl (.tmp 3) rfl g 0 rfl m N.out.range ?_)
          | (go_at_call 10; (with_reducible refine (C1.out _ B.out (fun b e => by rw [e]; exact N.out.cs.lt)).mono ?_); rintro e w6 ⟨q, rfl, hi6, hb⟩; have I := Lib.hid hi6; replace N := Lib.hid (N.out.on hb); clear hb hi6)
          | (go_at_call 18; (with_reducible refine (CU.out _ _ I.out).mono ?_); rintro e w7 ⟨v7, rfl, ov, hb⟩; obtain ⟨A7, c7, rfl, -⟩ := ov.sl; replace N := Lib.hid (N.out.on hb); replace I := Lib.hid (I.out.on HC.out hb); clear hb ov)
          | (go_at_call 17; (with_reducible refine (CA.out _ _ I.out).mono ?_); rintro e w8 ⟨rfl, hi8, hk8⟩; have B8 := Lib.hid hi8.below; have N8 := Lib.hid (N.out.keep (hk8 _ rfl)); clear hi8 hk8))
        have hl := HL.out
        exact ⟨⟨i + 1, by go_num, by omega, by rw [SN.out]; go_num, by rw [DN.out]; rfl, N8.out, B8.out⟩, by simp [intOf]; omega⟩
    · obtain rfl : i = M := by omega
      rw [Wk.sumU_all M1.out.1 M1.out.2, Wk.didU_all M1.out.1 M1.out.2 MU.out.1 MU.out.2]
      go_wp2_with fail
      go_ret
      exact ⟨rfl, B.out⟩
end Go.Proofs.Ytgljepjflpijiaa
