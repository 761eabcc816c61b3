import Derived.Test.YtnacjhnfkkddcaaGreatDoorQp23
set_option maxHeartbeats 6400000
set_option maxRecDepth 100000
set_option linter.unusedSimpArgs false
set_option linter.unusedVariables false
namespace Go.Proofs.YtnacjhnfkkddcaaGreatDoor
open Go.RowKit
theorem arr_int : Tryz.prog.underlying 33 = some (.array 4 3) := by kernel_rfl
theorem jl7 (s : Spc.Sp) (j : Nat) (hj : j < 4) (W : World) : (Instr.index 33 (.agg #[.int .i64 s.a, .int .i64 s.b, .int .i64 s.c, .int .i64 s.e]) (.int .i64 (j : Nat))).run Tryz.prog W = .ok (.int .i64 (Spc.at_ s j)) W := by
 have h1 : (0 : Int) ≤ (j : Nat) ∧ ((j : Nat) : Int) < ((4 : Nat) : Int) := by omega
 have hp : (#[.int .i64 s.a, .int .i64 s.b, .int .i64 s.c, .int .i64 s.e] : Array Value)[j]? = some (.int .i64 (Spc.at_ s j)) := by
  rcases j with _ | _ | _ | _ | j <;> first | rfl | omega
 generalize (#[.int .i64 s.a, .int .i64 s.b, .int .i64 s.c, .int .i64 s.e] : Array Value) = cs at *
 simp [Instr.index, run_underlying arr_int, asIntOf, part, isAgg, run_underlying Tryz.underlying3, h1, hp, go_sem]
 intro h; omega
theorem jl8 (s : Spc.Sp) (w : World) : Calls Tryz.prog 112 #[Spc.val s] w fun e w' => ∃ A c, e = .returned (.slice A (Spc.steps s).length c) ∧ OwnI w' w.heap.size (.slice A (Spc.steps s).length c) (Spc.steps s) ∧ Below w.heap.size w w' := by
 have hb := (Below.refl w.heap.size w).alloc (Nat.le_refl _) (.cells (Spc.cells s) 35)
 have A1 := zh (jae (heap_alloc_new w (.cells (Spc.cells s) 35)))
 have B1 := zh hb
 obtain ⟨f0, f1, f2, f3, f4, f5, f6, f7, f8, f9, f10, f11⟩ := A1.out
 clear hb
 unfold Spc.val at *
 unfold Spc.cells at *
 go_enter Tryz.func112, Tryz.ntmps112
 go_wp2_with fail
 generalize w.alloc (.cells #[.int .i64 s.v, .int .i64 s.d, .int .i64 s.u, .int .i64 s.n, .int .i64 s.g, .int .i64 s.a, .int .i64 s.b, .int .i64 s.c, .int .i64 s.e, .int .i64 s.w, .int .i64 s.x, .int .i64 s.k] 35) = w1 at *
 clear f0 f1 f2 f3 f4 f5 f6 f7 f8 f9 f10 f11 A1
 go_loopw [3, 8] (fun v i wr => ∃ (j : Nat) (l : List Int), j ≤ 4 ∧ i = .int .i64 (j : Nat) ∧ l = [s.a, s.b, s.c, s.e].take j ∧ (∀ m, m < j → Spc.at_ s m ≠ 0) ∧ OwnI wr w1.heap.size v l ∧ Below w1.heap.size w1 wr) (fun _ i _ => 4 - (intOf i).toNat)
 case atStart => exact ⟨0, [], by omega, rfl, rfl, fun m hm => absurd hm (by omega), World.ownsRow_nil _ _ _ _, Below.refl _ _⟩
 case round =>
  obtain ⟨j, l, hj, rfl, hl, hnz, ho, hbr⟩ := hrel
  have O := zh ho
  have B := zh hbr
  have HL := zh hl
  have NZ := zh hnz
  have hll : l.length ≤ 4 := by rw [hl, List.length_take]; simp; omega
  have hbase := hbr.size
  have fin : Spc.steps s = l → ∃ A c, u3 = .slice A (Spc.steps s).length c ∧ OwnI wr w.heap.size (.slice A (Spc.steps s).length c) (Spc.steps s) ∧ Below w.heap.size w wr := fun e => by
   obtain ⟨A', c', ev, _⟩ := O.out.sl
   rw [e, ev]
   exact ⟨A', c', rfl, jdd (by rw [← ev]; exact O.out) B1.out.size, B1.out.trans (B.out.mono B1.out.size)⟩
  have FIN := zh fin
  clear ho hbr hl hnz fin
  by_cases hlt : j < 4
  ·have hpj := fun W => jl7 s j hlt W
   have i1 : (0 : Int) ≤ (j : Int) := by omega
   have i2 : (j : Int) < 4 := by omega
   obtain ⟨x, hx⟩ : ∃ x, x = Spc.at_ s j := ⟨_, rfl⟩
   rw [← hx] at hpj
   by_cases h0 : x = 0
   ·have hxb : (x == 0) = true := by rw [h0]; rfl
    have E := zh (FIN.out (by rw [HL.out]; exact jcd (j := j) (by omega) NZ.out (.inr (by rw [← hx]; exact h0))))
    clear h0 hx
    go_wp2_with fail
    go_ret
    obtain ⟨A', c', ev, h1, h2⟩ := E.out
    exact ⟨A', c', by rw [← ev]; rfl, h1, h2⟩
   ·have hxb : (x == 0) = false := by rw [beq_eq_false_iff_ne]; exact h0
    have NX : Hid (∀ m, m < j + 1 → Spc.at_ s m ≠ 0) := fun m hm => by
     rcases Nat.lt_or_ge m j with h | h
     ·exact NZ.out m h
     ·rw [show m = j by omega, ← hx]; exact h0
    have HN : Hid (l ++ [x] = [s.a, s.b, s.c, s.e].take (j + 1)) := by
     show _ = _
     rw [HL.out, hx]
     rcases j with _ | _ | _ | _ | j <;> first | rfl | omega
    clear h0 hx
    go_wp2_with (at_builtin; refine ja3 rfl (.tmp 13) (.tmp 15) rfl w1.heap.size _ l rfl O.out _ rfl (by omega) hbase ?_; intro v3 w3 ho3 hg3; have O3 := zh ho3; have B3 := zh (B.out.grown hg3 hbase (jb2 O.out)); clear ho3 hg3)
    exact ⟨⟨j + 1, l ++ [x], by omega, by go_num, HN.out, NX.out, O3.out, B3.out⟩, by simp [intOf]; omega⟩
  ·obtain rfl : j = 4 := by omega
   have E := zh (FIN.out (by rw [HL.out]; exact jcd (j := 4) (by omega) NZ.out (.inl rfl)))
   go_wp2_with fail
   go_ret
   obtain ⟨A', c', ev, h1, h2⟩ := E.out
   exact ⟨A', c', by rw [← ev]; rfl, h1, h2⟩
open Go.Deep Go.Maps
theorem jl9 (q : Nat) (s : Bk.St) (ru : Nat → Bk.Un) (rv : Int) (lo ko : Option Nat) (H : Value) (K : Kv.St) (w : World) (h : BdIs w q s ru rv lo ko H K) (ht : BT w) (r : Rc.R) (hin : Rc.In r) : Calls Tryz.prog 73 #[.pointer (some ⟨q, 0, none⟩), .agg (Rc.cells r)] w (BRet (.int .i64 (Bk.chk7 s r)) w) := by
 obtain ⟨ans, hans⟩ : ∃ ans, ans = Bk.chk7 s r := ⟨_, rfl⟩
 rw [← hans]
 have AN := zh hans
 clear hans
 have HT := zh ht
 obtain ⟨W, hW⟩ : ∃ W, W = w.alloc (.cells (Rc.cells r) 53) := ⟨_, rfl⟩
 obtain ⟨g, hg⟩ : ∃ g, g = w.heap.size := ⟨_, rfl⟩
 have R0 := zh (RdC.open_ h r)
 rw [← hW, ← hg] at R0
 have GE : Hid (w.heap.size ≤ g) := Nat.le_of_eq hg.symm
 have e1 : Bk.passed.toList = [112, 97, 115, 115, 101, 100] := by rw [ByteArray.toList_eq]; rfl
 have e2 : Bk.promote.toList = [112, 114, 111, 109, 111, 116, 101] := by rw [ByteArray.toList_eq]; rfl
 have t1 : (r.text.toList == [112, 97, 115, 115, 101, 100]) = decide (r.text = Bk.passed) := by rw [← e1]; exact jbv
 have t2 : (r.text.toList == [112, 114, 111, 109, 111, 116, 101]) = decide (r.text = Bk.promote) := by rw [← e2]; exact jbv
 clear e1 e2
 have CW : Hid (∀ W, RdC w q s ru rv lo ko H K g r W → Calls Tryz.prog 111 #[.int .i64 3] W (jbb W (.string ⟨#[112, 114, 111, 109, 111, 116, 101]⟩))) := fun W h => jlp 3 W (HT.out.on h.b).ph
 have CS := zh (fun W => jl8 s.sp W)
 unfold Spc.val Spc.cells at CS
 have hw1 : wrap64 (s.step + 1) = s.step + 1 := IntWalk.wrap64_in _ ⟨by have := h.lok.ok.step; omega, by have := h.lok.ok.step; omega⟩
 have hw2 : IntKind.i64.wrap (s.step + 1) = s.step + 1 := by rw [IntKind.wrap_i64]; have := h.lok.ok.step; omega
 have HA : Hid (ans = if s.ph ≠ 1 then 10 else if r.text ≠ Bk.passed ∧ r.text ≠ Bk.promote then 2 else if r.who ≠ s.step + 1 ∨ ((Spc.steps s.sp).length : Int) < r.who then 7 else 0) := AN.out
 clear AN
 generalize Spc.steps s.sp = sl at *
 clear h ht
 go_enter Tryz.func73, Tryz.ntmps73
 go_upto_region 1 with fail
 rw [← hW, ← hg]
 clear hW hg
 have b9 := R0.out.bd.at_.cs.c9
 have lq := R0.out.bd.lt.1
 by_cases hph : s.ph = 1
 ·have o1 : (s.ph != 1) = false := by simpa using hph
  go_upto_region 3 with fail
  clear b9 lq
  by_cases hx1 : r.text = Bk.passed
  ·have TX : Hid (¬ (r.text ≠ Bk.passed ∧ r.text ≠ Bk.promote)) := fun h => h.1 hx1
   rw [decide_eq_true hx1] at t1
   clear t2 hx1
   refine wp_region_held_drew (S := RdC w q s ru rv lo ko H K g r) (by kernel_rfl) (R0.out.on (Below.refl _ _).drew) (fun hS => ?_)
   refine tY 0 hS ?_
   refine tZ 1 rfl (by intro W hW; have c5 := hW.rc.cs.c5; have lg := hW.rc.cs.lt; go_simp; (try with_reducible rfl)) hS ?_
   refine tY 2 hS ?_
   refine tY 3 hS ?_
   refine tN 4 hS ?_
   refine tN 5 hS ?_
   simp only [Act.put, zT, zO, zS]
   refine tN 6 hS ?_
   refine tN 7 hS ?_
   refine tY 8 hS ?_
   refine tY 9 hS ?_
   simp only [Act.put, zT, zO, zS]
   refine wpAnyH_done (by kernel_rfl) ?_ _
   have R1 := zh hS
   clear hS
   by_cases hst : r.who = s.step + 1
   ·have p1 : (r.who != s.step + 1) = false := by simpa using hst
    by_cases hsl : (sl.length : Int) < r.who
    ·have E : ans = 7 := by rw [HA.out, if_neg (by omega), if_neg TX.out, if_pos (.inr hsl)]
     subst E
     have p2 : decide ((sl.length : Int) < r.who) = true := decide_eq_true hsl
     clear hst hsl hph
     go_upto_region 5 with fail
     refine wp_region_held_drew (S := RdC w q s ru rv lo ko H K g r) (by kernel_rfl) (R1.out.on (Below.refl _ _).drew) (fun hS => ?_)
     refine tY 0 hS ?_
     refine tZ 1 rfl (by intro W hW; have c2 := hW.rc.cs.c2; have lg := hW.rc.cs.lt; go_simp; (try with_reducible rfl)) hS ?_
     refine tY 2 hS ?_
     refine tY 3 hS ?_
     refine tY 4 hS ?_
     refine tY 5 hS ?_
     simp only [Act.put, zT, zO, zS]
     refine tZ 6 rfl (by intro W hW; have b10 := hW.bd.at_.cs.c10; have lq := hW.bd.lt.1; go_simp; (try with_reducible rfl)) hS ?_
     refine tY 7 hS ?_
     refine tY 8 hS ?_
     refine tY 9 hS ?_
     refine tY 10 hS ?_
     refine tZ 11 rfl (by intro W hW; have c2 := hW.rc.cs.c2; have lg := hW.rc.cs.lt; go_simp; (try with_reducible rfl)) hS ?_
     simp only [Act.put, zT, zO, zS]
     refine tY 12 hS ?_
     refine tY 13 hS ?_
     refine tY 14 hS ?_
     refine tY 15 hS ?_
     refine tZ 16 rfl (by intro W hW; have x := hW.bd.at_.cs; have lq := hW.bd.lt.1; obtain ⟨x0, x1, x2, x3, x4, x5, x6, x7, x8, x9, x10, x11, x12, x13, x14, x15, x16, x17, x18, x19, x20, x21, x22, x23, x24, x25, x74, xlt⟩ := x; go_simp; (try with_reducible rfl)) hS ?_
     simp only [Act.put, zT, zO, zS]
     refine rO 17 (fun K hK => ?_)
     go_simp
     with_reducible refine (CS.out _).mono ?_
     rintro e w9 ⟨A9, c9, rfl, _, hb⟩
     replace hS := hS.on hb
     clear hb
     refine hK.out _ _ hS (fun _ => ?_)
     clear hK K
     refine tY 18 hS ?_
     refine tY 19 hS ?_
     refine tY 20 hS ?_
     refine tY 21 hS ?_
     simp only [Act.put, zT, zO, zS]
     refine wpAnyH_done (by kernel_rfl) ?_ _
     have R2 := zh hS
     clear hS
     go_wp2_with fail
     go_ret
     exact ⟨rfl, R2.out.b⟩
    ·have E : ans = 0 := by rw [HA.out, if_neg (by omega), if_neg TX.out, if_neg (by omega)]
     subst E
     have p2 : decide ((sl.length : Int) < r.who) = false := decide_eq_false hsl
     clear hst hsl hph
     go_upto_region 5 with fail
     refine wp_region_held_drew (S := RdC w q s ru rv lo ko H K g r) (by kernel_rfl) (R1.out.on (Below.refl _ _).drew) (fun hS => ?_)
     refine tY 0 hS ?_
     refine tZ 1 rfl (by intro W hW; have c2 := hW.rc.cs.c2; have lg := hW.rc.cs.lt; go_simp; (try with_reducible rfl)) hS ?_
     refine tY 2 hS ?_
     refine tY 3 hS ?_
     refine tY 4 hS ?_
     refine tY 5 hS ?_
     simp only [Act.put, zT, zO, zS]
     refine tZ 6 rfl (by intro W hW; have b10 := hW.bd.at_.cs.c10; have lq := hW.bd.lt.1; go_simp; (try with_reducible rfl)) hS ?_
     refine tY 7 hS ?_
     refine tY 8 hS ?_
     refine tY 9 hS ?_
     refine tY 10 hS ?_
     refine tZ 11 rfl (by intro W hW; have c2 := hW.rc.cs.c2; have lg := hW.rc.cs.lt; go_simp; (try with_reducible rfl)) hS ?_
     simp only [Act.put, zT, zO, zS]
     refine tY 12 hS ?_
     refine tY 13 hS ?_
     refine tY 14 hS ?_
     refine tY 15 hS ?_
     refine tZ 16 rfl (by intro W hW; have x := hW.bd.at_.cs; have lq := hW.bd.lt.1; obtain ⟨x0, x1, x2, x3, x4, x5, x6, x7, x8, x9, x10, x11, x12, x13, x14, x15, x16, x17, x18, x19, x20, x21, x22, x23, x24, x25, x74, xlt⟩ := x; go_simp; (try with_reducible rfl)) hS ?_
     simp only [Act.put, zT, zO, zS]
     refine rO 17 (fun K hK => ?_)
     go_simp
     with_reducible refine (CS.out _).mono ?_
     rintro e w9 ⟨A9, c9, rfl, _, hb⟩
     replace hS := hS.on hb
     clear hb
     refine hK.out _ _ hS (fun _ => ?_)
     clear hK K
     refine tY 18 hS ?_
     refine tY 19 hS ?_
     refine tY 20 hS ?_
     refine tY 21 hS ?_
     simp only [Act.put, zT, zO, zS]
     refine wpAnyH_done (by kernel_rfl) ?_ _
     have R2 := zh hS
     clear hS
     go_wp2_with fail
     go_ret
     exact ⟨rfl, R2.out.b⟩
   ·have p1 : (r.who != s.step + 1) = true := by simpa using hst
    have E : ans = 7 := by rw [HA.out, if_neg (by omega), if_neg TX.out, if_pos (.inl hst)]
    subst E
    clear hst hph
    go_upto_region 5 with fail
    refine wp_region_held_drew (S := RdC w q s ru rv lo ko H K g r) (by kernel_rfl) (R1.out.on (Below.refl _ _).drew) (fun hS => ?_)
    refine tY 0 hS ?_
    refine tZ 1 rfl (by intro W hW; have c2 := hW.rc.cs.c2; have lg := hW.rc.cs.lt; go_simp; (try with_reducible rfl)) hS ?_
    refine tY 2 hS ?_
    refine tY 3 hS ?_
    refine tY 4 hS ?_
    refine tY 5 hS ?_
    simp only [Act.put, zT, zO, zS]
    refine tZ 6 rfl (by intro W hW; have b10 := hW.bd.at_.cs.c10; have lq := hW.bd.lt.1; go_simp; (try with_reducible rfl)) hS ?_
    refine tY 7 hS ?_
    refine tY 8 hS ?_
    refine tY 9 hS ?_
    refine tN 10 hS ?_
    refine tN 11 hS ?_
    simp only [Act.put, zT, zO, zS]
    refine tN 12 hS ?_
    refine tN 13 hS ?_
    refine tN 14 hS ?_
    refine tN 15 hS ?_
    refine tN 16 hS ?_
    refine tN 17 hS ?_
    simp only [Act.put, zT, zO, zS]
    refine tN 18 hS ?_
    refine tN 19 hS ?_
    refine tY 20 hS ?_
    refine tY 21 hS ?_
    simp only [Act.put, zT, zO, zS]
    refine wpAnyH_done (by kernel_rfl) ?_ _
    have R2 := zh hS
    clear hS
    go_wp2_with fail
    go_ret
    exact ⟨rfl, R2.out.b⟩
  ·rw [decide_eq_false hx1] at t1
   by_cases hx2 : r.text = Bk.promote
   ·have TX : Hid (¬ (r.text ≠ Bk.passed ∧ r.text ≠ Bk.promote)) := fun h => h.2 hx2
    rw [decide_eq_true hx2] at t2
    clear hx1 hx2
    refine wp_region_held_drew (S := RdC w q s ru rv lo ko H K g r) (by kernel_rfl) (R0.out.on (Below.refl _ _).drew) (fun hS => ?_)
    refine tY 0 hS ?_
    refine tZ 1 rfl (by intro W hW; have c5 := hW.rc.cs.c5; have lg := hW.rc.cs.lt; go_simp; (try with_reducible rfl)) hS ?_
    refine tY 2 hS ?_
    refine tY 3 hS ?_
    refine tY 4 hS ?_
    refine tZ 5 rfl (by intro W hW; have c5 := hW.rc.cs.c5; have lg := hW.rc.cs.lt; go_simp; (try with_reducible rfl)) hS ?_
    simp only [Act.put, zT, zO, zS]
    refine rO 6 (fun K hK => ?_)
    go_simp
    with_reducible refine (CW.out _ hS).mono ?_
    rintro e w7 ⟨rfl, hb⟩
    replace hS := hS.on hb
    clear hb
    refine hK.out _ _ hS (fun _ => ?_)
    clear hK K
    refine tY 7 hS ?_
    refine tY 8 hS ?_
    refine tY 9 hS ?_
    simp only [Act.put, zT, zO, zS]
    refine wpAnyH_done (by kernel_rfl) ?_ _
    have R1 := zh hS
    clear hS
    by_cases hst : r.who = s.step + 1
    ·have p1 : (r.who != s.step + 1) = false := by simpa using hst
     by_cases hsl : (sl.length : Int) < r.who
     ·have E : ans = 7 := by rw [HA.out, if_neg (by omega), if_neg TX.out, if_pos (.inr hsl)]
      subst E
      have p2 : decide ((sl.length : Int) < r.who) = true := decide_eq_true hsl
      clear hst hsl hph
      go_upto_region 5 with fail
      refine wp_region_held_drew (S := RdC w q s ru rv lo ko H K g r) (by kernel_rfl) (R1.out.on (Below.refl _ _).drew) (fun hS => ?_)
      refine tY 0 hS ?_
      refine tZ 1 rfl (by intro W hW; have c2 := hW.rc.cs.c2; have lg := hW.rc.cs.lt; go_simp; (try with_reducible rfl)) hS ?_
      refine tY 2 hS ?_
      refine tY 3 hS ?_
      refine tY 4 hS ?_
      refine tY 5 hS ?_
      simp only [Act.put, zT, zO, zS]
      refine tZ 6 rfl (by intro W hW; have b10 := hW.bd.at_.cs.c10; have lq := hW.bd.lt.1; go_simp; (try with_reducible rfl)) hS ?_
      refine tY 7 hS ?_
      refine tY 8 hS ?_
      refine tY 9 hS ?_
      refine tY 10 hS ?_
      refine tZ 11 rfl (by intro W hW; have c2 := hW.rc.cs.c2; have lg := hW.rc.cs.lt; go_simp; (try with_reducible rfl)) hS ?_
      simp only [Act.put, zT, zO, zS]
      refine tY 12 hS ?_
      refine tY 13 hS ?_
      refine tY 14 hS ?_
      refine tY 15 hS ?_
      refine tZ 16 rfl (by intro W hW; have x := hW.bd.at_.cs; have lq := hW.bd.lt.1; obtain ⟨x0, x1, x2, x3, x4, x5, x6, x7, x8, x9, x10, x11, x12, x13, x14, x15, x16, x17, x18, x19, x20, x21, x22, x23, x24, x25, x74, xlt⟩ := x; go_simp; (try with_reducible rfl)) hS ?_
      simp only [Act.put, zT, zO, zS]
      refine rO 17 (fun K hK => ?_)
      go_simp
      with_reducible refine (CS.out _).mono ?_
      rintro e w9 ⟨A9, c9, rfl, _, hb⟩
      replace hS := hS.on hb
      clear hb
      refine hK.out _ _ hS (fun _ => ?_)
      clear hK K
      refine tY 18 hS ?_
      refine tY 19 hS ?_
      refine tY 20 hS ?_
      refine tY 21 hS ?_
      simp only [Act.put, zT, zO, zS]
      refine wpAnyH_done (by kernel_rfl) ?_ _
      have R2 := zh hS
      clear hS
      go_wp2_with fail
      go_ret
      exact ⟨rfl, R2.out.b⟩
     ·have E : ans = 0 := by rw [HA.out, if_neg (by omega), if_neg TX.out, if_neg (by omega)]
      subst E
      have p2 : decide ((sl.length : Int) < r.who) = false := decide_eq_false hsl
      clear hst hsl hph
      go_upto_region 5 with fail
      refine wp_region_held_drew (S := RdC w q s ru rv lo ko H K g r) (by kernel_rfl) (R1.out.on (Below.refl _ _).drew) (fun hS => ?_)
      refine tY 0 hS ?_
      refine tZ 1 rfl (by intro W hW; have c2 := hW.rc.cs.c2; have lg := hW.rc.cs.lt; go_simp; (try with_reducible rfl)) hS ?_
      refine tY 2 hS ?_
      refine tY 3 hS ?_
      refine tY 4 hS ?_
      refine tY 5 hS ?_
      simp only [Act.put, zT, zO, zS]
      refine tZ 6 rfl (by intro W hW; have b10 := hW.bd.at_.cs.c10; have lq := hW.bd.lt.1; go_simp; (try with_reducible rfl)) hS ?_
      refine tY 7 hS ?_
      refine tY 8 hS ?_
      refine tY 9 hS ?_
      refine tY 10 hS ?_
      refine tZ 11 rfl (by intro W hW; have c2 := hW.rc.cs.c2; have lg := hW.rc.cs.lt; go_simp; (try with_reducible rfl)) hS ?_
      simp only [Act.put, zT, zO, zS]
      refine tY 12 hS ?_
      refine tY 13 hS ?_
      refine tY 14 hS ?_
      refine tY 15 hS ?_
      refine tZ 16 rfl (by intro W hW; have x := hW.bd.at_.cs; have lq := hW.bd.lt.1; obtain ⟨x0, x1, x2, x3, x4, x5, x6, x7, x8, x9, x10, x11, x12, x13, x14, x15, x16, x17, x18, x19, x20, x21, x22, x23, x24, x25, x74, xlt⟩ := x; go_simp; (try with_reducible rfl)) hS ?_
      simp only [Act.put, zT, zO, zS]
      refine rO 17 (fun K hK => ?_)
      go_simp
      with_reducible refine (CS.out _).mono ?_
      rintro e w9 ⟨A9, c9, rfl, _, hb⟩
      replace hS := hS.on hb
      clear hb
      refine hK.out _ _ hS (fun _ => ?_)
      clear hK K
      refine tY 18 hS ?_
      refine tY 19 hS ?_
      refine tY 20 hS ?_
      refine tY 21 hS ?_
      simp only [Act.put, zT, zO, zS]
      refine wpAnyH_done (by kernel_rfl) ?_ _
      have R2 := zh hS
      clear hS
      go_wp2_with fail
      go_ret
      exact ⟨rfl, R2.out.b⟩
    ·have p1 : (r.who != s.step + 1) = true := by simpa using hst
     have E : ans = 7 := by rw [HA.out, if_neg (by omega), if_neg TX.out, if_pos (.inl hst)]
     subst E
     clear hst hph
     go_upto_region 5 with fail
     refine wp_region_held_drew (S := RdC w q s ru rv lo ko H K g r) (by kernel_rfl) (R1.out.on (Below.refl _ _).drew) (fun hS => ?_)
     refine tY 0 hS ?_
     refine tZ 1 rfl (by intro W hW; have c2 := hW.rc.cs.c2; have lg := hW.rc.cs.lt; go_simp; (try with_reducible rfl)) hS ?_
     refine tY 2 hS ?_
     refine tY 3 hS ?_
     refine tY 4 hS ?_
     refine tY 5 hS ?_
     simp only [Act.put, zT, zO, zS]
     refine tZ 6 rfl (by intro W hW; have b10 := hW.bd.at_.cs.c10; have lq := hW.bd.lt.1; go_simp; (try with_reducible rfl)) hS ?_
     refine tY 7 hS ?_
     refine tY 8 hS ?_
     refine tY 9 hS ?_
     refine tN 10 hS ?_
     refine tN 11 hS ?_
     simp only [Act.put, zT, zO, zS]
     refine tN 12 hS ?_
     refine tN 13 hS ?_
     refine tN 14 hS ?_
     refine tN 15 hS ?_
     refine tN 16 hS ?_
     refine tN 17 hS ?_
     simp only [Act.put, zT, zO, zS]
     refine tN 18 hS ?_
     refine tN 19 hS ?_
     refine tY 20 hS ?_
     refine tY 21 hS ?_
     simp only [Act.put, zT, zO, zS]
     refine wpAnyH_done (by kernel_rfl) ?_ _
     have R2 := zh hS
     clear hS
     go_wp2_with fail
     go_ret
     exact ⟨rfl, R2.out.b⟩
   ·have E : ans = 2 := by rw [HA.out, if_neg (by omega), if_pos ⟨hx1, hx2⟩]
    subst E
    rw [decide_eq_false hx2] at t2
    clear hx1 hx2 hph
    refine wp_region_held_drew (S := RdC w q s ru rv lo ko H K g r) (by kernel_rfl) (R0.out.on (Below.refl _ _).drew) (fun hS => ?_)
    refine tY 0 hS ?_
    refine tZ 1 rfl (by intro W hW; have c5 := hW.rc.cs.c5; have lg := hW.rc.cs.lt; go_simp; (try with_reducible rfl)) hS ?_
    refine tY 2 hS ?_
    refine tY 3 hS ?_
    refine tY 4 hS ?_
    refine tZ 5 rfl (by intro W hW; have c5 := hW.rc.cs.c5; have lg := hW.rc.cs.lt; go_simp; (try with_reducible rfl)) hS ?_
    simp only [Act.put, zT, zO, zS]
    refine rO 6 (fun K hK => ?_)
    go_simp
    with_reducible refine (CW.out _ hS).mono ?_
    rintro e w7 ⟨rfl, hb⟩
    replace hS := hS.on hb
    clear hb
    refine hK.out _ _ hS (fun _ => ?_)
    clear hK K
    refine tY 7 hS ?_
    refine tY 8 hS ?_
    refine tY 9 hS ?_
    simp only [Act.put, zT, zO, zS]
    refine wpAnyH_done (by kernel_rfl) ?_ _
    have R2 := zh hS
    clear hS
    go_wp2_with fail
    go_ret
    exact ⟨rfl, R2.out.b⟩
 ·have o1 : (s.ph != 1) = true := by simpa using hph
  have E : ans = 10 := by rw [HA.out, if_pos hph]
  subst E
  clear hph t1 t2
  go_wp2_with fail
  go_ret
  exact ⟨rfl, R0.out.b⟩
end Go.Proofs.YtnacjhnfkkddcaaGreatDoor
