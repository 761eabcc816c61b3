import Derived.Test.YtnacjhnfkkddcaaGreatDoorQp10
set_option maxHeartbeats 6400000
set_option maxRecDepth 100000
set_option linter.unusedSimpArgs false
set_option linter.unusedVariables false
namespace Go.Proofs.YtnacjhnfkkddcaaGreatDoor
open Go.RowKit
theorem jhp (s : Bk.St) (ok : Bk.Ok s) (r : Rc.R) (hin : Rc.In r) (L V H : Value) (w : World) (h : BkRd w s L V H) (hr : Rc.right r = true) (hk : r.kind = 7) (he : r.epoch = s.ep) : Calls Tryz.prog 55 #[.agg (Bk.cells s L V H), .agg (Rc.cells r)] w (jbb w (.int .i64 (Bk.chk7 s r))) := by
 have CR := zh (fun W => ja6 r hin W)
 unfold Rc.val at CR
 rw [hr] at CR
 have HK := zh hk
 have q1 : (r.epoch != s.ep) = false := by rw [bne_eq_false_iff_eq]; exact he
 have hw1 : wrap64 (s.step + 1) = s.step + 1 := IntWalk.wrap64_in _ ⟨by have := ok.step; omega, by have := ok.step; omega⟩
 have hw2 : IntKind.i64.wrap (s.step + 1) = s.step + 1 := IntWalk.i64_in _ ⟨by have := ok.step; omega, by have := ok.step; omega⟩
 have CS : Hid (∀ W, Calls Tryz.prog 94 #[.agg #[.int .i64 s.sp.v, .int .i64 s.sp.d, .int .i64 s.sp.u, .int .i64 s.sp.n, .int .i64 s.sp.g, .int .i64 s.sp.a, .int .i64 s.sp.b, .int .i64 s.sp.c, .int .i64 s.sp.e, .int .i64 s.sp.w, .int .i64 s.sp.x, .int .i64 s.sp.k]] W (fun e w' => ∃ A c, e = .returned (.slice A (Spc.steps s.sp).length c) ∧ OwnI w' W.heap.size (.slice A (Spc.steps s.sp).length c) (Spc.steps s.sp) ∧ Below W.heap.size W w')) := fun W => ji0 s.sp W
 obtain ⟨ans, hans⟩ : ∃ ans, ans = Bk.chk7 s r := ⟨_, rfl⟩
 rw [← hans]
 unfold Bk.chk7 at hans
 have HA := zh hans
 have e1 : Bk.passed.toList = [112, 97, 115, 115, 101, 100] := by rw [ByteArray.toList_eq]; rfl
 have e2 : Bk.promote.toList = [112, 114, 111, 109, 111, 116, 101] := by rw [ByteArray.toList_eq]; rfl
 have t1 : (r.text.toList == [112, 97, 115, 115, 101, 100]) = decide (r.text = Bk.passed) := by rw [← e1]; exact jbv
 have t2 : (r.text.toList == [112, 114, 111, 109, 111, 116, 101]) = decide (r.text = Bk.promote) := by rw [← e2]; exact jbv
 clear e1 e2
 generalize Spc.steps s.sp = sl at *
 clear ok hr hk he hans
 obtain ⟨W, hW⟩ : ∃ W, W = (w.alloc (.cells (Bk.cells s L V H) 40)).alloc (.cells (Rc.cells r) 53) := ⟨_, rfl⟩
 obtain ⟨r1, r2, hb, hs⟩ := jbe hW
 have BX := zh (BkRc.mk ⟨r1⟩ ⟨r2⟩ (h.on hb) hb (Nat.le_refl _))
 clear r1 r2 hs hb h hin
 go_enter Tryz.func55, Tryz.ntmps55
 go_upto_region 1 with fail
 rw [← hW]
 clear hW
 obtain ⟨n, hn⟩ : ∃ n, n = w.heap.size := ⟨_, rfl⟩
 rw [← hn] at BX ⊢
 clear hn
 have b3 := BX.out.bk.cs.c3; have b8 := BX.out.bk.cs.c8; have b9 := BX.out.bk.cs.c9; have b13 := BX.out.bk.cs.c13; have b14 := BX.out.bk.cs.c14; have b15 := BX.out.bk.cs.c15; have b16 := BX.out.bk.cs.c16; have b17 := BX.out.bk.cs.c17; have b18 := BX.out.bk.cs.c18; have b19 := BX.out.bk.cs.c19; have b20 := BX.out.bk.cs.c20; have b21 := BX.out.bk.cs.c21; have b22 := BX.out.bk.cs.c22; have b23 := BX.out.bk.cs.c23; have b24 := BX.out.bk.cs.c24; have c0 := BX.out.rc.cs.c0; have c1 := BX.out.rc.cs.c1; have c2 := BX.out.rc.cs.c2; have c5 := BX.out.rc.cs.c5; rw [HK.out] at c0; have k1 := BX.out.rc.cs.lt; have k0 := BX.out.bk.lt
 by_cases hph : s.ph = 1
 ·have o1 : (s.ph != 1) = false := by rw [bne_eq_false_iff_eq]; exact hph
  by_cases hx1 : r.text = Bk.passed
  ·have TX : Hid (¬ (r.text ≠ Bk.passed ∧ r.text ≠ Bk.promote)) := fun h => h.1 hx1
   rw [decide_eq_true hx1] at t1
   clear t2 hx1
   by_cases hst : r.who = s.step + 1
   ·have p1 : (r.who != s.step + 1) = false := by rw [bne_eq_false_iff_eq]; exact hst
    by_cases hsl : (sl.length : Int) < r.who
    ·have E : ans = 7 := by rw [HA.out, if_neg (by omega), if_neg TX.out, if_pos (.inr hsl)]
     subst E
     have p2 : decide ((sl.length : Int) < r.who) = true := decide_eq_true hsl
     clear hst hsl hph
     go_upto_region 48 with (first
      | ((with_reducible show zL 16); refine zR (.tmp 3) BX.out.rc ?_)
      | (go_at_call 91; (with_reducible refine (CR.out _).mono ?_); rintro e wr ⟨rfl, hb⟩; have BX := zh (BX.out.on hb); clear hb b3 b8 b9 b13 b14 b15 b16 b17 b18 b19 b20 b21 b22 b23 b24 c0 c1 c2 c5 k0 k1; have b3 := BX.out.bk.cs.c3; have b8 := BX.out.bk.cs.c8; have b9 := BX.out.bk.cs.c9; have b13 := BX.out.bk.cs.c13; have b14 := BX.out.bk.cs.c14; have b15 := BX.out.bk.cs.c15; have b16 := BX.out.bk.cs.c16; have b17 := BX.out.bk.cs.c17; have b18 := BX.out.bk.cs.c18; have b19 := BX.out.bk.cs.c19; have b20 := BX.out.bk.cs.c20; have b21 := BX.out.bk.cs.c21; have b22 := BX.out.bk.cs.c22; have b23 := BX.out.bk.cs.c23; have b24 := BX.out.bk.cs.c24; have c0 := BX.out.rc.cs.c0; have c1 := BX.out.rc.cs.c1; have c2 := BX.out.rc.cs.c2; have c5 := BX.out.rc.cs.c5; rw [HK.out] at c0; have k1 := BX.out.rc.cs.lt; have k0 := BX.out.bk.lt))
     refine wp_region_held_drew (S := fun W => BkAt W n s L V H ∧ RcAt W (n + 1) r ∧ Below w.heap.size w W) (by kernel_rfl) ⟨⟨BX.out.bk.row⟩, ⟨BX.out.rc.row⟩, BX.out.below.drew⟩ (fun hS => ?_)
     refine tY 0 hS ?_
     refine tZ 1 rfl (by intro W hW; have y2 := (RcAt.cs hW.2.1).c2; go_simp; (try with_reducible rfl)) hS ?_
     refine tY 2 hS ?_
     refine tZ 3 rfl (by intro W hW; have z9 := (BkAt.cs hW.1).c9; go_simp; (try with_reducible rfl)) hS ?_
     refine tY 4 hS ?_
     refine tY 5 hS ?_
     simp only [Act.put, zT, zO, zS]
     refine tY 6 hS ?_
     refine tY 7 hS ?_
     refine tZ 8 rfl (by intro W hW; have y2 := (RcAt.cs hW.2.1).c2; go_simp; (try with_reducible rfl)) hS ?_
     refine tY 9 hS ?_
     refine tZ 10 rfl (by intro W hW; have z13 := (BkAt.cs hW.1).c13; have z14 := (BkAt.cs hW.1).c14; have z15 := (BkAt.cs hW.1).c15; have z16 := (BkAt.cs hW.1).c16; have z17 := (BkAt.cs hW.1).c17; have z18 := (BkAt.cs hW.1).c18; have z19 := (BkAt.cs hW.1).c19; have z20 := (BkAt.cs hW.1).c20; have z21 := (BkAt.cs hW.1).c21; have z22 := (BkAt.cs hW.1).c22; have z23 := (BkAt.cs hW.1).c23; have z24 := (BkAt.cs hW.1).c24; go_simp; (try with_reducible rfl)) hS ?_
     simp only [Act.put, zT, zO, zS]
     refine rO 11 (fun K hK => ?_)
     go_simp
     with_reducible refine (CS.out _).mono ?_
     rintro e ws ⟨AS, cs, rfl, _, hb⟩
     have hS2 : BkAt ws n s L V H ∧ RcAt ws (n + 1) r ∧ Below w.heap.size w ws := ⟨hS.1.on hb, hS.2.1.on hb, hS.2.2.trans (hb.mono hS.2.2.size)⟩
     clear hS hb
     have hS := hS2
     clear hS2
     refine hK.out _ _ hS (fun _ => ?_)
     clear hK K
     refine tY 12 hS ?_
     refine tY 13 hS ?_
     refine tY 14 hS ?_
     simp only [Act.put, zT, zO, zS]
     refine wpAnyH_done (by kernel_rfl) ?_ _
     go_wp2_with fail
     go_ret
     exact ⟨rfl, hS.2.2⟩
    ·have E : ans = 0 := by rw [HA.out, if_neg (by omega), if_neg TX.out, if_neg (by omega)]
     subst E
     have p2 : decide ((sl.length : Int) < r.who) = false := decide_eq_false hsl
     clear hst hsl hph
     go_upto_region 48 with (first
      | ((with_reducible show zL 16); refine zR (.tmp 3) BX.out.rc ?_)
      | (go_at_call 91; (with_reducible refine (CR.out _).mono ?_); rintro e wr ⟨rfl, hb⟩; have BX := zh (BX.out.on hb); clear hb b3 b8 b9 b13 b14 b15 b16 b17 b18 b19 b20 b21 b22 b23 b24 c0 c1 c2 c5 k0 k1; have b3 := BX.out.bk.cs.c3; have b8 := BX.out.bk.cs.c8; have b9 := BX.out.bk.cs.c9; have b13 := BX.out.bk.cs.c13; have b14 := BX.out.bk.cs.c14; have b15 := BX.out.bk.cs.c15; have b16 := BX.out.bk.cs.c16; have b17 := BX.out.bk.cs.c17; have b18 := BX.out.bk.cs.c18; have b19 := BX.out.bk.cs.c19; have b20 := BX.out.bk.cs.c20; have b21 := BX.out.bk.cs.c21; have b22 := BX.out.bk.cs.c22; have b23 := BX.out.bk.cs.c23; have b24 := BX.out.bk.cs.c24; have c0 := BX.out.rc.cs.c0; have c1 := BX.out.rc.cs.c1; have c2 := BX.out.rc.cs.c2; have c5 := BX.out.rc.cs.c5; rw [HK.out] at c0; have k1 := BX.out.rc.cs.lt; have k0 := BX.out.bk.lt))
     refine wp_region_held_drew (S := fun W => BkAt W n s L V H ∧ RcAt W (n + 1) r ∧ Below w.heap.size w W) (by kernel_rfl) ⟨⟨BX.out.bk.row⟩, ⟨BX.out.rc.row⟩, BX.out.below.drew⟩ (fun hS => ?_)
     refine tY 0 hS ?_
     refine tZ 1 rfl (by intro W hW; have y2 := (RcAt.cs hW.2.1).c2; go_simp; (try with_reducible rfl)) hS ?_
     refine tY 2 hS ?_
     refine tZ 3 rfl (by intro W hW; have z9 := (BkAt.cs hW.1).c9; go_simp; (try with_reducible rfl)) hS ?_
     refine tY 4 hS ?_
     refine tY 5 hS ?_
     simp only [Act.put, zT, zO, zS]
     refine tY 6 hS ?_
     refine tY 7 hS ?_
     refine tZ 8 rfl (by intro W hW; have y2 := (RcAt.cs hW.2.1).c2; go_simp; (try with_reducible rfl)) hS ?_
     refine tY 9 hS ?_
     refine tZ 10 rfl (by intro W hW; have z13 := (BkAt.cs hW.1).c13; have z14 := (BkAt.cs hW.1).c14; have z15 := (BkAt.cs hW.1).c15; have z16 := (BkAt.cs hW.1).c16; have z17 := (BkAt.cs hW.1).c17; have z18 := (BkAt.cs hW.1).c18; have z19 := (BkAt.cs hW.1).c19; have z20 := (BkAt.cs hW.1).c20; have z21 := (BkAt.cs hW.1).c21; have z22 := (BkAt.cs hW.1).c22; have z23 := (BkAt.cs hW.1).c23; have z24 := (BkAt.cs hW.1).c24; go_simp; (try with_reducible rfl)) hS ?_
     simp only [Act.put, zT, zO, zS]
     refine rO 11 (fun K hK => ?_)
     go_simp
     with_reducible refine (CS.out _).mono ?_
     rintro e ws ⟨AS, cs, rfl, _, hb⟩
     have hS2 : BkAt ws n s L V H ∧ RcAt ws (n + 1) r ∧ Below w.heap.size w ws := ⟨hS.1.on hb, hS.2.1.on hb, hS.2.2.trans (hb.mono hS.2.2.size)⟩
     clear hS hb
     have hS := hS2
     clear hS2
     refine hK.out _ _ hS (fun _ => ?_)
     clear hK K
     refine tY 12 hS ?_
     refine tY 13 hS ?_
     refine tY 14 hS ?_
     simp only [Act.put, zT, zO, zS]
     refine wpAnyH_done (by kernel_rfl) ?_ _
     go_wp2_with fail
     go_ret
     exact ⟨rfl, hS.2.2⟩
   ·have p1 : (r.who != s.step + 1) = true := by rw [bne_iff_ne]; exact hst
    have E : ans = 7 := by rw [HA.out, if_neg (by omega), if_neg TX.out, if_pos (.inl hst)]
    subst E
    clear hst hph
    go_upto_region 48 with (first
     | ((with_reducible show zL 16); refine zR (.tmp 3) BX.out.rc ?_)
     | (go_at_call 91; (with_reducible refine (CR.out _).mono ?_); rintro e wr ⟨rfl, hb⟩; have BX := zh (BX.out.on hb); clear hb b3 b8 b9 b13 b14 b15 b16 b17 b18 b19 b20 b21 b22 b23 b24 c0 c1 c2 c5 k0 k1; have b3 := BX.out.bk.cs.c3; have b8 := BX.out.bk.cs.c8; have b9 := BX.out.bk.cs.c9; have b13 := BX.out.bk.cs.c13; have b14 := BX.out.bk.cs.c14; have b15 := BX.out.bk.cs.c15; have b16 := BX.out.bk.cs.c16; have b17 := BX.out.bk.cs.c17; have b18 := BX.out.bk.cs.c18; have b19 := BX.out.bk.cs.c19; have b20 := BX.out.bk.cs.c20; have b21 := BX.out.bk.cs.c21; have b22 := BX.out.bk.cs.c22; have b23 := BX.out.bk.cs.c23; have b24 := BX.out.bk.cs.c24; have c0 := BX.out.rc.cs.c0; have c1 := BX.out.rc.cs.c1; have c2 := BX.out.rc.cs.c2; have c5 := BX.out.rc.cs.c5; rw [HK.out] at c0; have k1 := BX.out.rc.cs.lt; have k0 := BX.out.bk.lt))
    go_quiet (fail)
    go_wp2_with fail
    go_ret
    exact ⟨rfl, jbo BX.out.below _⟩
  ·rw [decide_eq_false hx1] at t1
   by_cases hx2 : r.text = Bk.promote
   ·have TX : Hid (¬ (r.text ≠ Bk.passed ∧ r.text ≠ Bk.promote)) := fun h => h.2 hx2
    rw [decide_eq_true hx2] at t2
    clear hx1 hx2
    by_cases hst : r.who = s.step + 1
    ·have p1 : (r.who != s.step + 1) = false := by rw [bne_eq_false_iff_eq]; exact hst
     by_cases hsl : (sl.length : Int) < r.who
     ·have E : ans = 7 := by rw [HA.out, if_neg (by omega), if_neg TX.out, if_pos (.inr hsl)]
      subst E
      have p2 : decide ((sl.length : Int) < r.who) = true := decide_eq_true hsl
      clear hst hsl hph
      go_upto_region 48 with (first
       | ((with_reducible show zL 16); refine zR (.tmp 3) BX.out.rc ?_)
       | (go_at_call 91; (with_reducible refine (CR.out _).mono ?_); rintro e wr ⟨rfl, hb⟩; have BX := zh (BX.out.on hb); clear hb b3 b8 b9 b13 b14 b15 b16 b17 b18 b19 b20 b21 b22 b23 b24 c0 c1 c2 c5 k0 k1; have b3 := BX.out.bk.cs.c3; have b8 := BX.out.bk.cs.c8; have b9 := BX.out.bk.cs.c9; have b13 := BX.out.bk.cs.c13; have b14 := BX.out.bk.cs.c14; have b15 := BX.out.bk.cs.c15; have b16 := BX.out.bk.cs.c16; have b17 := BX.out.bk.cs.c17; have b18 := BX.out.bk.cs.c18; have b19 := BX.out.bk.cs.c19; have b20 := BX.out.bk.cs.c20; have b21 := BX.out.bk.cs.c21; have b22 := BX.out.bk.cs.c22; have b23 := BX.out.bk.cs.c23; have b24 := BX.out.bk.cs.c24; have c0 := BX.out.rc.cs.c0; have c1 := BX.out.rc.cs.c1; have c2 := BX.out.rc.cs.c2; have c5 := BX.out.rc.cs.c5; rw [HK.out] at c0; have k1 := BX.out.rc.cs.lt; have k0 := BX.out.bk.lt))
      refine wp_region_held_drew (S := fun W => BkAt W n s L V H ∧ RcAt W (n + 1) r ∧ Below w.heap.size w W) (by kernel_rfl) ⟨⟨BX.out.bk.row⟩, ⟨BX.out.rc.row⟩, BX.out.below.drew⟩ (fun hS => ?_)
      refine tY 0 hS ?_
      refine tZ 1 rfl (by intro W hW; have y2 := (RcAt.cs hW.2.1).c2; go_simp; (try with_reducible rfl)) hS ?_
      refine tY 2 hS ?_
      refine tZ 3 rfl (by intro W hW; have z9 := (BkAt.cs hW.1).c9; go_simp; (try with_reducible rfl)) hS ?_
      refine tY 4 hS ?_
      refine tY 5 hS ?_
      simp only [Act.put, zT, zO, zS]
      refine tY 6 hS ?_
      refine tY 7 hS ?_
      refine tZ 8 rfl (by intro W hW; have y2 := (RcAt.cs hW.2.1).c2; go_simp; (try with_reducible rfl)) hS ?_
      refine tY 9 hS ?_
      refine tZ 10 rfl (by intro W hW; have z13 := (BkAt.cs hW.1).c13; have z14 := (BkAt.cs hW.1).c14; have z15 := (BkAt.cs hW.1).c15; have z16 := (BkAt.cs hW.1).c16; have z17 := (BkAt.cs hW.1).c17; have z18 := (BkAt.cs hW.1).c18; have z19 := (BkAt.cs hW.1).c19; have z20 := (BkAt.cs hW.1).c20; have z21 := (BkAt.cs hW.1).c21; have z22 := (BkAt.cs hW.1).c22; have z23 := (BkAt.cs hW.1).c23; have z24 := (BkAt.cs hW.1).c24; go_simp; (try with_reducible rfl)) hS ?_
      simp only [Act.put, zT, zO, zS]
      refine rO 11 (fun K hK => ?_)
      go_simp
      with_reducible refine (CS.out _).mono ?_
      rintro e ws ⟨AS, cs, rfl, _, hb⟩
      have hS2 : BkAt ws n s L V H ∧ RcAt ws (n + 1) r ∧ Below w.heap.size w ws := ⟨hS.1.on hb, hS.2.1.on hb, hS.2.2.trans (hb.mono hS.2.2.size)⟩
      clear hS hb
      have hS := hS2
      clear hS2
      refine hK.out _ _ hS (fun _ => ?_)
      clear hK K
      refine tY 12 hS ?_
      refine tY 13 hS ?_
      refine tY 14 hS ?_
      simp only [Act.put, zT, zO, zS]
      refine wpAnyH_done (by kernel_rfl) ?_ _
      go_wp2_with fail
      go_ret
      exact ⟨rfl, hS.2.2⟩
     ·have E : ans = 0 := by rw [HA.out, if_neg (by omega), if_neg TX.out, if_neg (by omega)]
      subst E
      have p2 : decide ((sl.length : Int) < r.who) = false := decide_eq_false hsl
      clear hst hsl hph
      go_upto_region 48 with (first
       | ((with_reducible show zL 16); refine zR (.tmp 3) BX.out.rc ?_)
       | (go_at_call 91; (with_reducible refine (CR.out _).mono ?_); rintro e wr ⟨rfl, hb⟩; have BX := zh (BX.out.on hb); clear hb b3 b8 b9 b13 b14 b15 b16 b17 b18 b19 b20 b21 b22 b23 b24 c0 c1 c2 c5 k0 k1; have b3 := BX.out.bk.cs.c3; have b8 := BX.out.bk.cs.c8; have b9 := BX.out.bk.cs.c9; have b13 := BX.out.bk.cs.c13; have b14 := BX.out.bk.cs.c14; have b15 := BX.out.bk.cs.c15; have b16 := BX.out.bk.cs.c16; have b17 := BX.out.bk.cs.c17; have b18 := BX.out.bk.cs.c18; have b19 := BX.out.bk.cs.c19; have b20 := BX.out.bk.cs.c20; have b21 := BX.out.bk.cs.c21; have b22 := BX.out.bk.cs.c22; have b23 := BX.out.bk.cs.c23; have b24 := BX.out.bk.cs.c24; have c0 := BX.out.rc.cs.c0; have c1 := BX.out.rc.cs.c1; have c2 := BX.out.rc.cs.c2; have c5 := BX.out.rc.cs.c5; rw [HK.out] at c0; have k1 := BX.out.rc.cs.lt; have k0 := BX.out.bk.lt))
      refine wp_region_held_drew (S := fun W => BkAt W n s L V H ∧ RcAt W (n + 1) r ∧ Below w.heap.size w W) (by kernel_rfl) ⟨⟨BX.out.bk.row⟩, ⟨BX.out.rc.row⟩, BX.out.below.drew⟩ (fun hS => ?_)
      refine tY 0 hS ?_
      refine tZ 1 rfl (by intro W hW; have y2 := (RcAt.cs hW.2.1).c2; go_simp; (try with_reducible rfl)) hS ?_
      refine tY 2 hS ?_
      refine tZ 3 rfl (by intro W hW; have z9 := (BkAt.cs hW.1).c9; go_simp; (try with_reducible rfl)) hS ?_
      refine tY 4 hS ?_
      refine tY 5 hS ?_
      simp only [Act.put, zT, zO, zS]
      refine tY 6 hS ?_
      refine tY 7 hS ?_
      refine tZ 8 rfl (by intro W hW; have y2 := (RcAt.cs hW.2.1).c2; go_simp; (try with_reducible rfl)) hS ?_
      refine tY 9 hS ?_
      refine tZ 10 rfl (by intro W hW; have z13 := (BkAt.cs hW.1).c13; have z14 := (BkAt.cs hW.1).c14; have z15 := (BkAt.cs hW.1).c15; have z16 := (BkAt.cs hW.1).c16; have z17 := (BkAt.cs hW.1).c17; have z18 := (BkAt.cs hW.1).c18; have z19 := (BkAt.cs hW.1).c19; have z20 := (BkAt.cs hW.1).c20; have z21 := (BkAt.cs hW.1).c21; have z22 := (BkAt.cs hW.1).c22; have z23 := (BkAt.cs hW.1).c23; have z24 := (BkAt.cs hW.1).c24; go_simp; (try with_reducible rfl)) hS ?_
      simp only [Act.put, zT, zO, zS]
      refine rO 11 (fun K hK => ?_)
      go_simp
      with_reducible refine (CS.out _).mono ?_
      rintro e ws ⟨AS, cs, rfl, _, hb⟩
      have hS2 : BkAt ws n s L V H ∧ RcAt ws (n + 1) r ∧ Below w.heap.size w ws := ⟨hS.1.on hb, hS.2.1.on hb, hS.2.2.trans (hb.mono hS.2.2.size)⟩
      clear hS hb
      have hS := hS2
      clear hS2
      refine hK.out _ _ hS (fun _ => ?_)
      clear hK K
      refine tY 12 hS ?_
      refine tY 13 hS ?_
      refine tY 14 hS ?_
      simp only [Act.put, zT, zO, zS]
      refine wpAnyH_done (by kernel_rfl) ?_ _
      go_wp2_with fail
      go_ret
      exact ⟨rfl, hS.2.2⟩
    ·have p1 : (r.who != s.step + 1) = true := by rw [bne_iff_ne]; exact hst
     have E : ans = 7 := by rw [HA.out, if_neg (by omega), if_neg TX.out, if_pos (.inl hst)]
     subst E
     clear hst hph
     go_upto_region 48 with (first
      | ((with_reducible show zL 16); refine zR (.tmp 3) BX.out.rc ?_)
      | (go_at_call 91; (with_reducible refine (CR.out _).mono ?_); rintro e wr ⟨rfl, hb⟩; have BX := zh (BX.out.on hb); clear hb b3 b8 b9 b13 b14 b15 b16 b17 b18 b19 b20 b21 b22 b23 b24 c0 c1 c2 c5 k0 k1; have b3 := BX.out.bk.cs.c3; have b8 := BX.out.bk.cs.c8; have b9 := BX.out.bk.cs.c9; have b13 := BX.out.bk.cs.c13; have b14 := BX.out.bk.cs.c14; have b15 := BX.out.bk.cs.c15; have b16 := BX.out.bk.cs.c16; have b17 := BX.out.bk.cs.c17; have b18 := BX.out.bk.cs.c18; have b19 := BX.out.bk.cs.c19; have b20 := BX.out.bk.cs.c20; have b21 := BX.out.bk.cs.c21; have b22 := BX.out.bk.cs.c22; have b23 := BX.out.bk.cs.c23; have b24 := BX.out.bk.cs.c24; have c0 := BX.out.rc.cs.c0; have c1 := BX.out.rc.cs.c1; have c2 := BX.out.rc.cs.c2; have c5 := BX.out.rc.cs.c5; rw [HK.out] at c0; have k1 := BX.out.rc.cs.lt; have k0 := BX.out.bk.lt))
     go_quiet (fail)
     go_wp2_with fail
     go_ret
     exact ⟨rfl, jbo BX.out.below _⟩
   ·rw [decide_eq_false hx2] at t2
    have E : ans = 2 := by rw [HA.out, if_neg (by omega), if_pos ⟨hx1, hx2⟩]
    subst E
    clear hx1 hx2 hph
    go_wp2_with (first
     | ((with_reducible show zL 16); refine zR (.tmp 3) BX.out.rc ?_)
     | (go_at_call 91; (with_reducible refine (CR.out _).mono ?_); rintro e wr ⟨rfl, hb⟩; have BX := zh (BX.out.on hb); clear hb b3 b8 b9 b13 b14 b15 b16 b17 b18 b19 b20 b21 b22 b23 b24 c0 c1 c2 c5 k0 k1; have b3 := BX.out.bk.cs.c3; have b8 := BX.out.bk.cs.c8; have b9 := BX.out.bk.cs.c9; have b13 := BX.out.bk.cs.c13; have b14 := BX.out.bk.cs.c14; have b15 := BX.out.bk.cs.c15; have b16 := BX.out.bk.cs.c16; have b17 := BX.out.bk.cs.c17; have b18 := BX.out.bk.cs.c18; have b19 := BX.out.bk.cs.c19; have b20 := BX.out.bk.cs.c20; have b21 := BX.out.bk.cs.c21; have b22 := BX.out.bk.cs.c22; have b23 := BX.out.bk.cs.c23; have b24 := BX.out.bk.cs.c24; have c0 := BX.out.rc.cs.c0; have c1 := BX.out.rc.cs.c1; have c2 := BX.out.rc.cs.c2; have c5 := BX.out.rc.cs.c5; rw [HK.out] at c0; have k1 := BX.out.rc.cs.lt; have k0 := BX.out.bk.lt))
    go_ret
    exact ⟨rfl, BX.out.below⟩
 ·have o1 : (s.ph != 1) = true := by rw [bne_iff_ne]; exact hph
  have E : ans = 10 := by rw [HA.out, if_pos hph]
  subst E
  clear hph t1 t2
  go_wp2_with (first
   | ((with_reducible show zL 16); refine zR (.tmp 3) BX.out.rc ?_)
   | (go_at_call 91; (with_reducible refine (CR.out _).mono ?_); rintro e wr ⟨rfl, hb⟩; have BX := zh (BX.out.on hb); clear hb b3 b8 b9 b13 b14 b15 b16 b17 b18 b19 b20 b21 b22 b23 b24 c0 c1 c2 c5 k0 k1; have b3 := BX.out.bk.cs.c3; have b8 := BX.out.bk.cs.c8; have b9 := BX.out.bk.cs.c9; have b13 := BX.out.bk.cs.c13; have b14 := BX.out.bk.cs.c14; have b15 := BX.out.bk.cs.c15; have b16 := BX.out.bk.cs.c16; have b17 := BX.out.bk.cs.c17; have b18 := BX.out.bk.cs.c18; have b19 := BX.out.bk.cs.c19; have b20 := BX.out.bk.cs.c20; have b21 := BX.out.bk.cs.c21; have b22 := BX.out.bk.cs.c22; have b23 := BX.out.bk.cs.c23; have b24 := BX.out.bk.cs.c24; have c0 := BX.out.rc.cs.c0; have c1 := BX.out.rc.cs.c1; have c2 := BX.out.rc.cs.c2; have c5 := BX.out.rc.cs.c5; rw [HK.out] at c0; have k1 := BX.out.rc.cs.lt; have k0 := BX.out.bk.lt))
  go_ret
  exact ⟨rfl, BX.out.below⟩
theorem jbk (s : Bk.St) (ok : Bk.Ok s) (r : Rc.R) (hin : Rc.In r) (L V H : Value) (w : World) (h : BkRd w s L V H) : Calls Tryz.prog 55 #[.agg (Bk.cells s L V H), .agg (Rc.cells r)] w (jbb w (.int .i64 (Bk.chk s r))) := by
 cases hr : Rc.right r with
 | false => rw [Bk.chk_wrong hr]; exact jhn s ok r hin L V H w h hr
 | true =>
  by_cases h1 : r.kind = 1
  ·rw [Bk.chk_lead hr h1]; exact ji2 s ok r hin L V H w h hr h1
  ·by_cases he : r.epoch = s.ep
   ·have hk := (Rc.ok_of hr).kind
    have h7 : r.kind = 2 ∨ r.kind = 3 ∨ r.kind = 4 ∨ r.kind = 5 ∨ r.kind = 6 ∨ r.kind = 7 := by omega
    rcases h7 with h2 | h2 | h2 | h2 | h2 | h2
    ·rw [Bk.chk_two hr h2 he]; exact jkp s ok r hin L V H w h hr h2 he
    ·rw [Bk.chk_three hr h2 he]; exact jho s ok r hin L V H w h hr h2 he
    ·rw [Bk.chk_four hr h2 he]; exact ji3 s ok r hin L V H w h hr h2 he
    ·rw [Bk.chk_five hr h2 he]; exact ji4 s ok r hin L V H w h hr h2 he
    ·rw [Bk.chk_six hr h2 he]; exact jkq s ok r hin L V H w h hr h2 he
    ·rw [Bk.chk_seven hr h2 he]; exact jhp s ok r hin L V H w h hr h2 he
   ·rw [Bk.chk_ep hr h1 he]; exact jnj s ok r hin L V H w h hr h1 he
end Go.Proofs.YtnacjhnfkkddcaaGreatDoor
