import Derived.Test.YtnacjhnfkkddcaaGreatDoorNl09
import Derived.Test.YtnacjhnfkkddcaaGreatDoorNl01
import Derived.Maps.OwnSet
import Derived.Maps.OwnOps
import Derived.StringKeys
namespace Go.Proofs.YtnacjhnfkkddcaaGreatDoor
open Go.RowKit Go.Deep Go.Maps
set_option maxRecDepth 100000
set_option linter.unusedSimpArgs false
set_option linter.unusedVariables false
set_option maxHeartbeats 3200000 in
theorem bref7_any (q : Nat) (s : Bk.St) (ru : Nat → Bk.Un) (rv : Int) (lo ko : Option Nat) (H : Value) (K : Kv.St) (w : World) (h : BdIs w q s ru rv lo ko H K) (ht : BT w) (r : Rc.R) (hin : Rc.In r) : Calls Tryz.prog 73 #[.pointer (some ⟨q, 0, none⟩), .agg (Rc.cells r)] w (BRet (.int .i64 (Bk.chk7 s r)) w) := by
  obtain ⟨ans, hans⟩ : ∃ ans, ans = Bk.chk7 s r := ⟨_, rfl⟩
  rw [← hans]
  have AN := Lib.hid hans
  clear hans
  have HT := Lib.hid ht
  obtain ⟨W, hW⟩ : ∃ W, W = w.alloc (.cells (Rc.cells r) 53) := ⟨_, rfl⟩
  obtain ⟨g, hg⟩ : ∃ g, g = w.heap.size := ⟨_, rfl⟩
  have R0 := Lib.hid (RdC.open_ h r)
  rw [← hW, ← hg] at R0
  have GE : Hid (w.heap.size ≤ g) := Nat.le_of_eq hg.symm
  have e1 : Bk.passed.toList = [112, 97, 115, 115, 101, 100] := by rw [ByteArray.toList_eq]; rfl
  have e2 : Bk.promote.toList = [112, 114, 111, 109, 111, 116, 101] := by rw [ByteArray.toList_eq]; rfl
  have t1 : (r.text.toList == [112, 97, 115, 115, 101, 100]) = decide (r.text = Bk.passed) := by rw [← e1]; exact same_text
  have t2 : (r.text.toList == [112, 114, 111, 109, 111, 116, 101]) = decide (r.text = Bk.promote) := by rw [← e2]; exact same_text
  clear e1 e2
  have CW : Hid (∀ W, RdC w q s ru rv lo ko H K g r W → Calls Tryz.prog 111 #[.int .i64 3] W (PhRet W (.string ⟨#[112, 114, 111, 109, 111, 116, 101]⟩))) := fun W h => pword_any 3 W (HT.out.on h.b).ph
  have CS := Lib.hid (fun W => steps_any s.sp W)
  unfold Spc.val Spc.cells at CS
  have hw1 : wrap64 (s.step + 1) = s.step + 1 := IntWalk.wrap64_in _ ⟨by have := h.lok.ok.step; omega, by have := h.lok.ok.step; omega⟩
  have hw2 : IntKind.i64.wrap (s.step + 1) = s.step + 1 := by rw [IntKind.wrap_i64]; have := h.lok.ok.step; omega
  have HA : Hid (ans = if s.ph ≠ 1 then 10 else if r.text ≠ Bk.passed ∧ r.text ≠ Bk.promote then 2 else if r.who ≠ s.step + 1 ∨ ((Spc.steps s.sp).length : Int) < r.who then 7 else 0) := AN.out
  clear AN
  generalize Spc.steps s.sp = sl at *
  clear h ht
  go_enter Tryz.func73, Tryz.ntmps73
  go_upto_region 1 with fail
  rw [← hW, ← hg]
  clear hW hg
  have b9 := R0.out.bd.at_.cs.c9
  have lq := R0.out.bd.lt.1
  by_cases hph : s.ph = 1
  · have o1 : (s.ph != 1) = false := by simpa using hph
    go_upto_region 3 with fail
    clear b9 lq
    by_cases hx1 : r.text = Bk.passed
    · have TX : Hid (¬ (r.text ≠ Bk.passed ∧ r.text ≠ Bk.promote)) := fun h => h.1 hx1
      rw [decide_eq_true hx1] at t1
      clear t2 hx1
      refine wp_region_held_drew (S := RdC w q s ru rv lo ko H K g r) (by kernel_rfl) (R0.out.on (Below.refl _ _).drew) (fun hS => ?_)
      refine tkYes 0 (v := ?_) rfl (by kernel_rfl) (fun _ _ _ h => h) rfl ?_ hS ?_
      rotate_left
      · intro W hW; go_simp; (try with_reducible rfl)
      simp only [Act.put, List.setIfInBounds_toArray, List.set_cons_zero, List.set_cons_succ]
      refine tkYes 1 (v := ?_) rfl (by kernel_rfl) (fun _ _ _ h => h) rfl ?_ hS ?_
      rotate_left
      · intro W hW; have c5 := hW.rc.cs.c5; have lg := hW.rc.cs.lt; go_simp; (try with_reducible rfl)
      simp only [Act.put, List.setIfInBounds_toArray, List.set_cons_zero, List.set_cons_succ]
      refine tkYes 2 (v := ?_) rfl (by kernel_rfl) (fun _ _ _ h => h) rfl ?_ hS ?_
      rotate_left
      · intro W hW; go_simp; (try with_reducible rfl)
      simp only [Act.put, List.setIfInBounds_toArray, List.set_cons_zero, List.set_cons_succ]
      refine tkYes 3 (v := ?_) rfl (by kernel_rfl) (fun _ _ _ h => h) rfl ?_ hS ?_
      rotate_left
      · intro W hW; go_simp; (try with_reducible rfl)
      simp only [Act.put, List.setIfInBounds_toArray, List.set_cons_zero, List.set_cons_succ]
      refine tkNo 4 rfl (by kernel_rfl) (fun _ _ _ h => h) rfl hS ?_
      simp only [Act.put, List.setIfInBounds_toArray, List.set_cons_zero, List.set_cons_succ]
      refine tkNo 5 rfl (by kernel_rfl) (fun _ _ _ h => h) rfl hS ?_
      simp only [Act.put, List.setIfInBounds_toArray, List.set_cons_zero, List.set_cons_succ]
      refine tkNo 6 rfl (by kernel_rfl) (fun _ _ _ h => h) rfl hS ?_
      simp only [Act.put, List.setIfInBounds_toArray, List.set_cons_zero, List.set_cons_succ]
      refine tkNo 7 rfl (by kernel_rfl) (fun _ _ _ h => h) rfl hS ?_
      simp only [Act.put, List.setIfInBounds_toArray, List.set_cons_zero, List.set_cons_succ]
      refine tkYes 8 (v := ?_) rfl (by kernel_rfl) (fun _ _ _ h => h) rfl ?_ hS ?_
      rotate_left
      · intro W hW; go_simp; (try with_reducible rfl)
      simp only [Act.put, List.setIfInBounds_toArray, List.set_cons_zero, List.set_cons_succ]
      refine tkYes 9 (v := ?_) rfl (by kernel_rfl) (fun _ _ _ h => h) rfl ?_ hS ?_
      rotate_left
      · intro W hW; go_simp; (try with_reducible rfl)
      simp only [Act.put, List.setIfInBounds_toArray, List.set_cons_zero, List.set_cons_succ]
      refine wpAnyH_done (by kernel_rfl) ?_ _
      have R1 := Lib.hid hS
      clear hS
      by_cases hst : r.who = s.step + 1
      · have p1 : (r.who != s.step + 1) = false := by simpa using hst
        by_cases hsl : (sl.length : Int) < r.who
        · have E : ans = 7 := by rw [HA.out, if_neg (by omega), if_neg TX.out, if_pos (.inr hsl)]
          subst E
          have p2 : decide ((sl.length : Int) < r.who) = true := decide_eq_true hsl
          clear hst hsl hph
          go_upto_region 5 with fail
          refine wp_region_held_drew (S := RdC w q s ru rv lo ko H K g r) (by kernel_rfl) (R1.out.on (Below.refl _ _).drew) (fun hS => ?_)
          refine tkYes 0 (v := ?_) rfl (by kernel_rfl) (fun _ _ _ h => h) rfl ?_ hS ?_
          rotate_left
          · intro W hW; go_simp; (try with_reducible rfl)
          simp only [Act.put, List.setIfInBounds_toArray, List.set_cons_zero, List.set_cons_succ]
          refine tkYes 1 (v := ?_) rfl (by kernel_rfl) (fun _ _ _ h => h) rfl ?_ hS ?_
          rotate_left
          · intro W hW; have c2 := hW.rc.cs.c2; have lg := hW.rc.cs.lt; go_simp; (try with_reducible rfl)
          simp only [Act.put, List.setIfInBounds_toArray, List.set_cons_zero, List.set_cons_succ]
          refine tkYes 2 (v := ?_) rfl (by kernel_rfl) (fun _ _ _ h => h) rfl ?_ hS ?_
          rotate_left
          · intro W hW; go_simp; (try with_reducible rfl)
          simp only [Act.put, List.setIfInBounds_toArray, List.set_cons_zero, List.set_cons_succ]
          refine tkYes 3 (v := ?_) rfl (by kernel_rfl) (fun _ _ _ h => h) rfl ?_ hS ?_
          rotate_left
          · intro W hW; go_simp; (try with_reducible rfl)
          simp only [Act.put, List.setIfInBounds_toArray, List.set_cons_zero, List.set_cons_succ]
          refine tkYes 4 (v := ?_) rfl (by kernel_rfl) (fun _ _ _ h => h) rfl ?_ hS ?_
          rotate_left
          · intro W hW; go_simp; (try with_reducible rfl)
          simp only [Act.put, List.setIfInBounds_toArray, List.set_cons_zero, List.set_cons_succ]
          refine tkYes 5 (v := ?_) rfl (by kernel_rfl) (fun _ _ _ h => h) rfl ?_ hS ?_
          rotate_left
          · intro W hW; go_simp; (try with_reducible rfl)
          simp only [Act.put, List.setIfInBounds_toArray, List.set_cons_zero, List.set_cons_succ]
          refine tkYes 6 (v := ?_) rfl (by kernel_rfl) (fun _ _ _ h => h) rfl ?_ hS ?_
          rotate_left
          · intro W hW; have b10 := hW.bd.at_.cs.c10; have lq := hW.bd.lt.1; go_simp; (try with_reducible rfl)
          simp only [Act.put, List.setIfInBounds_toArray, List.set_cons_zero, List.set_cons_succ]
          refine tkYes 7 (v := ?_) rfl (by kernel_rfl) (fun _ _ _ h => h) rfl ?_ hS ?_
          rotate_left
          · intro W hW; go_simp; (try with_reducible rfl)
          simp only [Act.put, List.setIfInBounds_toArray, List.set_cons_zero, List.set_cons_succ]
          refine tkYes 8 (v := ?_) rfl (by kernel_rfl) (fun _ _ _ h => h) rfl ?_ hS ?_
          rotate_left
          · intro W hW; go_simp; (try with_reducible rfl)
          simp only [Act.put, List.setIfInBounds_toArray, List.set_cons_zero, List.set_cons_succ]
          refine tkYes 9 (v := ?_) rfl (by kernel_rfl) (fun _ _ _ h => h) rfl ?_ hS ?_
          rotate_left
          · intro W hW; go_simp; (try with_reducible rfl)
          simp only [Act.put, List.setIfInBounds_toArray, List.set_cons_zero, List.set_cons_succ]
          refine tkYes 10 (v := ?_) rfl (by kernel_rfl) (fun _ _ _ h => h) rfl ?_ hS ?_
          rotate_left
          · intro W hW; go_simp; (try with_reducible rfl)
          simp only [Act.put, List.setIfInBounds_toArray, List.set_cons_zero, List.set_cons_succ]
          refine tkYes 11 (v := ?_) rfl (by kernel_rfl) (fun _ _ _ h => h) rfl ?_ hS ?_
          rotate_left
          · intro W hW; have c2 := hW.rc.cs.c2; have lg := hW.rc.cs.lt; go_simp; (try with_reducible rfl)
          simp only [Act.put, List.setIfInBounds_toArray, List.set_cons_zero, List.set_cons_succ]
          refine tkYes 12 (v := ?_) rfl (by kernel_rfl) (fun _ _ _ h => h) rfl ?_ hS ?_
          rotate_left
          · intro W hW; go_simp; (try with_reducible rfl)
          simp only [Act.put, List.setIfInBounds_toArray, List.set_cons_zero, List.set_cons_succ]
          refine tkYes 13 (v := ?_) rfl (by kernel_rfl) (fun _ _ _ h => h) rfl ?_ hS ?_
          rotate_left
          · intro W hW; go_simp; (try with_reducible rfl)
          simp only [Act.put, List.setIfInBounds_toArray, List.set_cons_zero, List.set_cons_succ]
          refine tkYes 14 (v := ?_) rfl (by kernel_rfl) (fun _ _ _ h => h) rfl ?_ hS ?_
          rotate_left
          · intro W hW; go_simp; (try with_reducible rfl)
          simp only [Act.put, List.setIfInBounds_toArray, List.set_cons_zero, List.set_cons_succ]
          refine tkYes 15 (v := ?_) rfl (by kernel_rfl) (fun _ _ _ h => h) rfl ?_ hS ?_
          rotate_left
          · intro W hW; go_simp; (try with_reducible rfl)
          simp only [Act.put, List.setIfInBounds_toArray, List.set_cons_zero, List.set_cons_succ]
          refine tkYes 16 (v := ?_) rfl (by kernel_rfl) (fun _ _ _ h => h) rfl ?_ hS ?_
          rotate_left
          · intro W hW; have x := hW.bd.at_.cs; have lq := hW.bd.lt.1; obtain ⟨x0, x1, x2, x3, x4, x5, x6, x7, x8, x9, x10, x11, x12, x13, x14, x15, x16, x17, x18, x19, x20, x21, x22, x23, x24, x25, x74, xlt⟩ := x; go_simp; (try with_reducible rfl)
          simp only [Act.put, List.setIfInBounds_toArray, List.set_cons_zero, List.set_cons_succ]
          refine rnOne 17 rfl (by kernel_rfl) rfl (fun K hK => ?_)
          go_simp
          with_reducible refine (CS.out _).mono ?_
          rintro e w9 ⟨A9, c9, rfl, _, hb⟩
          have hS2 := hS.on hb
          clear hS hb
          have hS := hS2
          clear hS2
          refine hK.out _ _ hS (fun _ => ?_)
          clear hK K
          try simp only [Act.put, List.setIfInBounds_toArray, List.set_cons_zero, List.set_cons_succ]
          refine tkYes 18 (v := ?_) rfl (by kernel_rfl) (fun _ _ _ h => h) rfl ?_ hS ?_
          rotate_left
          · intro W hW; go_simp; (try with_reducible rfl)
          simp only [Act.put, List.setIfInBounds_toArray, List.set_cons_zero, List.set_cons_succ]
          refine tkYes 19 (v := ?_) rfl (by kernel_rfl) (fun _ _ _ h => h) rfl ?_ hS ?_
          rotate_left
          · intro W hW; go_simp; (try with_reducible rfl)
          simp only [Act.put, List.setIfInBounds_toArray, List.set_cons_zero, List.set_cons_succ]
          refine tkYes 20 (v := ?_) rfl (by kernel_rfl) (fun _ _ _ h => h) rfl ?_ hS ?_
          rotate_left
          · intro W hW; go_simp; (try with_reducible rfl)
          simp only [Act.put, List.setIfInBounds_toArray, List.set_cons_zero, List.set_cons_succ]
          refine tkYes 21 (v := ?_) rfl (by kernel_rfl) (fun _ _ _ h => h) rfl ?_ hS ?_
          rotate_left
          · intro W hW; go_simp; (try with_reducible rfl)
          simp only [Act.put, List.setIfInBounds_toArray, List.set_cons_zero, List.set_cons_succ]
          refine wpAnyH_done (by kernel_rfl) ?_ _
          have R2 := Lib.hid hS
          clear hS
          go_wp2_with fail
          go_ret
          exact ⟨rfl, R2.out.b⟩
        · have E : ans = 0 := by rw [HA.out, if_neg (by omega), if_neg TX.out, if_neg (by omega)]
          subst E
          have p2 : decide ((sl.length : Int) < r.who) = false := decide_eq_false hsl
          clear hst hsl hph
          go_upto_region 5 with fail
          refine wp_region_held_drew (S := RdC w q s ru rv lo ko H K g r) (by kernel_rfl) (R1.out.on (Below.refl _ _).drew) (fun hS => ?_)
          refine tkYes 0 (v := ?_) rfl (by kernel_rfl) (fun _ _ _ h => h) rfl ?_ hS ?_
          rotate_left
          · intro W hW; go_simp; (try with_reducible rfl)
          simp only [Act.put, List.setIfInBounds_toArray, List.set_cons_zero, List.set_cons_succ]
          refine tkYes 1 (v := ?_) rfl (by kernel_rfl) (fun _ _ _ h => h) rfl ?_ hS ?_
          rotate_left
          · intro W hW; have c2 := hW.rc.cs.c2; have lg := hW.rc.cs.lt; go_simp; (try with_reducible rfl)
          simp only [Act.put, List.setIfInBounds_toArray, List.set_cons_zero, List.set_cons_succ]
          refine tkYes 2 (v := ?_) rfl (by kernel_rfl) (fun _ _ _ h => h) rfl ?_ hS ?_
          rotate_left
          · intro W hW; go_simp; (try with_reducible rfl)
          simp only [Act.put, List.setIfInBounds_toArray, List.set_cons_zero, List.set_cons_succ]
          refine tkYes 3 (v := ?_) rfl (by kernel_rfl) (fun _ _ _ h => h) rfl ?_ hS ?_
          rotate_left
          · intro W hW; go_simp; (try with_reducible rfl)
          simp only [Act.put, List.setIfInBounds_toArray, List.set_cons_zero, List.set_cons_succ]
          refine tkYes 4 (v := ?_) rfl (by kernel_rfl) (fun _ _ _ h => h) rfl ?_ hS ?_
          rotate_left
          · intro W hW; go_simp; (try with_reducible rfl)
          simp only [Act.put, List.setIfInBounds_toArray, List.set_cons_zero, List.set_cons_succ]
          refine tkYes 5 (v := ?_) rfl (by kernel_rfl) (fun _ _ _ h => h) rfl ?_ hS ?_
          rotate_left
          · intro W hW; go_simp; (try with_reducible rfl)
          simp only [Act.put, List.setIfInBounds_toArray, List.set_cons_zero, List.set_cons_succ]
          refine tkYes 6 (v := ?_) rfl (by kernel_rfl) (fun _ _ _ h => h) rfl ?_ hS ?_
          rotate_left
          · intro W hW; have b10 := hW.bd.at_.cs.c10; have lq := hW.bd.lt.1; go_simp; (try with_reducible rfl)
          simp only [Act.put, List.setIfInBounds_toArray, List.set_cons_zero, List.set_cons_succ]
          refine tkYes 7 (v := ?_) rfl (by kernel_rfl) (fun _ _ _ h => h) rfl ?_ hS ?_
          rotate_left
          · intro W hW; go_simp; (try with_reducible rfl)
          simp only [Act.put, List.setIfInBounds_toArray, List.set_cons_zero, List.set_cons_succ]
          refine tkYes 8 (v := ?_) rfl (by kernel_rfl) (fun _ _ _ h => h) rfl ?_ hS ?_
          rotate_left
          · intro W hW; go_simp; (try with_reducible rfl)
          simp only [Act.put, List.setIfInBounds_toArray, List.set_cons_zero, List.set_cons_succ]
          refine tkYes 9 (v := ?_) rfl (by kernel_rfl) (fun _ _ _ h => h) rfl ?_ hS ?_
          rotate_left
          · intro W hW; go_simp; (try with_reducible rfl)
          simp only [Act.put, List.setIfInBounds_toArray, List.set_cons_zero, List.set_cons_succ]
          refine tkYes 10 (v := ?_) rfl (by kernel_rfl) (fun _ _ _ h => h) rfl ?_ hS ?_
          rotate_left
          · intro W hW; go_simp; (try with_reducible rfl)
          simp only [Act.put, List.setIfInBounds_toArray, List.set_cons_zero, List.set_cons_succ]
          refine tkYes 11 (v := ?_) rfl (by kernel_rfl) (fun _ _ _ h => h) rfl ?_ hS ?_
          rotate_left
          · intro W hW; have c2 := hW.rc.cs.c2; have lg := hW.rc.cs.lt; go_simp; (try with_reducible rfl)
          simp only [Act.put, List.setIfInBounds_toArray, List.set_cons_zero, List.set_cons_succ]
          refine tkYes 12 (v := ?_) rfl (by kernel_rfl) (fun _ _ _ h => h) rfl ?_ hS ?_
          rotate_left
          · intro W hW; go_simp; (try with_reducible rfl)
          simp only [Act.put, List.setIfInBounds_toArray, List.set_cons_zero, List.set_cons_succ]
          refine tkYes 13 (v := ?_) rfl (by kernel_rfl) (fun _ _ _ h => h) rfl ?_ hS ?_
          rotate_left
          · intro W hW; go_simp; (try with_reducible rfl)
          simp only [Act.put, List.setIfInBounds_toArray, List.set_cons_zero, List.set_cons_succ]
          refine tkYes 14 (v := ?_) rfl (by kernel_rfl) (fun _ _ _ h => h) rfl ?_ hS ?_
          rotate_left
          · intro W hW; go_simp; (try with_reducible rfl)
          simp only [Act.put, List.setIfInBounds_toArray, List.set_cons_zero, List.set_cons_succ]
          refine tkYes 15 (v := ?_) rfl (by kernel_rfl) (fun _ _ _ h => h) rfl ?_ hS ?_
          rotate_left
          · intro W hW; go_simp; (try with_reducible rfl)
          simp only [Act.put, List.setIfInBounds_toArray, List.set_cons_zero, List.set_cons_succ]
          refine tkYes 16 (v := ?_) rfl (by kernel_rfl) (fun _ _ _ h => h) rfl ?_ hS ?_
          rotate_left
          · intro W hW; have x := hW.bd.at_.cs; have lq := hW.bd.lt.1; obtain ⟨x0, x1, x2, x3, x4, x5, x6, x7, x8, x9, x10, x11, x12, x13, x14, x15, x16, x17, x18, x19, x20, x21, x22, x23, x24, x25, x74, xlt⟩ := x; go_simp; (try with_reducible rfl)
          simp only [Act.put, List.setIfInBounds_toArray, List.set_cons_zero, List.set_cons_succ]
          refine rnOne 17 rfl (by kernel_rfl) rfl (fun K hK => ?_)
          go_simp
          with_reducible refine (CS.out _).mono ?_
          rintro e w9 ⟨A9, c9, rfl, _, hb⟩
          have hS2 := hS.on hb
          clear hS hb
          have hS := hS2
          clear hS2
          refine hK.out _ _ hS (fun _ => ?_)
          clear hK K
          try simp only [Act.put, List.setIfInBounds_toArray, List.set_cons_zero, List.set_cons_succ]
          refine tkYes 18 (v := ?_) rfl (by kernel_rfl) (fun _ _ _ h => h) rfl ?_ hS ?_
          rotate_left
          · intro W hW; go_simp; (try with_reducible rfl)
          simp only [Act.put, List.setIfInBounds_toArray, List.set_cons_zero, List.set_cons_succ]
          refine tkYes 19 (v := ?_) rfl (by kernel_rfl) (fun _ _ _ h => h) rfl ?_ hS ?_
          rotate_left
          · intro W hW; go_simp; (try with_reducible rfl)
          simp only [Act.put, List.setIfInBounds_toArray, List.set_cons_zero, List.set_cons_succ]
          refine tkYes 20 (v := ?_) rfl (by kernel_rfl) (fun _ _ _ h => h) rfl ?_ hS ?_
          rotate_left
          · intro W hW; go_simp; (try with_reducible rfl)
          simp only [Act.put, List.setIfInBounds_toArray, List.set_cons_zero, List.set_cons_succ]
          refine tkYes 21 (v := ?_) rfl (by kernel_rfl) (fun _ _ _ h => h) rfl ?_ hS ?_
          rotate_left
          · intro W hW; go_simp; (try with_reducible rfl)
          simp only [Act.put, List.setIfInBounds_toArray, List.set_cons_zero, List.set_cons_succ]
          refine wpAnyH_done (by kernel_rfl) ?_ _
          have R2 := Lib.hid hS
          clear hS
          go_wp2_with fail
          go_ret
          exact ⟨rfl, R2.out.b⟩
      · have p1 : (r.who != s.step + 1) = true := by simpa using hst
        have E : ans = 7 := by rw [HA.out, if_neg (by omega), if_neg TX.out, if_pos (.inl hst)]
        subst E
        clear hst hph
        go_upto_region 5 with fail
        refine wp_region_held_drew (S := RdC w q s ru rv lo ko H K g r) (by kernel_rfl) (R1.out.on (Below.refl _ _).drew) (fun hS => ?_)
        refine tkYes 0 (v := ?_) rfl (by kernel_rfl) (fun _ _ _ h => h) rfl ?_ hS ?_
        rotate_left
        · intro W hW; go_simp; (try with_reducible rfl)
        simp only [Act.put, List.setIfInBounds_toArray, List.set_cons_zero, List.set_cons_succ]
        refine tkYes 1 (v := ?_) rfl (by kernel_rfl) (fun _ _ _ h => h) rfl ?_ hS ?_
        rotate_left
        · intro W hW; have c2 := hW.rc.cs.c2; have lg := hW.rc.cs.lt; go_simp; (try with_reducible rfl)
        simp only [Act.put, List.setIfInBounds_toArray, List.set_cons_zero, List.set_cons_succ]
        refine tkYes 2 (v := ?_) rfl (by kernel_rfl) (fun _ _ _ h => h) rfl ?_ hS ?_
        rotate_left
        · intro W hW; go_simp; (try with_reducible rfl)
        simp only [Act.put, List.setIfInBounds_toArray, List.set_cons_zero, List.set_cons_succ]
        refine tkYes 3 (v := ?_) rfl (by kernel_rfl) (fun _ _ _ h => h) rfl ?_ hS ?_
        rotate_left
        · intro W hW; go_simp; (try with_reducible rfl)
        simp only [Act.put, List.setIfInBounds_toArray, List.set_cons_zero, List.set_cons_succ]
        refine tkYes 4 (v := ?_) rfl (by kernel_rfl) (fun _ _ _ h => h) rfl ?_ hS ?_
        rotate_left
        · intro W hW; go_simp; (try with_reducible rfl)
        simp only [Act.put, List.setIfInBounds_toArray, List.set_cons_zero, List.set_cons_succ]
        refine tkYes 5 (v := ?_) rfl (by kernel_rfl) (fun _ _ _ h => h) rfl ?_ hS ?_
        rotate_left
        · intro W hW; go_simp; (try with_reducible rfl)
        simp only [Act.put, List.setIfInBounds_toArray, List.set_cons_zero, List.set_cons_succ]
        refine tkYes 6 (v := ?_) rfl (by kernel_rfl) (fun _ _ _ h => h) rfl ?_ hS ?_
        rotate_left
        · intro W hW; have b10 := hW.bd.at_.cs.c10; have lq := hW.bd.lt.1; go_simp; (try with_reducible rfl)
        simp only [Act.put, List.setIfInBounds_toArray, List.set_cons_zero, List.set_cons_succ]
        refine tkYes 7 (v := ?_) rfl (by kernel_rfl) (fun _ _ _ h => h) rfl ?_ hS ?_
        rotate_left
        · intro W hW; go_simp; (try with_reducible rfl)
        simp only [Act.put, List.setIfInBounds_toArray, List.set_cons_zero, List.set_cons_succ]
        refine tkYes 8 (v := ?_) rfl (by kernel_rfl) (fun _ _ _ h => h) rfl ?_ hS ?_
        rotate_left
        · intro W hW; go_simp; (try with_reducible rfl)
        simp only [Act.put, List.setIfInBounds_toArray, List.set_cons_zero, List.set_cons_succ]
        refine tkYes 9 (v := ?_) rfl (by kernel_rfl) (fun _ _ _ h => h) rfl ?_ hS ?_
        rotate_left
        · intro W hW; go_simp; (try with_reducible rfl)
        simp only [Act.put, List.setIfInBounds_toArray, List.set_cons_zero, List.set_cons_succ]
        refine tkNo 10 rfl (by kernel_rfl) (fun _ _ _ h => h) rfl hS ?_
        simp only [Act.put, List.setIfInBounds_toArray, List.set_cons_zero, List.set_cons_succ]
        refine tkNo 11 rfl (by kernel_rfl) (fun _ _ _ h => h) rfl hS ?_
        simp only [Act.put, List.setIfInBounds_toArray, List.set_cons_zero, List.set_cons_succ]
        refine tkNo 12 rfl (by kernel_rfl) (fun _ _ _ h => h) rfl hS ?_
        simp only [Act.put, List.setIfInBounds_toArray, List.set_cons_zero, List.set_cons_succ]
        refine tkNo 13 rfl (by kernel_rfl) (fun _ _ _ h => h) rfl hS ?_
        simp only [Act.put, List.setIfInBounds_toArray, List.set_cons_zero, List.set_cons_succ]
        refine tkNo 14 rfl (by kernel_rfl) (fun _ _ _ h => h) rfl hS ?_
        simp only [Act.put, List.setIfInBounds_toArray, List.set_cons_zero, List.set_cons_succ]
        refine tkNo 15 rfl (by kernel_rfl) (fun _ _ _ h => h) rfl hS ?_
        simp only [Act.put, List.setIfInBounds_toArray, List.set_cons_zero, List.set_cons_succ]
        refine tkNo 16 rfl (by kernel_rfl) (fun _ _ _ h => h) rfl hS ?_
        simp only [Act.put, List.setIfInBounds_toArray, List.set_cons_zero, List.set_cons_succ]
        refine tkNo 17 rfl (by kernel_rfl) (fun _ _ _ h => h) rfl hS ?_
        simp only [Act.put, List.setIfInBounds_toArray, List.set_cons_zero, List.set_cons_succ]
        refine tkNo 18 rfl (by kernel_rfl) (fun _ _ _ h => h) rfl hS ?_
        simp only [Act.put, List.setIfInBounds_toArray, List.set_cons_zero, List.set_cons_succ]
        refine tkNo 19 rfl (by kernel_rfl) (fun _ _ _ h => h) rfl hS ?_
        simp only [Act.put, List.setIfInBounds_toArray, List.set_cons_zero, List.set_cons_succ]
        refine tkYes 20 (v := ?_) rfl (by kernel_rfl) (fun _ _ _ h => h) rfl ?_ hS ?_
        rotate_left
        · intro W hW; go_simp; (try with_reducible rfl)
        simp only [Act.put, List.setIfInBounds_toArray, List.set_cons_zero, List.set_cons_succ]
        refine tkYes 21 (v := ?_) rfl (by kernel_rfl) (fun _ _ _ h => h) rfl ?_ hS ?_
        rotate_left
        · intro W hW; go_simp; (try with_reducible rfl)
        simp only [Act.put, List.setIfInBounds_toArray, List.set_cons_zero, List.set_cons_succ]
        refine wpAnyH_done (by kernel_rfl) ?_ _
        have R2 := Lib.hid hS
        clear hS
        go_wp2_with fail
        go_ret
        exact ⟨rfl, R2.out.b⟩
    · rw [decide_eq_false hx1] at t1
      by_cases hx2 : r.text = Bk.promote
      · have TX : Hid (¬ (r.text ≠ Bk.passed ∧ r.text ≠ Bk.promote)) := fun h => h.2 hx2
        rw [decide_eq_true hx2] at t2
        clear hx1 hx2
        refine wp_region_held_drew (S := RdC w q s ru rv lo ko H K g r) (by kernel_rfl) (R0.out.on (Below.refl _ _).drew) (fun hS => ?_)
        refine tkYes 0 (v := ?_) rfl (by kernel_rfl) (fun _ _ _ h => h) rfl ?_ hS ?_
        rotate_left
        · intro W hW; go_simp; (try with_reducible rfl)
        simp only [Act.put, List.setIfInBounds_toArray, List.set_cons_zero, List.set_cons_succ]
        refine tkYes 1 (v := ?_) rfl (by kernel_rfl) (fun _ _ _ h => h) rfl ?_ hS ?_
        rotate_left
        · intro W hW; have c5 := hW.rc.cs.c5; have lg := hW.rc.cs.lt; go_simp; (try with_reducible rfl)
        simp only [Act.put, List.setIfInBounds_toArray, List.set_cons_zero, List.set_cons_succ]
        refine tkYes 2 (v := ?_) rfl (by kernel_rfl) (fun _ _ _ h => h) rfl ?_ hS ?_
        rotate_left
        · intro W hW; go_simp; (try with_reducible rfl)
        simp only [Act.put, List.setIfInBounds_toArray, List.set_cons_zero, List.set_cons_succ]
        refine tkYes 3 (v := ?_) rfl (by kernel_rfl) (fun _ _ _ h => h) rfl ?_ hS ?_
        rotate_left
        · intro W hW; go_simp; (try with_reducible rfl)
        simp only [Act.put, List.setIfInBounds_toArray, List.set_cons_zero, List.set_cons_succ]
        refine tkYes 4 (v := ?_) rfl (by kernel_rfl) (fun _ _ _ h => h) rfl ?_ hS ?_
        rotate_left
        · intro W hW; go_simp; (try with_reducible rfl)
        simp only [Act.put, List.setIfInBounds_toArray, List.set_cons_zero, List.set_cons_succ]
        refine tkYes 5 (v := ?_) rfl (by kernel_rfl) (fun _ _ _ h => h) rfl ?_ hS ?_
        rotate_left
        · intro W hW; have c5 := hW.rc.cs.c5; have lg := hW.rc.cs.lt; go_simp; (try with_reducible rfl)
        simp only [Act.put, List.setIfInBounds_toArray, List.set_cons_zero, List.set_cons_succ]
        refine rnOne 6 rfl (by kernel_rfl) rfl (fun K hK => ?_)
        go_simp
        with_reducible refine (CW.out _ hS).mono ?_
        rintro e w7 ⟨rfl, hb⟩
        have hS2 := hS.on hb
        clear hS hb
        have hS := hS2
        clear hS2
        refine hK.out _ _ hS (fun _ => ?_)
        clear hK K
        try simp only [Act.put, List.setIfInBounds_toArray, List.set_cons_zero, List.set_cons_succ]
        refine tkYes 7 (v := ?_) rfl (by kernel_rfl) (fun _ _ _ h => h) rfl ?_ hS ?_
        rotate_left
        · intro W hW; go_simp; (try with_reducible rfl)
        simp only [Act.put, List.setIfInBounds_toArray, List.set_cons_zero, List.set_cons_succ]
        refine tkYes 8 (v := ?_) rfl (by kernel_rfl) (fun _ _ _ h => h) rfl ?_ hS ?_
        rotate_left
        · intro W hW; go_simp; (try with_reducible rfl)
        simp only [Act.put, List.setIfInBounds_toArray, List.set_cons_zero, List.set_cons_succ]
        refine tkYes 9 (v := ?_) rfl (by kernel_rfl) (fun _ _ _ h => h) rfl ?_ hS ?_
        rotate_left
        · intro W hW; go_simp; (try with_reducible rfl)
        simp only [Act.put, List.setIfInBounds_toArray, List.set_cons_zero, List.set_cons_succ]
        refine wpAnyH_done (by kernel_rfl) ?_ _
        have R1 := Lib.hid hS
        clear hS
        by_cases hst : r.who = s.step + 1
        · have p1 : (r.who != s.step + 1) = false := by simpa using hst
          by_cases hsl : (sl.length : Int) < r.who
          · have E : ans = 7 := by rw [HA.out, if_neg (by omega), if_neg TX.out, if_pos (.inr hsl)]
            subst E
            have p2 : decide ((sl.length : Int) < r.who) = true := decide_eq_true hsl
            clear hst hsl hph
            go_upto_region 5 with fail
            refine wp_region_held_drew (S := RdC w q s ru rv lo ko H K g r) (by kernel_rfl) (R1.out.on (Below.refl _ _).drew) (fun hS => ?_)
            refine tkYes 0 (v := ?_) rfl (by kernel_rfl) (fun _ _ _ h => h) rfl ?_ hS ?_
            rotate_left
            · intro W hW; go_simp; (try with_reducible rfl)
            simp only [Act.put, List.setIfInBounds_toArray, List.set_cons_zero, List.set_cons_succ]
            refine tkYes 1 (v := ?_) rfl (by kernel_rfl) (fun _ _ _ h => h) rfl ?_ hS ?_
            rotate_left
            · intro W hW; have c2 := hW.rc.cs.c2; have lg := hW.rc.cs.lt; go_simp; (try with_reducible rfl)
            simp only [Act.put, List.setIfInBounds_toArray, List.set_cons_zero, List.set_cons_succ]
            refine tkYes 2 (v := ?_) rfl (by kernel_rfl) (fun _ _ _ h => h) rfl ?_ hS ?_
            rotate_left
            · intro W hW; go_simp; (try with_reducible rfl)
            simp only [Act.put, List.setIfInBounds_toArray, List.set_cons_zero, List.set_cons_succ]
            refine tkYes 3 (v := ?_) rfl (by kernel_rfl) (fun _ _ _ h => h) rfl ?_ hS ?_
            rotate_left
            · intro W hW; go_simp; (try with_reducible rfl)
            simp only [Act.put, List.setIfInBounds_toArray, List.set_cons_zero, List.set_cons_succ]
            refine tkYes 4 (v := ?_) rfl (by kernel_rfl) (fun _ _ _ h => h) rfl ?_ hS ?_
            rotate_left
            · intro W hW; go_simp; (try with_reducible rfl)
            simp only [Act.put, List.setIfInBounds_toArray, List.set_cons_zero, List.set_cons_succ]
            refine tkYes 5 (v := ?_) rfl (by kernel_rfl) (fun _ _ _ h => h) rfl ?_ hS ?_
            rotate_left
            · intro W hW; go_simp; (try with_reducible rfl)
            simp only [Act.put, List.setIfInBounds_toArray, List.set_cons_zero, List.set_cons_succ]
            refine tkYes 6 (v := ?_) rfl (by kernel_rfl) (fun _ _ _ h => h) rfl ?_ hS ?_
            rotate_left
            · intro W hW; have b10 := hW.bd.at_.cs.c10; have lq := hW.bd.lt.1; go_simp; (try with_reducible rfl)
            simp only [Act.put, List.setIfInBounds_toArray, List.set_cons_zero, List.set_cons_succ]
            refine tkYes 7 (v := ?_) rfl (by kernel_rfl) (fun _ _ _ h => h) rfl ?_ hS ?_
            rotate_left
            · intro W hW; go_simp; (try with_reducible rfl)
            simp only [Act.put, List.setIfInBounds_toArray, List.set_cons_zero, List.set_cons_succ]
            refine tkYes 8 (v := ?_) rfl (by kernel_rfl) (fun _ _ _ h => h) rfl ?_ hS ?_
            rotate_left
            · intro W hW; go_simp; (try with_reducible rfl)
            simp only [Act.put, List.setIfInBounds_toArray, List.set_cons_zero, List.set_cons_succ]
            refine tkYes 9 (v := ?_) rfl (by kernel_rfl) (fun _ _ _ h => h) rfl ?_ hS ?_
            rotate_left
            · intro W hW; go_simp; (try with_reducible rfl)
            simp only [Act.put, List.setIfInBounds_toArray, List.set_cons_zero, List.set_cons_succ]
            refine tkYes 10 (v := ?_) rfl (by kernel_rfl) (fun _ _ _ h => h) rfl ?_ hS ?_
            rotate_left
            · intro W hW; go_simp; (try with_reducible rfl)
            simp only [Act.put, List.setIfInBounds_toArray, List.set_cons_zero, List.set_cons_succ]
            refine tkYes 11 (v := ?_) rfl (by kernel_rfl) (fun _ _ _ h => h) rfl ?_ hS ?_
            rotate_left
            · intro W hW; have c2 := hW.rc.cs.c2; have lg := hW.rc.cs.lt; go_simp; (try with_reducible rfl)
            simp only [Act.put, List.setIfInBounds_toArray, List.set_cons_zero, List.set_cons_succ]
            refine tkYes 12 (v := ?_) rfl (by kernel_rfl) (fun _ _ _ h => h) rfl ?_ hS ?_
            rotate_left
            · intro W hW; go_simp; (try with_reducible rfl)
            simp only [Act.put, List.setIfInBounds_toArray, List.set_cons_zero, List.set_cons_succ]
            refine tkYes 13 (v := ?_) rfl (by kernel_rfl) (fun _ _ _ h => h) rfl ?_ hS ?_
            rotate_left
            · intro W hW; go_simp; (try with_reducible rfl)
            simp only [Act.put, List.setIfInBounds_toArray, List.set_cons_zero, List.set_cons_succ]
            refine tkYes 14 (v := ?_) rfl (by kernel_rfl) (fun _ _ _ h => h) rfl ?_ hS ?_
            rotate_left
            · intro W hW; go_simp; (try with_reducible rfl)
            simp only [Act.put, List.setIfInBounds_toArray, List.set_cons_zero, List.set_cons_succ]
            refine tkYes 15 (v := ?_) rfl (by kernel_rfl) (fun _ _ _ h => h) rfl ?_ hS ?_
            rotate_left
            · intro W hW; go_simp; (try with_reducible rfl)
            simp only [Act.put, List.setIfInBounds_toArray, List.set_cons_zero, List.set_cons_succ]
            refine tkYes 16 (v := ?_) rfl (by kernel_rfl) (fun _ _ _ h => h) rfl ?_ hS ?_
            rotate_left
            · intro W hW; have x := hW.bd.at_.cs; have lq := hW.bd.lt.1; obtain ⟨x0, x1, x2, x3, x4, x5, x6, x7, x8, x9, x10, x11, x12, x13, x14, x15, x16, x17, x18, x19, x20, x21, x22, x23, x24, x25, x74, xlt⟩ := x; go_simp; (try with_reducible rfl)
            simp only [Act.put, List.setIfInBounds_toArray, List.set_cons_zero, List.set_cons_succ]
            refine rnOne 17 rfl (by kernel_rfl) rfl (fun K hK => ?_)
            go_simp
            with_reducible refine (CS.out _).mono ?_
            rintro e w9 ⟨A9, c9, rfl, _, hb⟩
            have hS2 := hS.on hb
            clear hS hb
            have hS := hS2
            clear hS2
            refine hK.out _ _ hS (fun _ => ?_)
            clear hK K
            try simp only [Act.put, List.setIfInBounds_toArray, List.set_cons_zero, List.set_cons_succ]
            refine tkYes 18 (v := ?_) rfl (by kernel_rfl) (fun _ _ _ h => h) rfl ?_ hS ?_
            rotate_left
            · intro W hW; go_simp; (try with_reducible rfl)
            simp only [Act.put, List.setIfInBounds_toArray, List.set_cons_zero, List.set_cons_succ]
            refine tkYes 19 (v := ?_) rfl (by kernel_rfl) (fun _ _ _ h => h) rfl ?_ hS ?_
            rotate_left
            · intro W hW; go_simp; (try with_reducible rfl)
            simp only [Act.put, List.setIfInBounds_toArray, List.set_cons_zero, List.set_cons_succ]
            refine tkYes 20 (v := ?_) rfl (by kernel_rfl) (fun _ _ _ h => h) rfl ?_ hS ?_
            rotate_left
            · intro W hW; go_simp; (try with_reducible rfl)
            simp only [Act.put, List.setIfInBounds_toArray, List.set_cons_zero, List.set_cons_succ]
            refine tkYes 21 (v := ?_) rfl (by kernel_rfl) (fun _ _ _ h => h) rfl ?_ hS ?_
            rotate_left
            · intro W hW; go_simp; (try with_reducible rfl)
            simp only [Act.put, List.setIfInBounds_toArray, List.set_cons_zero, List.set_cons_succ]
            refine wpAnyH_done (by kernel_rfl) ?_ _
            have R2 := Lib.hid hS
            clear hS
            go_wp2_with fail
            go_ret
            exact ⟨rfl, R2.out.b⟩
          · have E : ans = 0 := by rw [HA.out, if_neg (by omega), if_neg TX.out, if_neg (by omega)]
            subst E
            have p2 : decide ((sl.length : Int) < r.who) = false := decide_eq_false hsl
            clear hst hsl hph
            go_upto_region 5 with fail
            refine wp_region_held_drew (S := RdC w q s ru rv lo ko H K g r) (by kernel_rfl) (R1.out.on (Below.refl _ _).drew) (fun hS => ?_)
            refine tkYes 0 (v := ?_) rfl (by kernel_rfl) (fun _ _ _ h => h) rfl ?_ hS ?_
            rotate_left
            · intro W hW; go_simp; (try with_reducible rfl)
            simp only [Act.put, List.setIfInBounds_toArray, List.set_cons_zero, List.set_cons_succ]
            refine tkYes 1 (v := ?_) rfl (by kernel_rfl) (fun _ _ _ h => h) rfl ?_ hS ?_
            rotate_left
            · intro W hW; have c2 := hW.rc.cs.c2; have lg := hW.rc.cs.lt; go_simp; (try with_reducible rfl)
            simp only [Act.put, List.setIfInBounds_toArray, List.set_cons_zero, List.set_cons_succ]
            refine tkYes 2 (v := ?_) rfl (by kernel_rfl) (fun _ _ _ h => h) rfl ?_ hS ?_
            rotate_left
            · intro W hW; go_simp; (try with_reducible rfl)
            simp only [Act.put, List.setIfInBounds_toArray, List.set_cons_zero, List.set_cons_succ]
            refine tkYes 3 (v := ?_) rfl (by kernel_rfl) (fun _ _ _ h => h) rfl ?_ hS ?_
            rotate_left
            · intro W hW; go_simp; (try with_reducible rfl)
            simp only [Act.put, List.setIfInBounds_toArray, List.set_cons_zero, List.set_cons_succ]
            refine tkYes 4 (v := ?_) rfl (by kernel_rfl) (fun _ _ _ h => h) rfl ?_ hS ?_
            rotate_left
            · intro W hW; go_simp; (try with_reducible rfl)
            simp only [Act.put, List.setIfInBounds_toArray, List.set_cons_zero, List.set_cons_succ]
            refine tkYes 5 (v := ?_) rfl (by kernel_rfl) (fun _ _ _ h => h) rfl ?_ hS ?_
            rotate_left
            · intro W hW; go_simp; (try with_reducible rfl)
            simp only [Act.put, List.setIfInBounds_toArray, List.set_cons_zero, List.set_cons_succ]
            refine tkYes 6 (v := ?_) rfl (by kernel_rfl) (fun _ _ _ h => h) rfl ?_ hS ?_
            rotate_left
            · intro W hW; have b10 := hW.bd.at_.cs.c10; have lq := hW.bd.lt.1; go_simp; (try with_reducible rfl)
            simp only [Act.put, List.setIfInBounds_toArray, List.set_cons_zero, List.set_cons_succ]
            refine tkYes 7 (v := ?_) rfl (by kernel_rfl) (fun _ _ _ h => h) rfl ?_ hS ?_
            rotate_left
            · intro W hW; go_simp; (try with_reducible rfl)
            simp only [Act.put, List.setIfInBounds_toArray, List.set_cons_zero, List.set_cons_succ]
            refine tkYes 8 (v := ?_) rfl (by kernel_rfl) (fun _ _ _ h => h) rfl ?_ hS ?_
            rotate_left
            · intro W hW; go_simp; (try with_reducible rfl)
            simp only [Act.put, List.setIfInBounds_toArray, List.set_cons_zero, List.set_cons_succ]
            refine tkYes 9 (v := ?_) rfl (by kernel_rfl) (fun _ _ _ h => h) rfl ?_ hS ?_
            rotate_left
            · intro W hW; go_simp; (try with_reducible rfl)
            simp only [Act.put, List.setIfInBounds_toArray, List.set_cons_zero, List.set_cons_succ]
            refine tkYes 10 (v := ?_) rfl (by kernel_rfl) (fun _ _ _ h => h) rfl ?_ hS ?_
            rotate_left
            · intro W hW; go_simp; (try with_reducible rfl)
            simp only [Act.put, List.setIfInBounds_toArray, List.set_cons_zero, List.set_cons_succ]
            refine tkYes 11 (v := ?_) rfl (by kernel_rfl) (fun _ _ _ h => h) rfl ?_ hS ?_
            rotate_left
            · intro W hW; have c2 := hW.rc.cs.c2; have lg := hW.rc.cs.lt; go_simp; (try with_reducible rfl)
            simp only [Act.put, List.setIfInBounds_toArray, List.set_cons_zero, List.set_cons_succ]
            refine tkYes 12 (v := ?_) rfl (by kernel_rfl) (fun _ _ _ h => h) rfl ?_ hS ?_
            rotate_left
            · intro W hW; go_simp; (try with_reducible rfl)
            simp only [Act.put, List.setIfInBounds_toArray, List.set_cons_zero, List.set_cons_succ]
            refine tkYes 13 (v := ?_) rfl (by kernel_rfl) (fun _ _ _ h => h) rfl ?_ hS ?_
            rotate_left
            · intro W hW; go_simp; (try with_reducible rfl)
            simp only [Act.put, List.setIfInBounds_toArray, List.set_cons_zero, List.set_cons_succ]
            refine tkYes 14 (v := ?_) rfl (by kernel_rfl) (fun _ _ _ h => h) rfl ?_ hS ?_
            rotate_left
            · intro W hW; go_simp; (try with_reducible rfl)
            simp only [Act.put, List.setIfInBounds_toArray, List.set_cons_zero, List.set_cons_succ]
            refine tkYes 15 (v := ?_) rfl (by kernel_rfl) (fun _ _ _ h => h) rfl ?_ hS ?_
            rotate_left
            · intro W hW; go_simp; (try with_reducible rfl)
            simp only [Act.put, List.setIfInBounds_toArray, List.set_cons_zero, List.set_cons_succ]
            refine tkYes 16 (v := ?_) rfl (by kernel_rfl) (fun _ _ _ h => h) rfl ?_ hS ?_
            rotate_left
            · intro W hW; have x := hW.bd.at_.cs; have lq := hW.bd.lt.1; obtain ⟨x0, x1, x2, x3, x4, x5, x6, x7, x8, x9, x10, x11, x12, x13, x14, x15, x16, x17, x18, x19, x20, x21, x22, x23, x24, x25, x74, xlt⟩ := x; go_simp; (try with_reducible rfl)
            simp only [Act.put, List.setIfInBounds_toArray, List.set_cons_zero, List.set_cons_succ]
            refine rnOne 17 rfl (by kernel_rfl) rfl (fun K hK => ?_)
            go_simp
            with_reducible refine (CS.out _).mono ?_
            rintro e w9 ⟨A9, c9, rfl, _, hb⟩
            have hS2 := hS.on hb
            clear hS hb
            have hS := hS2
            clear hS2
            refine hK.out _ _ hS (fun _ => ?_)
            clear hK K
            try simp only [Act.put, List.setIfInBounds_toArray, List.set_cons_zero, List.set_cons_succ]
            refine tkYes 18 (v := ?_) rfl (by kernel_rfl) (fun _ _ _ h => h) rfl ?_ hS ?_
            rotate_left
            · intro W hW; go_simp; (try with_reducible rfl)
            simp only [Act.put, List.setIfInBounds_toArray, List.set_cons_zero, List.set_cons_succ]
            refine tkYes 19 (v := ?_) rfl (by kernel_rfl) (fun _ _ _ h => h) rfl ?_ hS ?_
            rotate_left
            · intro W hW; go_simp; (try with_reducible rfl)
            simp only [Act.put, List.setIfInBounds_toArray, List.set_cons_zero, List.set_cons_succ]
            refine tkYes 20 (v := ?_) rfl (by kernel_rfl) (fun _ _ _ h => h) rfl ?_ hS ?_
            rotate_left
            · intro W hW; go_simp; (try with_reducible rfl)
            simp only [Act.put, List.setIfInBounds_toArray, List.set_cons_zero, List.set_cons_succ]
            refine tkYes 21 (v := ?_) rfl (by kernel_rfl) (fun _ _ _ h => h) rfl ?_ hS ?_
            rotate_left
            · intro W hW; go_simp; (try with_reducible rfl)
            simp only [Act.put, List.setIfInBounds_toArray, List.set_cons_zero, List.set_cons_succ]
            refine wpAnyH_done (by kernel_rfl) ?_ _
            have R2 := Lib.hid hS
            clear hS
            go_wp2_with fail
            go_ret
            exact ⟨rfl, R2.out.b⟩
        · have p1 : (r.who != s.step + 1) = true := by simpa using hst
          have E : ans = 7 := by rw [HA.out, if_neg (by omega), if_neg TX.out, if_pos (.inl hst)]
          subst E
          clear hst hph
          go_upto_region 5 with fail
          refine wp_region_held_drew (S := RdC w q s ru rv lo ko H K g r) (by kernel_rfl) (R1.out.on (Below.refl _ _).drew) (fun hS => ?_)
          refine tkYes 0 (v := ?_) rfl (by kernel_rfl) (fun _ _ _ h => h) rfl ?_ hS ?_
          rotate_left
          · intro W hW; go_simp; (try with_reducible rfl)
          simp only [Act.put, List.setIfInBounds_toArray, List.set_cons_zero, List.set_cons_succ]
          refine tkYes 1 (v := ?_) rfl (by kernel_rfl) (fun _ _ _ h => h) rfl ?_ hS ?_
          rotate_left
          · intro W hW; have c2 := hW.rc.cs.c2; have lg := hW.rc.cs.lt; go_simp; (try with_reducible rfl)
          simp only [Act.put, List.setIfInBounds_toArray, List.set_cons_zero, List.set_cons_succ]
          refine tkYes 2 (v := ?_) rfl (by kernel_rfl) (fun _ _ _ h => h) rfl ?_ hS ?_
          rotate_left
          · intro W hW; go_simp; (try with_reducible rfl)
          simp only [Act.put, List.setIfInBounds_toArray, List.set_cons_zero, List.set_cons_succ]
          refine tkYes 3 (v := ?_) rfl (by kernel_rfl) (fun _ _ _ h => h) rfl ?_ hS ?_
          rotate_left
          · intro W hW; go_simp; (try with_reducible rfl)
          simp only [Act.put, List.setIfInBounds_toArray, List.set_cons_zero, List.set_cons_succ]
          refine tkYes 4 (v := ?_) rfl (by kernel_rfl) (fun _ _ _ h => h) rfl ?_ hS ?_
          rotate_left
          · intro W hW; go_simp; (try with_reducible rfl)
          simp only [Act.put, List.setIfInBounds_toArray, List.set_cons_zero, List.set_cons_succ]
          refine tkYes 5 (v := ?_) rfl (by kernel_rfl) (fun _ _ _ h => h) rfl ?_ hS ?_
          rotate_left
          · intro W hW; go_simp; (try with_reducible rfl)
          simp only [Act.put, List.setIfInBounds_toArray, List.set_cons_zero, List.set_cons_succ]
          refine tkYes 6 (v := ?_) rfl (by kernel_rfl) (fun _ _ _ h => h) rfl ?_ hS ?_
          rotate_left
          · intro W hW; have b10 := hW.bd.at_.cs.c10; have lq := hW.bd.lt.1; go_simp; (try with_reducible rfl)
          simp only [Act.put, List.setIfInBounds_toArray, List.set_cons_zero, List.set_cons_succ]
          refine tkYes 7 (v := ?_) rfl (by kernel_rfl) (fun _ _ _ h => h) rfl ?_ hS ?_
          rotate_left
          · intro W hW; go_simp; (try with_reducible rfl)
          simp only [Act.put, List.setIfInBounds_toArray, List.set_cons_zero, List.set_cons_succ]
          refine tkYes 8 (v := ?_) rfl (by kernel_rfl) (fun _ _ _ h => h) rfl ?_ hS ?_
          rotate_left
          · intro W hW; go_simp; (try with_reducible rfl)
          simp only [Act.put, List.setIfInBounds_toArray, List.set_cons_zero, List.set_cons_succ]
          refine tkYes 9 (v := ?_) rfl (by kernel_rfl) (fun _ _ _ h => h) rfl ?_ hS ?_
          rotate_left
          · intro W hW; go_simp; (try with_reducible rfl)
          simp only [Act.put, List.setIfInBounds_toArray, List.set_cons_zero, List.set_cons_succ]
          refine tkNo 10 rfl (by kernel_rfl) (fun _ _ _ h => h) rfl hS ?_
          simp only [Act.put, List.setIfInBounds_toArray, List.set_cons_zero, List.set_cons_succ]
          refine tkNo 11 rfl (by kernel_rfl) (fun _ _ _ h => h) rfl hS ?_
          simp only [Act.put, List.setIfInBounds_toArray, List.set_cons_zero, List.set_cons_succ]
          refine tkNo 12 rfl (by kernel_rfl) (fun _ _ _ h => h) rfl hS ?_
          simp only [Act.put, List.setIfInBounds_toArray, List.set_cons_zero, List.set_cons_succ]
          refine tkNo 13 rfl (by kernel_rfl) (fun _ _ _ h => h) rfl hS ?_
          simp only [Act.put, List.setIfInBounds_toArray, List.set_cons_zero, List.set_cons_succ]
          refine tkNo 14 rfl (by kernel_rfl) (fun _ _ _ h => h) rfl hS ?_
          simp only [Act.put, List.setIfInBounds_toArray, List.set_cons_zero, List.set_cons_succ]
          refine tkNo 15 rfl (by kernel_rfl) (fun _ _ _ h => h) rfl hS ?_
          simp only [Act.put, List.setIfInBounds_toArray, List.set_cons_zero, List.set_cons_succ]
          refine tkNo 16 rfl (by kernel_rfl) (fun _ _ _ h => h) rfl hS ?_
          simp only [Act.put, List.setIfInBounds_toArray, List.set_cons_zero, List.set_cons_succ]
          refine tkNo 17 rfl (by kernel_rfl) (fun _ _ _ h => h) rfl hS ?_
          simp only [Act.put, List.setIfInBounds_toArray, List.set_cons_zero, List.set_cons_succ]
          refine tkNo 18 rfl (by kernel_rfl) (fun _ _ _ h => h) rfl hS ?_
          simp only [Act.put, List.setIfInBounds_toArray, List.set_cons_zero, List.set_cons_succ]
          refine tkNo 19 rfl (by kernel_rfl) (fun _ _ _ h => h) rfl hS ?_
          simp only [Act.put, List.setIfInBounds_toArray, List.set_cons_zero, List.set_cons_succ]
          refine tkYes 20 (v := ?_) rfl (by kernel_rfl) (fun _ _ _ h => h) rfl ?_ hS ?_
          rotate_left
          · intro W hW; go_simp; (try with_reducible rfl)
          simp only [Act.put, List.setIfInBounds_toArray, List.set_cons_zero, List.set_cons_succ]
          refine tkYes 21 (v := ?_) rfl (by kernel_rfl) (fun _ _ _ h => h) rfl ?_ hS ?_
          rotate_left
          · intro W hW; go_simp; (try with_reducible rfl)
          simp only [Act.put, List.setIfInBounds_toArray, List.set_cons_zero, List.set_cons_succ]
          refine wpAnyH_done (by kernel_rfl) ?_ _
          have R2 := Lib.hid hS
          clear hS
          go_wp2_with fail
          go_ret
          exact ⟨rfl, R2.out.b⟩
      · have E : ans = 2 := by rw [HA.out, if_neg (by omega), if_pos ⟨hx1, hx2⟩]
        subst E
        rw [decide_eq_false hx2] at t2
        clear hx1 hx2 hph
        refine wp_region_held_drew (S := RdC w q s ru rv lo ko H K g r) (by kernel_rfl) (R0.out.on (Below.refl _ _).drew) (fun hS => ?_)
        refine tkYes 0 (v := ?_) rfl (by kernel_rfl) (fun _ _ _ h => h) rfl ?_ hS ?_
        rotate_left
        · intro W hW; go_simp; (try with_reducible rfl)
        simp only [Act.put, List.setIfInBounds_toArray, List.set_cons_zero, List.set_cons_succ]
        refine tkYes 1 (v := ?_) rfl (by kernel_rfl) (fun _ _ _ h => h) rfl ?_ hS ?_
        rotate_left
        · intro W hW; have c5 := hW.rc.cs.c5; have lg := hW.rc.cs.lt; go_simp; (try with_reducible rfl)
        simp only [Act.put, List.setIfInBounds_toArray, List.set_cons_zero, List.set_cons_succ]
        refine tkYes 2 (v := ?_) rfl (by kernel_rfl) (fun _ _ _ h => h) rfl ?_ hS ?_
        rotate_left
        · intro W hW; go_simp; (try with_reducible rfl)
        simp only [Act.put, List.setIfInBounds_toArray, List.set_cons_zero, List.set_cons_succ]
        refine tkYes 3 (v := ?_) rfl (by kernel_rfl) (fun _ _ _ h => h) rfl ?_ hS ?_
        rotate_left
        · intro W hW; go_simp; (try with_reducible rfl)
        simp only [Act.put, List.setIfInBounds_toArray, List.set_cons_zero, List.set_cons_succ]
        refine tkYes 4 (v := ?_) rfl (by kernel_rfl) (fun _ _ _ h => h) rfl ?_ hS ?_
        rotate_left
        · intro W hW; go_simp; (try with_reducible rfl)
        simp only [Act.put, List.setIfInBounds_toArray, List.set_cons_zero, List.set_cons_succ]
        refine tkYes 5 (v := ?_) rfl (by kernel_rfl) (fun _ _ _ h => h) rfl ?_ hS ?_
        rotate_left
        · intro W hW; have c5 := hW.rc.cs.c5; have lg := hW.rc.cs.lt; go_simp; (try with_reducible rfl)
        simp only [Act.put, List.setIfInBounds_toArray, List.set_cons_zero, List.set_cons_succ]
        refine rnOne 6 rfl (by kernel_rfl) rfl (fun K hK => ?_)
        go_simp
        with_reducible refine (CW.out _ hS).mono ?_
        rintro e w7 ⟨rfl, hb⟩
        have hS2 := hS.on hb
        clear hS hb
        have hS := hS2
        clear hS2
        refine hK.out _ _ hS (fun _ => ?_)
        clear hK K
        try simp only [Act.put, List.setIfInBounds_toArray, List.set_cons_zero, List.set_cons_succ]
        refine tkYes 7 (v := ?_) rfl (by kernel_rfl) (fun _ _ _ h => h) rfl ?_ hS ?_
        rotate_left
        · intro W hW; go_simp; (try with_reducible rfl)
        simp only [Act.put, List.setIfInBounds_toArray, List.set_cons_zero, List.set_cons_succ]
        refine tkYes 8 (v := ?_) rfl (by kernel_rfl) (fun _ _ _ h => h) rfl ?_ hS ?_
        rotate_left
        · intro W hW; go_simp; (try with_reducible rfl)
        simp only [Act.put, List.setIfInBounds_toArray, List.set_cons_zero, List.set_cons_succ]
        refine tkYes 9 (v := ?_) rfl (by kernel_rfl) (fun _ _ _ h => h) rfl ?_ hS ?_
        rotate_left
        · intro W hW; go_simp; (try with_reducible rfl)
        simp only [Act.put, List.setIfInBounds_toArray, List.set_cons_zero, List.set_cons_succ]
        refine wpAnyH_done (by kernel_rfl) ?_ _
        have R2 := Lib.hid hS
        clear hS
        go_wp2_with fail
        go_ret
        exact ⟨rfl, R2.out.b⟩
  · have o1 : (s.ph != 1) = true := by simpa using hph
    have E : ans = 10 := by rw [HA.out, if_pos hph]
    subst E
    clear hph t1 t2
    go_wp2_with fail
    go_ret
    exact ⟨rfl, R0.out.b⟩
end Go.Proofs.YtnacjhnfkkddcaaGreatDoor
namespace Go.Proofs.YtnacjhnfkkddcaaGreatDoor
open Go.RowKit Go.Maps Go.WideMaps
structure MapV (P : Program) (kt et t : TypeId) (K V H : Type) where
  kv : K → Value
  kl : K → Lit
  ok : K → Prop
  ev : V → Value
  ed : V → DataW H
  R : Value → Option (DataW H × List MemPlace)
  zero : V
  keyed : Keyed P kt
  ty : P.underlying t = some (.map kt et)
  key : ∀ k, ok k → keyOf P kt (kv k) = some (kl k)
  inj : ∀ k k', kl k = kl k' → k = k'
  isKey : ∀ k, WideAt.IsKeyLit (kl k)
  rd : ∀ v, R (ev v) = some (ed v, [])
  rinv : ∀ x z, R x = some z → ∃ v, x = ev v ∧ z = (ed v, [])
  einj : ∀ v v', ed v = ed v' → v = v'
  hz : ∀ w, (zeroValue et).run P w = .ok (ev zero) w
namespace MapV
variable {P : Program} {kt et t : TypeId} {K V H : Type} (M : MapV P kt et t K V H)
structure Dat (D : DataW H) (f : K → Option V) (n : Nat) : Prop where
  has : ∀ k, Maps.has D (M.kl k) = (f k).isSome
  at_ : ∀ k v, f k = some v → ∀ z, D.atKey (M.kl k) z = M.ed v
  size : Maps.size D = n
  tidy : Tidy D
def At (w : World) (b : Nat) (f : K → Option V) (n : Nat) : Prop := ∃ D, w.ownsMap P kt M.R b n D ∧ M.Dat D f n
noncomputable def set (f : K → Option V) (k : K) (o : Option V) : K → Option V := by
  classical exact fun k' => if k' = k then o else f k'
theorem set_same (f : K → Option V) (k : K) (o : Option V) : set f k o k = o := by unfold set; simp
theorem set_other (f : K → Option V) {k k' : K} (o : Option V) (h : k' ≠ k) : set f k o k' = f k' := by unfold set; simp [h]
variable {M}
theorem owns_tight {w : World} {b n : Nat} {D : DataW H} (h : w.ownsMap P kt M.R b n D) : w.ownsMap P kt M.R b (Maps.size D) D := by
  obtain ⟨es, clock, hb, F, _, rfl⟩ := h
  refine ⟨es, clock, hb, F, ?_, rfl⟩
  simp [Maps.size, length_sorted]
theorem At.of {w : World} {b n m : Nat} {D : DataW H} {f : K → Option V} (h : w.ownsMap P kt M.R b m D) (hd : M.Dat D f n) : M.At w b f n := ⟨D, by rw [← hd.size]; exact owns_tight h, hd⟩
theorem At.made (w : World) : M.At (w.alloc (.map #[] 0)) w.heap.size (fun _ => none) 0 := ⟨_, World.ownsMap_made w P kt M.R, fun _ => rfl, fun _ _ h => (by cases h), rfl, tidy_empty⟩
theorem At.lt {w : World} {b n : Nat} {f : K → Option V} (h : M.At w b f n) : b < w.heap.size := by
  obtain ⟨D, h1, _⟩ := h
  exact h1.lt
theorem At.keep {w w' : World} {b n : Nat} {f : K → Option V} (h : M.At w b f n) (hb : w'.heap[b]? = w.heap[b]?) : M.At w' b f n := by
  obtain ⟨D, ⟨es, clock, h1, h2⟩, hd⟩ := h
  exact ⟨D, ⟨es, clock, hb.trans h1, h2⟩, hd⟩
theorem At.on {w w' : World} {b n : Nat} {f : K → Option V} (h : M.At w b f n) (hb : Below w.heap.size w w') : M.At w' b f n := h.keep (hb.block b h.lt)
theorem At.block {w : World} {b n : Nat} {f : K → Option V} (h : M.At w b f n) : ∃ es clock, w.heap[b]? = some (.map es clock) := by
  obtain ⟨D, ⟨es, clock, h1, _⟩, _⟩ := h
  exact ⟨es, clock, h1⟩
theorem Dat.look {D : DataW H} {f : K → Option V} {n : Nat} (h : M.Dat D f n) (k : K) : D.atKey (M.kl k) (M.ed M.zero) = M.ed ((f k).getD M.zero) := by
  cases hf : f k with
  | none =>
    have := h.has k
    rw [hf] at this
    exact Maps.atKey_of_not_has this _
  | some v => exact h.at_ k v hf _
theorem Dat.put {D : DataW H} {f : K → Option V} {n : Nat} (h : M.Dat D f n) (k : K) (v : V) : M.Dat (D.put (M.kl k) (M.ed v)) (set f k (some v)) (if (f k).isSome then n else n + 1) := by
  refine ⟨fun k' => ?_, fun k' u hu z => ?_, ?_, h.tidy.put (M.isKey k) _⟩
  · by_cases hk : k' = k
    · subst hk; rw [set_same]; exact has_put_same h.tidy.isMap (M.isKey _) _
    · rw [set_other _ _ hk, has_put_other (fun e => hk (M.inj _ _ e))]; exact h.has k'
  · by_cases hk : k' = k
    · subst hk
      rw [set_same] at hu
      obtain rfl := Option.some.inj hu
      exact atKey_put_same h.tidy.isMap (M.isKey _) _ _
    · rw [set_other _ _ hk] at hu
      rw [atKey_put_other (fun e => hk (M.inj _ _ e))]; exact h.at_ k' u hu z
  · have h1 := size_put (k := M.kl k) h.tidy (M.ed v)
    rw [h.has k, h.size] at h1
    exact h1
theorem At.look {w : World} {b n : Nat} {f : K → Option V} (h : M.At w b f n) (k : K) (hk : M.ok k) : (Instr.lookup t (.map (some b)) (M.kv k) false).run P w = .ok (M.ev ((f k).getD M.zero)) w := by
  obtain ⟨D, h1, hd⟩ := h
  obtain ⟨v, ps, hrun, hv⟩ := h1.lookup M.keyed M.ty (M.hz w) (M.rd M.zero) (M.key k hk)
  obtain ⟨u, rfl, hu⟩ := M.rinv _ _ hv
  have h2 := hd.look k
  have h3 : D.atKey (M.kl k) (M.ed M.zero) = M.ed u := congrArg Prod.fst hu
  rw [M.einj _ _ (h2.symm.trans h3)]
  exact hrun
theorem At.look_ok {w : World} {b n : Nat} {f : K → Option V} (h : M.At w b f n) (k : K) (hk : M.ok k) : (Instr.lookup t (.map (some b)) (M.kv k) true).run P w = .ok (.tuple #[M.ev ((f k).getD M.zero), .bool (f k).isSome]) w := by
  obtain ⟨D, h1, hd⟩ := h
  obtain ⟨v, ps, hrun, hv⟩ := h1.look_ok M.keyed M.ty (M.hz w) (M.rd M.zero) (M.key k hk)
  obtain ⟨u, rfl, hu⟩ := M.rinv _ _ hv
  have h2 := hd.look k
  have h3 : D.atKey (M.kl k) (M.ed M.zero) = M.ed u := congrArg Prod.fst hu
  rw [hd.has k] at hrun
  rw [M.einj _ _ (h2.symm.trans h3)]
  exact hrun
theorem At.put {w : World} {b n : Nat} {f : K → Option V} (h : M.At w b f n) (hn : n < maxLen) (k : K) (v : V) (hk : M.ok k) :
    ∃ w', (Instr.mapUpdate t (.map (some b)) (M.kv k) (M.ev v)).run P w = .ok () w' ∧ M.At w' b (set f k (some v)) (if (f k).isSome then n else n + 1) ∧ w.mapTurned w' b := by
  obtain ⟨D, h1, hd⟩ := h
  obtain ⟨w', hrun, h2, h3⟩ := h1.store M.keyed M.ty hn (M.key k hk) (M.rd v)
  exact ⟨w', hrun, At.of h2 (hd.put k v), h3⟩
end MapV
abbrev heldR (v : Value) : Option (DataW Value × List MemPlace) := some (.held v, [])
def MapV.ofInt {P : Program} {kt et t : TypeId} {q : IntKind} (hk : P.underlying kt = some (.int q)) (ht : P.underlying t = some (.map kt et)) (z : Value) (hz : ∀ w, (zeroValue et).run P w = .ok z w) : MapV P kt et t Int Value Value where
  kv := .int q
  kl := .int q
  ok := fun a => (Lit.int q a).wf = true
  ev := fun v => v
  ed := .held
  R := heldR
  zero := z
  keyed := Maps.int_keyed hk
  ty := ht
  key := fun _ h => Maps.keyOf_int_mk hk h
  inj := fun _ _ h => by injection h
  isKey := fun _ => trivial
  rd := fun _ => rfl
  rinv := fun x z h => ⟨x, rfl, (Option.some.inj h).symm⟩
  einj := fun _ _ h => by injection h
  hz := hz
theorem MapV.At.insert {P : Program} {kt et t : TypeId} {K V H : Type} {M : MapV P kt et t K V H} {w : World} {ops : Array Oper} {rest : List Oper} {o : Oper} {a : Act} {Q : Exit → Act → World → Prop} {b n : Nat} {f : K → Option V} (h : M.At w b f n) (hg : o.guard = none) (m x v : Operand) (hop : o.op = Op.insert t m x v)
    (hm : a.eval m = .map (some b)) (k : K) (u : V) (hx : a.eval x = M.kv k) (hv : a.eval v = M.ev u) (hn : n < maxLen) (hk : M.ok k)
    (hK : ∀ w', M.At w' b (MapV.set f k (some u)) (if (f k).isSome then n else n + 1) → w.mapTurned w' b → wpList P ops Q rest (a.put o.dst undef) w') : wpList P ops Q (o :: rest) a w := by
  refine wpList_plain hg fun K' hK' => ?_
  obtain ⟨w', hrun, h2, h3⟩ := h.put hn k u hk
  unfold Oper.wp
  simp [execOp, hop, hm, hx, hv, hrun, Result.andThen]
  exact hK' _ _ (hK w' h2 h3)
end Go.Proofs.YtnacjhnfkkddcaaGreatDoor
