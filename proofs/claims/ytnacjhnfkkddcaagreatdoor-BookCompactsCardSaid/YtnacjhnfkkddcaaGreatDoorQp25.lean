import Derived.Test.YtnacjhnfkkddcaaGreatDoorQp19
import Derived.Test.YtnacjhnfkkddcaaGreatDoorQp23
set_option maxHeartbeats 6400000
set_option maxRecDepth 100000
set_option linter.unusedSimpArgs false
set_option linter.unusedVariables false
namespace Go.Proofs.YtnacjhnfkkddcaaGreatDoor
open Go.RowKit Go.Deep Go.Maps
theorem jc1 {w : World} {q : Nat} {s : Bk.St} {ru : Nat → Bk.Un} {rv : Int} {lm km H : Value} (h : BdAt w q s ru rv lm km H) : w.rangeAt q 4 (Bk.viewC s).toList := by
 intro j v hv
 rw [cell_of_row w q _ _ _ _ h.row]
 have hj : j < 22 := by have := (List.getElem?_eq_some_iff.1 hv).1; exact this
 rcases j with _ | _ | _ | _ | _ | _ | _ | _ | _ | _ | _ | _ | _ | _ | _ | _ | _ | _ | _ | _ | _ | _ | j
 all_goals first | (simp only [Bk.viewC] at hv; exact hv) | omega
theorem jas : Tryz.prog.underlying 48 = some (.struct (Tryz.prog.fieldsOf 48)) := by kernel_rfl
theorem ja7 (s : Bk.St) : (Tryz.prog.info? 48).map (·.size) = some (Bk.viewC s).toList.length := by kernel_rfl
theorem jfe (s : Bk.St) : (Tryz.prog.info? 48).map (·.size) = some (Bk.viewC s).size := by kernel_rfl
theorem jn3 (s : Bk.St) : (Bk.viewC s).all (·.oneCell') = true := by simp [Bk.viewC]; simp [Value.oneCell']
structure VwCs (w : World) (g : Nat) (s : Bk.St) : Prop where
 d4 : w.cell? ⟨g, 4, none⟩ = some (.int .i64 s.from_)
 d5 : w.cell? ⟨g, 5, none⟩ = some (.int .i64 s.ph)
 d9 : w.cell? ⟨g, 9, none⟩ = some (.int .i64 s.seq)
 d10 : w.cell? ⟨g, 10, none⟩ = some (.int .i64 s.sp.v)
theorem vwcs {w : World} {g : Nat} {s : Bk.St} (h : w.heap[g]? = some (.cells (Bk.viewC s) 48 (0, 0))) : VwCs w g s := by
 constructor
 all_goals (rw [cell_of_row w g _ _ _ _ h]; rfl)
theorem jbt {w : World} {ops : Array Oper} {rest : List Oper} {op : Oper} {a : Act} {Q : Exit → Act → World → Prop} {g : Nat} {s : Bk.St} {cs : Array Value} (hgd : op.guard = none) (x y : Operand) (ho : op.op = .store 48 x y) (hx : a.eval x = .pointer (some ⟨g, 0, none⟩)) (hy : a.eval y = .agg (Bk.viewC s)) (hg : w.heap[g]? = some (.cells cs 48 (0, 0))) (hc : cs.size = (Bk.viewC s).size)
  (h : wpList Tryz.prog ops Q rest (a.put op.dst undef) (w.setRow g (Bk.viewC s))) : wpList Tryz.prog ops Q (op :: rest) a w :=
 wpList_plain hgd fun _ hK => wp_store_row 48 x y ho g (Bk.viewC s) hx hy 48 _ hg (jfe s) hc (jn3 s) (hK _ _ h)
theorem jl2 (q : Nat) (s : Bk.St) (ru : Nat → Bk.Un) (rv : Int) (lo ko : Option Nat) (H : Value) (K : Kv.St) (w : World) (h : BdIs w q s ru rv lo ko H K) (ht : BT w) (r : Rc.R) (hin : Rc.In r) : Calls Tryz.prog 69 #[.pointer (some ⟨q, 0, none⟩), .agg (Rc.cells r)] w (BRet (.int .i64 (Bk.chk5 s r)) w) := by
 obtain ⟨ans, hans⟩ : ∃ ans, ans = Bk.chk5 s r := ⟨_, rfl⟩
 rw [← hans]
 have AN := zh hans
 clear hans
 have HT := zh ht
 obtain ⟨W, hW⟩ : ∃ W, W = w.alloc (.cells (Rc.cells r) 53) := ⟨_, rfl⟩
 obtain ⟨g, hg⟩ : ∃ g, g = w.heap.size := ⟨_, rfl⟩
 have R0 := zh (RdC.open_ h r)
 rw [← hW, ← hg] at R0
 have GE : Hid (w.heap.size ≤ g) := Nat.le_of_eq hg.symm
 have hw1 : wrap64 (s.seq + 1) = s.seq + 1 := IntWalk.wrap64_in _ ⟨by have := h.lok.ok.seq; omega, by have := h.lok.ok.seq; omega⟩
 clear h ht
 go_enter Tryz.func69, Tryz.ntmps69
 go_upto_region 1 with fail
 rw [← hW, ← hg]
 clear hW hg
 have lq := R0.out.bd.lt.1
 go_upto_region 2 with (first
   | ((with_reducible show zL 9); refine wpList_load_mid rfl 48 (.tmp 8) rfl q 4 rfl (Bk.viewC s).toList _ (jc1 R0.out.bd.at_) jas rfl (ja7 s) ?_)
   | ((with_reducible show zW); refine jbt (s := s) rfl (.tmp 5) (.tmp 9) rfl rfl rfl (heap_alloc_new W _) rfl ?_))
 rw [World.setRow_alloc_new]
 have hb2 : Below W.heap.size W (W.alloc (.cells (Bk.viewC s) 48)) := (Below.refl _ _).alloc (Nat.le_refl _) _
 have B2 := zh (R0.out.b.trans (hb2.mono R0.out.b.size))
 have RC2 := R0.out.rc.on hb2
 obtain ⟨d4, d5, d9, d10⟩ := vwcs (heap_alloc_new W (.cells (Bk.viewC s) 48))
 have c3 := RC2.cs.c3
 have c4 := RC2.cs.c4
 clear RC2 hb2 lq
 generalize W.heap.size = g2 at *
 generalize W.alloc (.cells (Bk.viewC s) 48) = W2 at *
 by_cases hph : s.ph = 1
 ·have o1 : (s.ph != 1) = false := by simpa using hph
  by_cases hq : r.seq = s.seq + 1
  ·have q1 : (r.seq != s.seq + 1) = false := by simpa using hq
   by_cases hn0 : r.n = 0
   ·have E : ans = 0 := by rw [AN.out]; unfold Bk.chk5; rw [if_neg (by omega), if_neg (by omega), if_neg (by omega)]
    subst E
    have p1 : (r.n != 0) = false := by simpa using hn0
    clear hq hn0 hph
    go_wp2_with fail
    go_ret
    exact ⟨rfl, B2.out⟩
   ·have p1 : (r.n != 0) = true := by simpa using hn0
    by_cases hnv : r.n = s.sp.v
    ·have E : ans = 0 := by rw [AN.out]; unfold Bk.chk5; rw [if_neg (by omega), if_neg (by omega), if_neg (by omega)]
     subst E
     have p2 : (r.n != s.sp.v) = false := by simpa using hnv
     clear hq hn0 hnv hph
     go_wp2_with fail
     go_ret
     exact ⟨rfl, B2.out⟩
    ·have p2 : (r.n != s.sp.v) = true := by simpa using hnv
     by_cases hnf : r.n = s.from_
     ·have E : ans = 0 := by rw [AN.out]; unfold Bk.chk5; rw [if_neg (by omega), if_neg (by omega), if_neg (by omega)]
      subst E
      have p3 : (r.n != s.from_) = false := by simpa using hnf
      clear hq hn0 hnv hnf hph
      go_wp2_with fail
      go_ret
      exact ⟨rfl, B2.out⟩
     ·have E : ans = 5 := by rw [AN.out]; unfold Bk.chk5; rw [if_neg (by omega), if_neg (by omega), if_pos ⟨hn0, hnv, hnf⟩]
      subst E
      have p3 : (r.n != s.from_) = true := by simpa using hnf
      clear hq hn0 hnv hnf hph
      go_wp2_with fail
      go_ret
      exact ⟨rfl, B2.out⟩
  ·have E : ans = 7 := by rw [AN.out]; unfold Bk.chk5; rw [if_neg (by omega), if_pos hq]
   subst E
   have q1 : (r.seq != s.seq + 1) = true := by simpa using hq
   clear hq hph
   go_wp2_with fail
   go_ret
   exact ⟨rfl, B2.out⟩
 ·have o1 : (s.ph != 1) = true := by simpa using hph
  by_cases hph4 : s.ph = 4
  ·have o4 : (s.ph != 4) = false := by simpa using hph4
   by_cases hq : r.seq = s.seq + 1
   ·have q1 : (r.seq != s.seq + 1) = false := by simpa using hq
    by_cases hn0 : r.n = 0
    ·have E : ans = 0 := by rw [AN.out]; unfold Bk.chk5; rw [if_neg (by omega), if_neg (by omega), if_neg (by omega)]
     subst E
     have p1 : (r.n != 0) = false := by simpa using hn0
     clear hq hn0 hph hph4
     go_wp2_with fail
     go_ret
     exact ⟨rfl, B2.out⟩
    ·have p1 : (r.n != 0) = true := by simpa using hn0
     by_cases hnv : r.n = s.sp.v
     ·have E : ans = 0 := by rw [AN.out]; unfold Bk.chk5; rw [if_neg (by omega), if_neg (by omega), if_neg (by omega)]
      subst E
      have p2 : (r.n != s.sp.v) = false := by simpa using hnv
      clear hq hn0 hnv hph hph4
      go_wp2_with fail
      go_ret
      exact ⟨rfl, B2.out⟩
     ·have p2 : (r.n != s.sp.v) = true := by simpa using hnv
      by_cases hnf : r.n = s.from_
      ·have E : ans = 0 := by rw [AN.out]; unfold Bk.chk5; rw [if_neg (by omega), if_neg (by omega), if_neg (by omega)]
       subst E
       have p3 : (r.n != s.from_) = false := by simpa using hnf
       clear hq hn0 hnv hnf hph hph4
       go_wp2_with fail
       go_ret
       exact ⟨rfl, B2.out⟩
      ·have E : ans = 5 := by rw [AN.out]; unfold Bk.chk5; rw [if_neg (by omega), if_neg (by omega), if_pos ⟨hn0, hnv, hnf⟩]
       subst E
       have p3 : (r.n != s.from_) = true := by simpa using hnf
       clear hq hn0 hnv hnf hph hph4
       go_wp2_with fail
       go_ret
       exact ⟨rfl, B2.out⟩
   ·have E : ans = 7 := by rw [AN.out]; unfold Bk.chk5; rw [if_neg (by omega), if_pos hq]
    subst E
    have q1 : (r.seq != s.seq + 1) = true := by simpa using hq
    clear hq hph hph4
    go_wp2_with fail
    go_ret
    exact ⟨rfl, B2.out⟩
  ·have o4 : (s.ph != 4) = true := by simpa using hph4
   have E : ans = 10 := by rw [AN.out]; unfold Bk.chk5; rw [if_pos ⟨hph, hph4⟩]
   subst E
   clear hph hph4
   go_wp2_with fail
   go_ret
   exact ⟨rfl, B2.out⟩
theorem jl3 (q : Nat) (s : Bk.St) (ru : Nat → Bk.Un) (rv : Int) (lo ko : Option Nat) (H : Value) (K : Kv.St) (w : World) (h : BdIs w q s ru rv lo ko H K) (ht : BT w) (r : Rc.R) (hin : Rc.In r) (hr : Rc.right r = true) (hk : r.kind = 6) : Calls Tryz.prog 71 #[.pointer (some ⟨q, 0, none⟩), .agg (Rc.cells r)] w (BRet (.int .i64 (Bk.chk6 s r)) w) := by
 obtain ⟨ans, hans⟩ : ∃ ans, ans = Bk.chk6 s r := ⟨_, rfl⟩
 rw [← hans]
 have AN := zh hans
 clear hans
 have HT := zh ht
 obtain ⟨W, hW⟩ : ∃ W, W = w.alloc (.cells (Rc.cells r) 53) := ⟨_, rfl⟩
 obtain ⟨g, hg⟩ : ∃ g, g = w.heap.size := ⟨_, rfl⟩
 have R0 := zh (RdC.open_ h r)
 rw [← hW, ← hg] at R0
 have GE : Hid (w.heap.size ≤ g) := Nat.le_of_eq hg.symm
 obtain ⟨hwho, hsq⟩ := Rc.right6 hk hr
 obtain ⟨k, hkk⟩ := Int.eq_ofNat_of_zero_le hwho.1
 have k16 : k < 16 := by omega
 have i16 : (k : Int) < 16 := by omega
 obtain ⟨hu1, hu2⟩ := h.raw k k16
 have HA : Hid (ans = if (ru k).q ≠ r.seq then 7 else if (ru k).d = true then 10 else 0) := by
  show _ = _
  rw [AN.out]
  unfold Bk.chk6
  rw [hkk, Int.toNat_natCast, hu1]
  by_cases hq : (ru k).q = r.seq
  ·have hd : (Bd.told (ru k)).d = (ru k).d := by
    show ((ru k).d || decide ((ru k).q = 0)) = _
    rw [decide_eq_false (show ¬ (ru k).q = 0 by omega), Bool.or_false]
   rw [hd]
   rfl
  ·rw [if_pos (show (Bd.told (ru k)).q ≠ r.seq from hq), if_pos hq]
 clear AN hu1 hu2 hwho hsq hr
 clear h ht
 go_enter Tryz.func71, Tryz.ntmps71
 go_upto_region 1 with fail
 rw [← hW, ← hg]
 clear hW hg
 have c2 := R0.out.rc.cs.c2
 rw [hkk] at c2
 obtain ⟨u0, u1, u2⟩ := R0.out.bd.at_.unit k16
 have lq := R0.out.bd.lt.1
 have lg := R0.out.rc.cs.lt
 go_upto_region 1 with fail
 go_region
 have hb2 : Below W.heap.size W (W.alloc (.cells #[.int .i64 (ru k).v, .int .i64 (ru k).q, .bool (ru k).d] 37)).drew := ((Below.refl _ _).alloc (Nat.le_refl _) _).drew
 have B2 := zh (R0.out.b.trans (hb2.mono R0.out.b.size))
 have RC2 := R0.out.rc.on hb2
 have c4 := RC2.cs.c4
 have hn : (W.alloc (.cells #[.int .i64 (ru k).v, .int .i64 (ru k).q, .bool (ru k).d] 37)).drew.heap[W.heap.size]? = some (.cells #[.int .i64 (ru k).v, .int .i64 (ru k).q, .bool (ru k).d] 37 (0, 0)) := heap_alloc_new W _
 have e1 : (W.alloc (.cells #[.int .i64 (ru k).v, .int .i64 (ru k).q, .bool (ru k).d] 37)).drew.cell? ⟨W.heap.size, 1, none⟩ = some (.int .i64 (ru k).q) := by rw [cell_of_row _ W.heap.size 1 _ _ _ hn]; rfl
 have e2 : (W.alloc (.cells #[.int .i64 (ru k).v, .int .i64 (ru k).q, .bool (ru k).d] 37)).drew.cell? ⟨W.heap.size, 2, none⟩ = some (.bool (ru k).d) := by rw [cell_of_row _ W.heap.size 2 _ _ _ hn]; rfl
 clear RC2 hb2 hn u0 u1 u2 lq lg c2
 generalize (W.alloc (.cells #[.int .i64 (ru k).v, .int .i64 (ru k).q, .bool (ru k).d] 37)).drew = W2 at *
 generalize W.heap.size = g2 at *
 generalize (ru k).q = uq at *
 generalize (ru k).d = ud at *
 by_cases hq : uq = r.seq
 ·have q1 : (r.seq != uq) = false := by simpa using hq.symm
  cases ud with
  | true =>
   have E : ans = 10 := by rw [HA.out, if_neg (by simpa using hq), if_pos rfl]
   subst E
   clear hq
   go_wp2_with fail
   go_ret
   exact ⟨rfl, B2.out⟩
  | false =>
   have E : ans = 0 := by rw [HA.out, if_neg (by simpa using hq), if_neg (by simp)]
   subst E
   clear hq
   go_wp2_with fail
   go_ret
   exact ⟨rfl, B2.out⟩
 ·have q1 : (r.seq != uq) = true := by simpa using fun e : r.seq = uq => hq e.symm
  have E : ans = 7 := by rw [HA.out, if_pos hq]
  subst E
  clear hq
  go_wp2_with fail
  go_ret
  exact ⟨rfl, B2.out⟩
theorem jl4 (q : Nat) (s : Bk.St) (ru : Nat → Bk.Un) (rv : Int) (lo ko : Option Nat) (H : Value) (K : Kv.St) (w : World) (h : BdIs w q s ru rv lo ko H K) (ht : BT w) (r : Rc.R) (hin : Rc.In r) (hr : Rc.right r = true) : Calls Tryz.prog 61 #[.pointer (some ⟨q, 0, none⟩), .agg (Rc.cells r)] w (BRet (.int .i64 (Bk.leadE s r)) w) := by
 obtain ⟨ans, hans⟩ : ∃ ans, ans = Bk.leadE s r := ⟨_, rfl⟩
 rw [← hans]
 have AN := zh hans
 clear hans
 have HT := zh ht
 obtain ⟨W, hW⟩ : ∃ W, W = w.alloc (.cells (Rc.cells r) 53) := ⟨_, rfl⟩
 obtain ⟨g, hg⟩ : ∃ g, g = w.heap.size := ⟨_, rfl⟩
 have R0 := zh (RdC.open_ h r)
 rw [← hW, ← hg] at R0
 have GE : Hid (w.heap.size ≤ g) := Nat.le_of_eq hg.symm
 have hr1 := (Rc.ok_of hr).epoch
 have CL : Hid (s.ep ≠ 0 → ∀ W, RdC w q s ru rv lo ko H K g r W → Calls Tryz.prog 100 #[.pointer (some ⟨q, 0, none⟩), .string ⟨#[108, 101, 97, 100, 101, 114]⟩, .int .i64 r.who, .int .i64 s.ep, .int .i64 r.n] W (fun e w' => e = .returned (.bool (decide (s.who = r.who) && decide (r.n < s.till))) ∧ Below W.heap.size W w')) := fun h0 W h => jgr W q _ _ lo (Bd.tab s) h.bd.lsIs Bd.leader (by decide) r.who s.ep r.n (by rw [Bd.tab_holds s r.who s.ep r.n h0, Bool.and_eq_true, decide_eq_true_eq, decide_eq_true_eq]; simp)
 have CF : Hid (∀ W, RdC w q s ru rv lo ko H K g r W → Calls Tryz.prog 50 #[.pointer (some ⟨q, 0, none⟩), .string ⟨#[108, 101, 97, 100, 101, 114]⟩, .int .i64 r.n] W (fun e w' => e = .returned (.bool (Bk.free s r.n)) ∧ Below W.heap.size W w')) := fun W h => jh2 W q _ _ lo (Bd.tab s) h.bd.lsIs Bd.leader (by decide) r.n (Bd.tab_free s r.n)
 have hw1 : wrap64 (s.ep + 1) = s.ep + 1 := IntWalk.wrap64_in _ ⟨by have := h.lok.ok.ep; omega, by have := h.lok.ok.ep; omega⟩
 have HA : Hid (ans = if r.epoch ≠ s.ep ∧ r.epoch ≠ s.ep + 1 then 8 else if Bk.leadOk s r = true then 0 else 9) := AN.out
 clear AN
 clear h ht
 go_enter Tryz.func61, Tryz.ntmps61
 go_upto_region 1 with fail
 rw [← hW, ← hg]
 clear hW hg
 have c1 := R0.out.rc.cs.c1
 have b4 := R0.out.bd.at_.cs.c4
 have lq := R0.out.bd.lt.1
 have lg := R0.out.rc.cs.lt
 by_cases he : r.epoch = s.ep
 ·have q1 : (r.epoch == s.ep) = true := by simpa using he
  have CL2 := zh (CL.out (by omega))
  clear CL CF
  have HE := zh he
  have HB : Hid (ans = if (decide (s.who = r.who) && decide (r.n < s.till)) = true then 0 else 9) := by show _ = _; rw [HA.out, if_neg (by omega)]; unfold Bk.leadOk; rw [if_pos he]
  clear HA
  generalize (decide (s.who = r.who) && decide (r.n < s.till)) = b at *
  go_upto_region 5 with fail
  clear c1 b4 lq lg
  refine wp_region_held_drew (S := RdC w q s ru rv lo ko H K g r) (by kernel_rfl) (R0.out.on (Below.refl W.heap.size W).drew) (fun hS => ?_)
  refine tY 0 hS ?_
  refine tY 1 hS ?_
  refine tY 2 hS ?_
  refine tY 3 hS ?_
  refine tZ 4 rfl (by intro W hW; have c2 := hW.rc.cs.c2; have lg := hW.rc.cs.lt; go_simp; (try with_reducible rfl)) hS ?_
  refine tY 5 hS ?_
  simp only [Act.put, zT, zO, zS]
  refine tZ 6 rfl (by intro W hW; have c1 := hW.rc.cs.c1; rw [HE.out] at c1; have lg := hW.rc.cs.lt; go_simp; (try with_reducible rfl)) hS ?_
  refine tY 7 hS ?_
  refine tZ 8 rfl (by intro W hW; have c3 := hW.rc.cs.c3; have lg := hW.rc.cs.lt; go_simp; (try with_reducible rfl)) hS ?_
  simp only [Act.put, zT, zO, zS]
  refine rO 9 (fun K hK => ?_)
  go_simp
  with_reducible refine (CL2.out _ hS).mono ?_
  rintro e w7 ⟨rfl, hb⟩
  replace hS := hS.on hb
  clear hb
  refine hK.out _ _ hS (fun _ => ?_)
  clear hK K
  refine tY 10 hS ?_
  simp only [Act.put, zT, zO, zS]
  refine wpAnyH_done (by kernel_rfl) ?_ _
  have R1 := zh hS
  clear hS
  cases b with
  | true =>
   obtain rfl := HB.out.trans (if_pos rfl)
   clear HB
   go_wp2_with fail
   go_ret
   exact ⟨rfl, R1.out.b⟩
  | false =>
   obtain rfl := HB.out.trans (if_neg (by simp))
   clear HB
   go_wp2_with fail
   go_ret
   exact ⟨rfl, R1.out.b⟩
 ·have q1 : (r.epoch == s.ep) = false := by simpa using he
  by_cases he2 : r.epoch = s.ep + 1
  ·have q2 : (r.epoch == s.ep + 1) = true := by simpa using he2
   have HB : Hid (ans = if Bk.free s r.n = true then 0 else 9) := by show _ = _; rw [HA.out, if_neg (by omega)]; unfold Bk.leadOk; rw [if_neg he]; rfl
   clear HA CL
   generalize Bk.free s r.n = b at *
   go_upto_region 7 with fail
   clear c1 b4 lq lg
   refine wp_region_held_drew (S := RdC w q s ru rv lo ko H K g r) (by kernel_rfl) (R0.out.on (Below.refl W.heap.size W).drew) (fun hS => ?_)
   refine tY 0 hS ?_
   refine tY 1 hS ?_
   refine tY 2 hS ?_
   refine tY 3 hS ?_
   refine tZ 4 rfl (by intro W hW; have c3 := hW.rc.cs.c3; have lg := hW.rc.cs.lt; go_simp; (try with_reducible rfl)) hS ?_
   simp only [Act.put, zT, zO, zS]
   refine rO 5 (fun K hK => ?_)
   go_simp
   with_reducible refine (CF.out _ hS).mono ?_
   rintro e w7 ⟨rfl, hb⟩
   replace hS := hS.on hb
   clear hb
   refine hK.out _ _ hS (fun _ => ?_)
   clear hK K
   refine tY 6 hS ?_
   simp only [Act.put, zT, zO, zS]
   refine wpAnyH_done (by kernel_rfl) ?_ _
   have R1 := zh hS
   clear hS
   cases b with
   | true =>
    obtain rfl := HB.out.trans (if_pos rfl)
    clear HB
    go_wp2_with fail
    go_ret
    exact ⟨rfl, R1.out.b⟩
   | false =>
    obtain rfl := HB.out.trans (if_neg (by simp))
    clear HB
    go_wp2_with fail
    go_ret
    exact ⟨rfl, R1.out.b⟩
  ·have q2 : (r.epoch == s.ep + 1) = false := by simpa using he2
   obtain rfl := HA.out.trans (if_pos ⟨he, he2⟩)
   clear HA CL CF he he2
   go_wp2_with fail
   go_ret
   exact ⟨rfl, R0.out.b⟩
end Go.Proofs.YtnacjhnfkkddcaaGreatDoor
