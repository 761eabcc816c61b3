import Derived.Test.YtnacjhnfkkddcaaGreatDoorQp21
import Derived.Test.YtnacjhnfkkddcaaGreatDoorQp25
import Derived.Test.YtnacjhnfkkddcaaGreatDoorQp27
import Derived.Test.YtnacjhnfkkddcaaGreatDoorQp24
import Derived.Test.YtnacjhnfkkddcaaGreatDoorQp26
set_option maxHeartbeats 6400000
set_option maxRecDepth 100000
set_option linter.unusedSimpArgs false
set_option linter.unusedVariables false
namespace Go.Proofs.YtnacjhnfkkddcaaGreatDoor
open Go.RowKit Go.Deep Go.Maps
theorem jjr (w : World) : (zeroValue 89).run Tryz.prog w = .ok (.agg #[.nilFunc, .nilFunc]) w := by kernel_rfl
abbrev BM := MapV.ofInt Tryz.underlying3 Tryz.underlying90 _ jjr
structure BSt (W w : World) (m : Nat) (f : Int → Option Value) (n : Nat) : Prop where
 below : Below W.heap.size W w
 base : W.heap.size ≤ m
 map : ∃ j, j ≤ n ∧ BM.At w m f j
theorem BSt.ins {W w : World} {m n : Nat} {f : Int → Option Value} (h : BSt W w m f n) {ops : Array Oper} {rest : List Oper} {o : Oper} {a : Act} {Q : Exit → Act → World → Prop} (hg : o.guard = none) (y x v : Operand) (hop : o.op = Op.insert 90 y x v) (hm : a.eval y = .map (some m)) (k : Int) (u : Value) (hx : a.eval x = .int .i64 k) (hv : a.eval v = u) (hn : n < 100) (hk : (Lit.int .i64 k).wf = true)
  (hK : ∀ w', BSt W w' m (MapV.set f k (some u)) (n + 1) → wpList Tryz.prog ops Q rest (a.put o.dst undef) w') : wpList Tryz.prog ops Q (o :: rest) a w := by
 obtain ⟨j, hj, hmap⟩ := h.map
 refine hmap.insert hg y x v hop hm k u hx hv (by unfold maxLen; omega) hk fun w' h1 ht => hK w' ⟨?_, h.base, ⟨_, by split <;> omega, h1⟩⟩
 exact ⟨ht.grown.os.trans h.below.os, ht.grown.tape.trans h.below.tape, ht.grown.output.trans h.below.output, Nat.le_trans h.below.size ht.grown.size, fun i hi => (ht.grown.block i (Nat.lt_of_lt_of_le hi h.below.size) (fun e => by injection e with e; have := h.base; omega)).trans (h.below.block i hi)⟩
structure jb1 (w : World) (m : Nat) : Prop where
 map : ∃ f n, BM.At w m f n ∧ f 1 = some (.agg #[.func (.func 61) #[] #[], .func (.func 62) #[] #[]]) ∧ f 2 = some (.agg #[.func (.func 63) #[] #[], .func (.func 64) #[] #[]]) ∧ f 3 = some (.agg #[.func (.func 65) #[] #[], .func (.func 66) #[] #[]]) ∧ f 4 = some (.agg #[.func (.func 67) #[] #[], .func (.func 68) #[] #[]]) ∧ f 5 = some (.agg #[.func (.func 69) #[] #[], .func (.func 70) #[] #[]]) ∧ f 6 = some (.agg #[.func (.func 71) #[] #[], .func (.func 72) #[] #[]]) ∧ f 7 = some (.agg #[.func (.func 73) #[] #[], .func (.func 74) #[] #[]])
theorem jb1.look1 {w : World} {m : Nat} (h : jb1 w m) : (Instr.lookup 90 (.map (some m)) (.int .i64 1) false).run Tryz.prog w = .ok (.agg #[.func (.func 61) #[] #[], .func (.func 62) #[] #[]]) w := by
 obtain ⟨f, n, h1, h2⟩ := h.map
 have := h1.look 1 (show (Lit.int .i64 1).wf = true by decide)
 rw [h2.1] at this
 exact this
theorem jb1.look2 {w : World} {m : Nat} (h : jb1 w m) : (Instr.lookup 90 (.map (some m)) (.int .i64 2) false).run Tryz.prog w = .ok (.agg #[.func (.func 63) #[] #[], .func (.func 64) #[] #[]]) w := by
 obtain ⟨f, n, h1, h2⟩ := h.map
 have := h1.look 2 (show (Lit.int .i64 2).wf = true by decide)
 rw [h2.2.1] at this
 exact this
theorem jb1.look3 {w : World} {m : Nat} (h : jb1 w m) : (Instr.lookup 90 (.map (some m)) (.int .i64 3) false).run Tryz.prog w = .ok (.agg #[.func (.func 65) #[] #[], .func (.func 66) #[] #[]]) w := by
 obtain ⟨f, n, h1, h2⟩ := h.map
 have := h1.look 3 (show (Lit.int .i64 3).wf = true by decide)
 rw [h2.2.2.1] at this
 exact this
theorem jb1.look4 {w : World} {m : Nat} (h : jb1 w m) : (Instr.lookup 90 (.map (some m)) (.int .i64 4) false).run Tryz.prog w = .ok (.agg #[.func (.func 67) #[] #[], .func (.func 68) #[] #[]]) w := by
 obtain ⟨f, n, h1, h2⟩ := h.map
 have := h1.look 4 (show (Lit.int .i64 4).wf = true by decide)
 rw [h2.2.2.2.1] at this
 exact this
theorem jb1.look5 {w : World} {m : Nat} (h : jb1 w m) : (Instr.lookup 90 (.map (some m)) (.int .i64 5) false).run Tryz.prog w = .ok (.agg #[.func (.func 69) #[] #[], .func (.func 70) #[] #[]]) w := by
 obtain ⟨f, n, h1, h2⟩ := h.map
 have := h1.look 5 (show (Lit.int .i64 5).wf = true by decide)
 rw [h2.2.2.2.2.1] at this
 exact this
theorem jb1.look6 {w : World} {m : Nat} (h : jb1 w m) : (Instr.lookup 90 (.map (some m)) (.int .i64 6) false).run Tryz.prog w = .ok (.agg #[.func (.func 71) #[] #[], .func (.func 72) #[] #[]]) w := by
 obtain ⟨f, n, h1, h2⟩ := h.map
 have := h1.look 6 (show (Lit.int .i64 6).wf = true by decide)
 rw [h2.2.2.2.2.2.1] at this
 exact this
theorem jb1.look7 {w : World} {m : Nat} (h : jb1 w m) : (Instr.lookup 90 (.map (some m)) (.int .i64 7) false).run Tryz.prog w = .ok (.agg #[.func (.func 73) #[] #[], .func (.func 74) #[] #[]]) w := by
 obtain ⟨f, n, h1, h2⟩ := h.map
 have := h1.look 7 (show (Lit.int .i64 7).wf = true by decide)
 rw [h2.2.2.2.2.2.2] at this
 exact this
theorem jc7 (a b : Value) (w : World) : (Instr.field 89 (.agg #[a, b]) 0).run Tryz.prog w = .ok a w := by
 simp [Instr.field, run_underlying Tryz.underlying89, asAgg, part, isAgg, run_underlying Tryz.underlying86, go_sem]
theorem jc8 (a b : Value) (w : World) : (Instr.field 89 (.agg #[a, b]) 1).run Tryz.prog w = .ok b w := by
 simp [Instr.field, run_underlying Tryz.underlying89, asAgg, part, isAgg, run_underlying Tryz.underlying87, go_sem]
theorem jav (w : World) : Calls Tryz.prog 38 #[] w fun e w' => ∃ m, e = .returned (.map (some m)) ∧ jb1 w' m ∧ Below w.heap.size w w' := by
 have R := zh (BSt.mk (W := w) ((Below.refl w.heap.size w).alloc (Nat.le_refl _) (.map #[] 0)) (Nat.le_refl _) ⟨0, Nat.le_refl _, MapV.At.made (M := BM) w⟩)
 have hmm := @run_makeMap Tryz.prog
 go_enter Tryz.func38, Tryz.ntmps38
 go_wp2_with ((with_reducible show wpList _ _ _ ({ dst := none, op := .insert _ _ _ _, type := _, pos := _, after := _, guard := _ } :: _) _ _); refine R.out.ins rfl _ _ _ rfl rfl _ _ rfl rfl (by decide) (by decide) ?_; intro w2 hr2; have R := zh hr2; clear hr2)
 go_ret
 refine ⟨_, rfl, ?_, R.out.below⟩
 obtain ⟨j, hj, hm⟩ := R.out.map
 refine ⟨⟨_, j, hm, ?_, ?_, ?_, ?_, ?_, ?_, ?_⟩⟩
 all_goals (repeat (first | exact MapV.set_same _ _ _ | rw [MapV.set_other _ _ (by decide)]))
theorem jjs (q : Nat) (s : Bk.St) (ru : Nat → Bk.Un) (rv : Int) (lo ko : Option Nat) (H : Value) (K : Kv.St) (w : World) (h : BdIs w q s ru rv lo ko H K) (ht : BT w) (r : Rc.R) (hin : Rc.In r) : Calls Tryz.prog 27 #[.pointer (some ⟨q, 0, none⟩), .agg (Rc.cells r)] w (BRet (.int .i64 (Bk.chk s r)) w) := by
 obtain ⟨ans, hans⟩ : ∃ ans, ans = Bk.chk s r := ⟨_, rfl⟩
 rw [← hans]
 have AN := zh hans
 clear hans
 have HI := zh hin
 clear hin
 have HT := zh ht
 obtain ⟨W, hW⟩ : ∃ W, W = w.alloc (.cells (Rc.cells r) 53) := ⟨_, rfl⟩
 obtain ⟨g, hg⟩ : ∃ g, g = w.heap.size := ⟨_, rfl⟩
 have R0 := zh (RdC.open_ h r)
 rw [← hW, ← hg] at R0
 have GE : Hid (w.heap.size ≤ g) := Nat.le_of_eq hg.symm
 clear h ht
 go_enter Tryz.func27, Tryz.ntmps27
 go_upto_region 1 with fail
 rw [← hW, ← hg]
 clear hW hg
 have CR := zh (fun W => jjo r HI.out W)
 cases hr : Rc.right r with
 | false =>
  rw [hr] at CR
  have E : ans = 1 := AN.out.trans (Bk.chk_wrong hr)
  subst E
  clear hr
  go_wp2_with (first
   | ((with_reducible show zL 9); refine jcg (by rfl) 53 (.tmp 3) rfl g rfl 53 _ (0, 0) _ R0.out.rc.row jai rfl (jam r) ?_)
   | (go_at_call 48; (with_reducible refine (CR.out _).mono ?_); rintro e w1 ⟨rfl, hb⟩; have R1 := zh (R0.out.on hb); clear hb))
  go_ret
  exact ⟨rfl, R1.out.b⟩
 | true =>
  rw [hr] at CR
  have HR := zh hr
  clear hr
  have hkd := (Rc.ok_of HR.out).kind
  go_upto_region 3 with (first
   | ((with_reducible show zL 9); refine jcg (by rfl) 53 (.tmp 3) rfl g rfl 53 _ (0, 0) _ R0.out.rc.row jai rfl (jam r) ?_)
   | (go_at_call 48; (with_reducible refine (CR.out _).mono ?_); rintro e w1 ⟨rfl, hb⟩; have R1 := zh (R0.out.on hb); clear hb))
  have c0 := R1.out.rc.cs.c0
  have c1 := R1.out.rc.cs.c1
  have b4 := R1.out.bd.at_.cs.c4
  have lq := R1.out.bd.lt.1
  have lg := R1.out.rc.cs.lt
  by_cases hk : r.kind = 1
  ·rw [hk] at c0
   go_region
   go_upto_region 5 with fail
   have R5 := zh (R1.out.on (Below.refl w1.heap.size w1).drew)
   clear c0 c1 b4 lq lg
   generalize w1.drew = w5 at *
   have HK := zh hk
   clear hk
   have AE := zh (AN.out.trans (Bk.chk_lead HR.out HK.out))
   have CF : Hid (∀ W, RdC w q s ru rv lo ko H K g r W → Calls Tryz.prog 61 #[.pointer (some ⟨q, 0, none⟩), .agg (Rc.cells r)] W (BRet (.int .i64 ans) W)) := fun W h => by rw [AE.out]; exact jl4 q s ru rv lo ko H K W h.bd (HT.out.on h.b) r HI.out HR.out
   refine wp_region_held_drew (S := RdC w q s ru rv lo ko H K g r) (by kernel_rfl) (R5.out.on (Below.refl _ _).drew) (fun hS => ?_)
   refine tY 1 hS ?_
   refine tZ 2 rfl (by intro W hW; have c0 := hW.rc.cs.c0; rw [HK.out] at c0; have lg := hW.rc.cs.lt; go_simp; (try with_reducible rfl)) hS ?_
   refine tY 5 hS ?_
   refine tZ 6 (v := .agg (Rc.cells r)) rfl (fun W hW => ja0 (.tmp 3) rfl g r rfl hW.rc) hS ?_
   simp only [Act.put, zT, zO, zS]
   refine rO 0 (fun K hK => ?_)
   go_simp
   with_reducible refine (jav _).mono ?_
   rintro e w7 ⟨m, rfl, hm, hb⟩
   have M7 := zh hm
   clear hm
   replace hS := hS.on hb
   clear hb
   refine hK.out _ _ hS (fun _ => ?_)
   clear hK K
   try simp only [Act.put, zT, zO, zS]
   refine rO 3 (fun K hK => ?_)
   have hlk := M7.out.look1
   go_simp
   refine hK.out _ _ hS (fun _ => ?_)
   clear hK K
   refine tZ 4 rfl (by intro W hW; have hfd := jc7; go_simp; (try with_reducible rfl)) hS ?_
   simp only [Act.put, zT, zO, zS]
   refine rO 7 (fun K hK => ?_)
   go_simp
   with_reducible refine (CF.out _ hS).mono ?_
   rintro e w8 ⟨rfl, hb⟩
   replace hS := hS.on hb
   clear hb
   refine hK.out _ _ hS (fun _ => ?_)
   clear hK K
   refine tY 8 hS ?_
   simp only [Act.put, zT, zO, zS]
   refine wpAnyH_done (by kernel_rfl) ?_ _
   have R9 := zh hS
   clear hS
   go_wp2_with fail
   go_ret
   exact ⟨rfl, R9.out.b⟩
  ·have hk2 : (r.kind != 1) = true := by simpa using hk
   by_cases he : r.epoch = s.ep
   ·have he2 : (r.epoch != s.ep) = false := by simpa using he
    have HE := zh he
    clear he
    go_region
    go_upto_region 5 with fail
    have R5 := zh (R1.out.on (Below.refl w1.heap.size w1).drew)
    clear c0 c1 b4 lq lg hk2 he2
    generalize w1.drew = w5 at *
    have hk7 : r.kind = 2 ∨ r.kind = 3 ∨ r.kind = 4 ∨ r.kind = 5 ∨ r.kind = 6 ∨ r.kind = 7 := by omega
    clear hk hkd
    rcases hk7 with hk | hk | hk | hk | hk | hk
    ·have HK := zh hk
     clear hk
     have AE := zh (AN.out.trans (Bk.chk_two HR.out HK.out HE.out))
     have CF : Hid (∀ W, RdC w q s ru rv lo ko H K g r W → Calls Tryz.prog 63 #[.pointer (some ⟨q, 0, none⟩), .agg (Rc.cells r)] W (BRet (.int .i64 ans) W)) := fun W h => by rw [AE.out]; exact jlr q s ru rv lo ko H K W h.bd (HT.out.on h.b) r HI.out
     refine wp_region_held_drew (S := RdC w q s ru rv lo ko H K g r) (by kernel_rfl) (R5.out.on (Below.refl _ _).drew) (fun hS => ?_)
     refine tY 1 hS ?_
     refine tZ 2 rfl (by intro W hW; have c0 := hW.rc.cs.c0; rw [HK.out] at c0; have lg := hW.rc.cs.lt; go_simp; (try with_reducible rfl)) hS ?_
     refine tY 5 hS ?_
     refine tZ 6 (v := .agg (Rc.cells r)) rfl (fun W hW => ja0 (.tmp 3) rfl g r rfl hW.rc) hS ?_
     simp only [Act.put, zT, zO, zS]
     refine rO 0 (fun K hK => ?_)
     go_simp
     with_reducible refine (jav _).mono ?_
     rintro e w7 ⟨m, rfl, hm, hb⟩
     have M7 := zh hm
     clear hm
     replace hS := hS.on hb
     clear hb
     refine hK.out _ _ hS (fun _ => ?_)
     clear hK K
     try simp only [Act.put, zT, zO, zS]
     refine rO 3 (fun K hK => ?_)
     have hlk := M7.out.look2
     go_simp
     refine hK.out _ _ hS (fun _ => ?_)
     clear hK K
     refine tZ 4 rfl (by intro W hW; have hfd := jc7; go_simp; (try with_reducible rfl)) hS ?_
     simp only [Act.put, zT, zO, zS]
     refine rO 7 (fun K hK => ?_)
     go_simp
     with_reducible refine (CF.out _ hS).mono ?_
     rintro e w8 ⟨rfl, hb⟩
     replace hS := hS.on hb
     clear hb
     refine hK.out _ _ hS (fun _ => ?_)
     clear hK K
     refine tY 8 hS ?_
     simp only [Act.put, zT, zO, zS]
     refine wpAnyH_done (by kernel_rfl) ?_ _
     have R9 := zh hS
     clear hS
     go_wp2_with fail
     go_ret
     exact ⟨rfl, R9.out.b⟩
    ·have HK := zh hk
     clear hk
     have AE := zh (AN.out.trans (Bk.chk_three HR.out HK.out HE.out))
     have CF : Hid (∀ W, RdC w q s ru rv lo ko H K g r W → Calls Tryz.prog 65 #[.pointer (some ⟨q, 0, none⟩), .agg (Rc.cells r)] W (BRet (.int .i64 ans) W)) := fun W h => by rw [AE.out]; exact jls q s ru rv lo ko H K W h.bd (HT.out.on h.b) r HI.out
     refine wp_region_held_drew (S := RdC w q s ru rv lo ko H K g r) (by kernel_rfl) (R5.out.on (Below.refl _ _).drew) (fun hS => ?_)
     refine tY 1 hS ?_
     refine tZ 2 rfl (by intro W hW; have c0 := hW.rc.cs.c0; rw [HK.out] at c0; have lg := hW.rc.cs.lt; go_simp; (try with_reducible rfl)) hS ?_
     refine tY 5 hS ?_
     refine tZ 6 (v := .agg (Rc.cells r)) rfl (fun W hW => ja0 (.tmp 3) rfl g r rfl hW.rc) hS ?_
     simp only [Act.put, zT, zO, zS]
     refine rO 0 (fun K hK => ?_)
     go_simp
     with_reducible refine (jav _).mono ?_
     rintro e w7 ⟨m, rfl, hm, hb⟩
     have M7 := zh hm
     clear hm
     replace hS := hS.on hb
     clear hb
     refine hK.out _ _ hS (fun _ => ?_)
     clear hK K
     try simp only [Act.put, zT, zO, zS]
     refine rO 3 (fun K hK => ?_)
     have hlk := M7.out.look3
     go_simp
     refine hK.out _ _ hS (fun _ => ?_)
     clear hK K
     refine tZ 4 rfl (by intro W hW; have hfd := jc7; go_simp; (try with_reducible rfl)) hS ?_
     simp only [Act.put, zT, zO, zS]
     refine rO 7 (fun K hK => ?_)
     go_simp
     with_reducible refine (CF.out _ hS).mono ?_
     rintro e w8 ⟨rfl, hb⟩
     replace hS := hS.on hb
     clear hb
     refine hK.out _ _ hS (fun _ => ?_)
     clear hK K
     refine tY 8 hS ?_
     simp only [Act.put, zT, zO, zS]
     refine wpAnyH_done (by kernel_rfl) ?_ _
     have R9 := zh hS
     clear hS
     go_wp2_with fail
     go_ret
     exact ⟨rfl, R9.out.b⟩
    ·have HK := zh hk
     clear hk
     have AE := zh (AN.out.trans (Bk.chk_four HR.out HK.out HE.out))
     have CF : Hid (∀ W, RdC w q s ru rv lo ko H K g r W → Calls Tryz.prog 67 #[.pointer (some ⟨q, 0, none⟩), .agg (Rc.cells r)] W (BRet (.int .i64 ans) W)) := fun W h => by rw [AE.out]; exact jlt q s ru rv lo ko H K W h.bd (HT.out.on h.b) r HI.out
     refine wp_region_held_drew (S := RdC w q s ru rv lo ko H K g r) (by kernel_rfl) (R5.out.on (Below.refl _ _).drew) (fun hS => ?_)
     refine tY 1 hS ?_
     refine tZ 2 rfl (by intro W hW; have c0 := hW.rc.cs.c0; rw [HK.out] at c0; have lg := hW.rc.cs.lt; go_simp; (try with_reducible rfl)) hS ?_
     refine tY 5 hS ?_
     refine tZ 6 (v := .agg (Rc.cells r)) rfl (fun W hW => ja0 (.tmp 3) rfl g r rfl hW.rc) hS ?_
     simp only [Act.put, zT, zO, zS]
     refine rO 0 (fun K hK => ?_)
     go_simp
     with_reducible refine (jav _).mono ?_
     rintro e w7 ⟨m, rfl, hm, hb⟩
     have M7 := zh hm
     clear hm
     replace hS := hS.on hb
     clear hb
     refine hK.out _ _ hS (fun _ => ?_)
     clear hK K
     try simp only [Act.put, zT, zO, zS]
     refine rO 3 (fun K hK => ?_)
     have hlk := M7.out.look4
     go_simp
     refine hK.out _ _ hS (fun _ => ?_)
     clear hK K
     refine tZ 4 rfl (by intro W hW; have hfd := jc7; go_simp; (try with_reducible rfl)) hS ?_
     simp only [Act.put, zT, zO, zS]
     refine rO 7 (fun K hK => ?_)
     go_simp
     with_reducible refine (CF.out _ hS).mono ?_
     rintro e w8 ⟨rfl, hb⟩
     replace hS := hS.on hb
     clear hb
     refine hK.out _ _ hS (fun _ => ?_)
     clear hK K
     refine tY 8 hS ?_
     simp only [Act.put, zT, zO, zS]
     refine wpAnyH_done (by kernel_rfl) ?_ _
     have R9 := zh hS
     clear hS
     go_wp2_with fail
     go_ret
     exact ⟨rfl, R9.out.b⟩
    ·have HK := zh hk
     clear hk
     have AE := zh (AN.out.trans (Bk.chk_five HR.out HK.out HE.out))
     have CF : Hid (∀ W, RdC w q s ru rv lo ko H K g r W → Calls Tryz.prog 69 #[.pointer (some ⟨q, 0, none⟩), .agg (Rc.cells r)] W (BRet (.int .i64 ans) W)) := fun W h => by rw [AE.out]; exact jl2 q s ru rv lo ko H K W h.bd (HT.out.on h.b) r HI.out
     refine wp_region_held_drew (S := RdC w q s ru rv lo ko H K g r) (by kernel_rfl) (R5.out.on (Below.refl _ _).drew) (fun hS => ?_)
     refine tY 1 hS ?_
     refine tZ 2 rfl (by intro W hW; have c0 := hW.rc.cs.c0; rw [HK.out] at c0; have lg := hW.rc.cs.lt; go_simp; (try with_reducible rfl)) hS ?_
     refine tY 5 hS ?_
     refine tZ 6 (v := .agg (Rc.cells r)) rfl (fun W hW => ja0 (.tmp 3) rfl g r rfl hW.rc) hS ?_
     simp only [Act.put, zT, zO, zS]
     refine rO 0 (fun K hK => ?_)
     go_simp
     with_reducible refine (jav _).mono ?_
     rintro e w7 ⟨m, rfl, hm, hb⟩
     have M7 := zh hm
     clear hm
     replace hS := hS.on hb
     clear hb
     refine hK.out _ _ hS (fun _ => ?_)
     clear hK K
     try simp only [Act.put, zT, zO, zS]
     refine rO 3 (fun K hK => ?_)
     have hlk := M7.out.look5
     go_simp
     refine hK.out _ _ hS (fun _ => ?_)
     clear hK K
     refine tZ 4 rfl (by intro W hW; have hfd := jc7; go_simp; (try with_reducible rfl)) hS ?_
     simp only [Act.put, zT, zO, zS]
     refine rO 7 (fun K hK => ?_)
     go_simp
     with_reducible refine (CF.out _ hS).mono ?_
     rintro e w8 ⟨rfl, hb⟩
     replace hS := hS.on hb
     clear hb
     refine hK.out _ _ hS (fun _ => ?_)
     clear hK K
     refine tY 8 hS ?_
     simp only [Act.put, zT, zO, zS]
     refine wpAnyH_done (by kernel_rfl) ?_ _
     have R9 := zh hS
     clear hS
     go_wp2_with fail
     go_ret
     exact ⟨rfl, R9.out.b⟩
    ·have HK := zh hk
     clear hk
     have AE := zh (AN.out.trans (Bk.chk_six HR.out HK.out HE.out))
     have CF : Hid (∀ W, RdC w q s ru rv lo ko H K g r W → Calls Tryz.prog 71 #[.pointer (some ⟨q, 0, none⟩), .agg (Rc.cells r)] W (BRet (.int .i64 ans) W)) := fun W h => by rw [AE.out]; exact jl3 q s ru rv lo ko H K W h.bd (HT.out.on h.b) r HI.out HR.out HK.out
     refine wp_region_held_drew (S := RdC w q s ru rv lo ko H K g r) (by kernel_rfl) (R5.out.on (Below.refl _ _).drew) (fun hS => ?_)
     refine tY 1 hS ?_
     refine tZ 2 rfl (by intro W hW; have c0 := hW.rc.cs.c0; rw [HK.out] at c0; have lg := hW.rc.cs.lt; go_simp; (try with_reducible rfl)) hS ?_
     refine tY 5 hS ?_
     refine tZ 6 (v := .agg (Rc.cells r)) rfl (fun W hW => ja0 (.tmp 3) rfl g r rfl hW.rc) hS ?_
     simp only [Act.put, zT, zO, zS]
     refine rO 0 (fun K hK => ?_)
     go_simp
     with_reducible refine (jav _).mono ?_
     rintro e w7 ⟨m, rfl, hm, hb⟩
     have M7 := zh hm
     clear hm
     replace hS := hS.on hb
     clear hb
     refine hK.out _ _ hS (fun _ => ?_)
     clear hK K
     try simp only [Act.put, zT, zO, zS]
     refine rO 3 (fun K hK => ?_)
     have hlk := M7.out.look6
     go_simp
     refine hK.out _ _ hS (fun _ => ?_)
     clear hK K
     refine tZ 4 rfl (by intro W hW; have hfd := jc7; go_simp; (try with_reducible rfl)) hS ?_
     simp only [Act.put, zT, zO, zS]
     refine rO 7 (fun K hK => ?_)
     go_simp
     with_reducible refine (CF.out _ hS).mono ?_
     rintro e w8 ⟨rfl, hb⟩
     replace hS := hS.on hb
     clear hb
     refine hK.out _ _ hS (fun _ => ?_)
     clear hK K
     refine tY 8 hS ?_
     simp only [Act.put, zT, zO, zS]
     refine wpAnyH_done (by kernel_rfl) ?_ _
     have R9 := zh hS
     clear hS
     go_wp2_with fail
     go_ret
     exact ⟨rfl, R9.out.b⟩
    ·have HK := zh hk
     clear hk
     have AE := zh (AN.out.trans (Bk.chk_seven HR.out HK.out HE.out))
     have CF : Hid (∀ W, RdC w q s ru rv lo ko H K g r W → Calls Tryz.prog 73 #[.pointer (some ⟨q, 0, none⟩), .agg (Rc.cells r)] W (BRet (.int .i64 ans) W)) := fun W h => by rw [AE.out]; exact jl9 q s ru rv lo ko H K W h.bd (HT.out.on h.b) r HI.out
     refine wp_region_held_drew (S := RdC w q s ru rv lo ko H K g r) (by kernel_rfl) (R5.out.on (Below.refl _ _).drew) (fun hS => ?_)
     refine tY 1 hS ?_
     refine tZ 2 rfl (by intro W hW; have c0 := hW.rc.cs.c0; rw [HK.out] at c0; have lg := hW.rc.cs.lt; go_simp; (try with_reducible rfl)) hS ?_
     refine tY 5 hS ?_
     refine tZ 6 (v := .agg (Rc.cells r)) rfl (fun W hW => ja0 (.tmp 3) rfl g r rfl hW.rc) hS ?_
     simp only [Act.put, zT, zO, zS]
     refine rO 0 (fun K hK => ?_)
     go_simp
     with_reducible refine (jav _).mono ?_
     rintro e w7 ⟨m, rfl, hm, hb⟩
     have M7 := zh hm
     clear hm
     replace hS := hS.on hb
     clear hb
     refine hK.out _ _ hS (fun _ => ?_)
     clear hK K
     try simp only [Act.put, zT, zO, zS]
     refine rO 3 (fun K hK => ?_)
     have hlk := M7.out.look7
     go_simp
     refine hK.out _ _ hS (fun _ => ?_)
     clear hK K
     refine tZ 4 rfl (by intro W hW; have hfd := jc7; go_simp; (try with_reducible rfl)) hS ?_
     simp only [Act.put, zT, zO, zS]
     refine rO 7 (fun K hK => ?_)
     go_simp
     with_reducible refine (CF.out _ hS).mono ?_
     rintro e w8 ⟨rfl, hb⟩
     replace hS := hS.on hb
     clear hb
     refine hK.out _ _ hS (fun _ => ?_)
     clear hK K
     refine tY 8 hS ?_
     simp only [Act.put, zT, zO, zS]
     refine wpAnyH_done (by kernel_rfl) ?_ _
     have R9 := zh hS
     clear hS
     go_wp2_with fail
     go_ret
     exact ⟨rfl, R9.out.b⟩
   ·have he2 : (r.epoch != s.ep) = true := by simpa using he
    have E : ans = 8 := AN.out.trans (Bk.chk_ep HR.out hk he)
    subst E
    clear hk he
    go_region
    go_wp2_with fail
    go_ret
    exact ⟨rfl, R1.out.b.drew⟩
theorem jjt (q : Nat) (s : Bk.St) (ru : Nat → Bk.Un) (rv : Int) (lo ko : Option Nat) (H : Value) (K : Kv.St) (w : World) (h : BdIs w q s ru rv lo ko H K) (ht : BT w) (r : Rc.R) (hin : Rc.In r) : Calls Tryz.prog 22 #[.pointer (some ⟨q, 0, none⟩), .agg (Rc.cells r)] w (jaw q lo ko H (Bk.app s r) (.int .i64 (Bk.chk s r)) w) := by
 obtain ⟨ans, hans⟩ : ∃ ans, ans = Bk.chk s r := ⟨_, rfl⟩
 rw [← hans]
 have AN := zh hans
 clear hans
 have HI := zh hin
 have H0 := zh h
 clear hin
 obtain ⟨s9, hs9⟩ : ∃ t, t = Bk.app s r := ⟨_, rfl⟩
 rw [← hs9]
 have AS := zh hs9
 clear hs9
 have HT := zh ht
 obtain ⟨W, hW⟩ : ∃ W, W = w.alloc (.cells (Rc.cells r) 53) := ⟨_, rfl⟩
 obtain ⟨g, hg⟩ : ∃ g, g = w.heap.size := ⟨_, rfl⟩
 have R0 := zh (RdC.open_ h r)
 rw [← hW, ← hg] at R0
 have GE : Hid (w.heap.size ≤ g) := Nat.le_of_eq hg.symm
 have CC := zh (jjs q s ru rv lo ko H K W R0.out.bd (ht.on R0.out.b) r HI.out)
 rw [← AN.out] at CC
 clear h ht
 go_enter Tryz.func22, Tryz.ntmps22
 go_upto_region 1 with fail
 rw [← hW, ← hg]
 clear hW hg
 by_cases hc : ans = 0
 ·have HC : Hid (Bk.chk s r = 0) := by show _ = _; rw [← AN.out]; exact hc
  subst hc
  go_upto_region 4 with (first
   | ((with_reducible show zL 7); refine zR (.tmp 3) R0.out.rc ?_)
   | (go_at_call 27; (with_reducible refine CC.out.mono ?_); rintro e w1 ⟨rfl, hb⟩; have R1 := zh (R0.out.on hb); clear hb))
  have hk7 := Bk.kinds HC.out
  rcases hk7 with hk | hk | hk | hk | hk | hk | hk
  ·have HK := zh hk
   clear hk
   refine wp_region_held_drew (S := fun W => RcAt W g r) (by kernel_rfl) (R1.out.rc.on (Below.refl w1.heap.size w1).drew) (fun hS => ?_)
   refine tY 1 hS ?_
   refine tZ 2 rfl (by intro W hW; have c0 := (RcAt.cs hW).c0; rw [HK.out] at c0; have lg := (RcAt.cs hW).lt; go_simp; (try with_reducible rfl)) hS ?_
   refine tY 5 hS ?_
   refine tZ 6 (v := .agg (Rc.cells r)) rfl (fun W hW => ja0 (.tmp 3) rfl g r rfl hW) hS ?_
   simp only [Act.put, zT, zO, zS]
   refine rO 0 (fun K hK => ?_)
   go_simp
   with_reducible refine (jav _).mono ?_
   rintro e w7 ⟨m, rfl, hm, hb⟩
   have M7 := zh hm
   have R7 := zh ((R1.out.on (Below.refl w1.heap.size w1).drew).on hb)
   have hS2 := hS.on hb
   clear hS hb hm
   have hS := hS2
   clear hS2
   refine hK.out _ _ hS (fun _ => ?_)
   clear hK K
   try simp only [Act.put, zT, zO, zS]
   refine rO 3 (fun K hK => ?_)
   have hlk := M7.out.look1
   go_simp
   refine hK.out _ _ hS (fun _ => ?_)
   clear hK K
   refine tZ 4 rfl (by intro W hW; have hfd := jc8; go_simp; (try with_reducible rfl)) hS ?_
   simp only [Act.put, zT, zO, zS]
   refine rO 7 (fun K hK => ?_)
   have CF := zh (jl6 q s ru rv lo ko H _ w7 R7.out.bd (HT.out.on R7.out.b) r HI.out HK.out HC.out)
   go_simp
   with_reducible refine CF.out.mono ?_
   intro e w8 hp
   obtain ⟨ru8, rv8, lo8, ko8, H8, K8, rfl, hp2, hp3, hp4⟩ := hp
   have P8 := zh (show jaw q lo ko H (Bk.act s r) (.tuple #[]) w7 _ w8 from ⟨ru8, rv8, lo8, ko8, H8, K8, rfl, hp2, hp3, hp4⟩)
   have NB : ¬ BdF q lo ko H g := fun h => by have := H0.out.ltF g h; have := GE.out; omega
   have hS2 : RcAt w8 g r := ⟨(hp3.block g hS.cs.lt NB).trans hS.row⟩
   clear hS hp2 hp3 hp4 NB
   have hS := hS2
   clear hS2
   refine hK.out _ _ hS (fun _ => ?_)
   clear hK K
   try simp only [Act.put, zT, zO, zS]
   refine wpAnyH_done (by kernel_rfl) ?_ _
   clear hS
   go_wp2_with fail
   go_ret
   rw [AS.out, Bk.app_ok HC.out]
   exact (P8.out.ahead R7.out.b H0.out.ltF).ret _
  ·have HK := zh hk
   clear hk
   refine wp_region_held_drew (S := fun W => RcAt W g r) (by kernel_rfl) (R1.out.rc.on (Below.refl w1.heap.size w1).drew) (fun hS => ?_)
   refine tY 1 hS ?_
   refine tZ 2 rfl (by intro W hW; have c0 := (RcAt.cs hW).c0; rw [HK.out] at c0; have lg := (RcAt.cs hW).lt; go_simp; (try with_reducible rfl)) hS ?_
   refine tY 5 hS ?_
   refine tZ 6 (v := .agg (Rc.cells r)) rfl (fun W hW => ja0 (.tmp 3) rfl g r rfl hW) hS ?_
   simp only [Act.put, zT, zO, zS]
   refine rO 0 (fun K hK => ?_)
   go_simp
   with_reducible refine (jav _).mono ?_
   rintro e w7 ⟨m, rfl, hm, hb⟩
   have M7 := zh hm
   have R7 := zh ((R1.out.on (Below.refl w1.heap.size w1).drew).on hb)
   have hS2 := hS.on hb
   clear hS hb hm
   have hS := hS2
   clear hS2
   refine hK.out _ _ hS (fun _ => ?_)
   clear hK K
   try simp only [Act.put, zT, zO, zS]
   refine rO 3 (fun K hK => ?_)
   have hlk := M7.out.look2
   go_simp
   refine hK.out _ _ hS (fun _ => ?_)
   clear hK K
   refine tZ 4 rfl (by intro W hW; have hfd := jc8; go_simp; (try with_reducible rfl)) hS ?_
   simp only [Act.put, zT, zO, zS]
   refine rO 7 (fun K hK => ?_)
   have CF := zh (jl5 q s ru rv lo ko H _ w7 R7.out.bd (HT.out.on R7.out.b) r HI.out HK.out HC.out)
   go_simp
   with_reducible refine CF.out.mono ?_
   intro e w8 hp
   obtain ⟨ru8, rv8, lo8, ko8, H8, K8, rfl, hp2, hp3, hp4⟩ := hp
   have P8 := zh (show jaw q lo ko H (Bk.act s r) (.tuple #[]) w7 _ w8 from ⟨ru8, rv8, lo8, ko8, H8, K8, rfl, hp2, hp3, hp4⟩)
   have NB : ¬ BdF q lo ko H g := fun h => by have := H0.out.ltF g h; have := GE.out; omega
   have hS2 : RcAt w8 g r := ⟨(hp3.block g hS.cs.lt NB).trans hS.row⟩
   clear hS hp2 hp3 hp4 NB
   have hS := hS2
   clear hS2
   refine hK.out _ _ hS (fun _ => ?_)
   clear hK K
   try simp only [Act.put, zT, zO, zS]
   refine wpAnyH_done (by kernel_rfl) ?_ _
   clear hS
   go_wp2_with fail
   go_ret
   rw [AS.out, Bk.app_ok HC.out]
   exact (P8.out.ahead R7.out.b H0.out.ltF).ret _
  ·have HK := zh hk
   clear hk
   refine wp_region_held_drew (S := fun W => RcAt W g r) (by kernel_rfl) (R1.out.rc.on (Below.refl w1.heap.size w1).drew) (fun hS => ?_)
   refine tY 1 hS ?_
   refine tZ 2 rfl (by intro W hW; have c0 := (RcAt.cs hW).c0; rw [HK.out] at c0; have lg := (RcAt.cs hW).lt; go_simp; (try with_reducible rfl)) hS ?_
   refine tY 5 hS ?_
   refine tZ 6 (v := .agg (Rc.cells r)) rfl (fun W hW => ja0 (.tmp 3) rfl g r rfl hW) hS ?_
   simp only [Act.put, zT, zO, zS]
   refine rO 0 (fun K hK => ?_)
   go_simp
   with_reducible refine (jav _).mono ?_
   rintro e w7 ⟨m, rfl, hm, hb⟩
   have M7 := zh hm
   have R7 := zh ((R1.out.on (Below.refl w1.heap.size w1).drew).on hb)
   have hS2 := hS.on hb
   clear hS hb hm
   have hS := hS2
   clear hS2
   refine hK.out _ _ hS (fun _ => ?_)
   clear hK K
   try simp only [Act.put, zT, zO, zS]
   refine rO 3 (fun K hK => ?_)
   have hlk := M7.out.look3
   go_simp
   refine hK.out _ _ hS (fun _ => ?_)
   clear hK K
   refine tZ 4 rfl (by intro W hW; have hfd := jc8; go_simp; (try with_reducible rfl)) hS ?_
   simp only [Act.put, zT, zO, zS]
   refine rO 7 (fun K hK => ?_)
   have CF := zh (jlz q s ru rv lo ko H _ w7 R7.out.bd r HI.out HK.out HC.out)
   go_simp
   with_reducible refine CF.out.mono ?_
   intro e w8 hp
   obtain ⟨ru8, rv8, lo8, ko8, H8, K8, rfl, hp2, hp3, hp4⟩ := hp
   have P8 := zh (show jaw q lo ko H (Bk.act s r) (.tuple #[]) w7 _ w8 from ⟨ru8, rv8, lo8, ko8, H8, K8, rfl, hp2, hp3, hp4⟩)
   have NB : ¬ BdF q lo ko H g := fun h => by have := H0.out.ltF g h; have := GE.out; omega
   have hS2 : RcAt w8 g r := ⟨(hp3.block g hS.cs.lt NB).trans hS.row⟩
   clear hS hp2 hp3 hp4 NB
   have hS := hS2
   clear hS2
   refine hK.out _ _ hS (fun _ => ?_)
   clear hK K
   try simp only [Act.put, zT, zO, zS]
   refine wpAnyH_done (by kernel_rfl) ?_ _
   clear hS
   go_wp2_with fail
   go_ret
   rw [AS.out, Bk.app_ok HC.out]
   exact (P8.out.ahead R7.out.b H0.out.ltF).ret _
  ·have HK := zh hk
   clear hk
   refine wp_region_held_drew (S := fun W => RcAt W g r) (by kernel_rfl) (R1.out.rc.on (Below.refl w1.heap.size w1).drew) (fun hS => ?_)
   refine tY 1 hS ?_
   refine tZ 2 rfl (by intro W hW; have c0 := (RcAt.cs hW).c0; rw [HK.out] at c0; have lg := (RcAt.cs hW).lt; go_simp; (try with_reducible rfl)) hS ?_
   refine tY 5 hS ?_
   refine tZ 6 (v := .agg (Rc.cells r)) rfl (fun W hW => ja0 (.tmp 3) rfl g r rfl hW) hS ?_
   simp only [Act.put, zT, zO, zS]
   refine rO 0 (fun K hK => ?_)
   go_simp
   with_reducible refine (jav _).mono ?_
   rintro e w7 ⟨m, rfl, hm, hb⟩
   have M7 := zh hm
   have R7 := zh ((R1.out.on (Below.refl w1.heap.size w1).drew).on hb)
   have hS2 := hS.on hb
   clear hS hb hm
   have hS := hS2
   clear hS2
   refine hK.out _ _ hS (fun _ => ?_)
   clear hK K
   try simp only [Act.put, zT, zO, zS]
   refine rO 3 (fun K hK => ?_)
   have hlk := M7.out.look4
   go_simp
   refine hK.out _ _ hS (fun _ => ?_)
   clear hK K
   refine tZ 4 rfl (by intro W hW; have hfd := jc8; go_simp; (try with_reducible rfl)) hS ?_
   simp only [Act.put, zT, zO, zS]
   refine rO 7 (fun K hK => ?_)
   have CF := zh (jlx q s ru rv lo ko H _ w7 R7.out.bd r HI.out HK.out HC.out)
   go_simp
   with_reducible refine CF.out.mono ?_
   intro e w8 hp
   obtain ⟨ru8, rv8, lo8, ko8, H8, K8, rfl, hp2, hp3, hp4⟩ := hp
   have P8 := zh (show jaw q lo ko H (Bk.act s r) (.tuple #[]) w7 _ w8 from ⟨ru8, rv8, lo8, ko8, H8, K8, rfl, hp2, hp3, hp4⟩)
   have NB : ¬ BdF q lo ko H g := fun h => by have := H0.out.ltF g h; have := GE.out; omega
   have hS2 : RcAt w8 g r := ⟨(hp3.block g hS.cs.lt NB).trans hS.row⟩
   clear hS hp2 hp3 hp4 NB
   have hS := hS2
   clear hS2
   refine hK.out _ _ hS (fun _ => ?_)
   clear hK K
   try simp only [Act.put, zT, zO, zS]
   refine wpAnyH_done (by kernel_rfl) ?_ _
   clear hS
   go_wp2_with fail
   go_ret
   rw [AS.out, Bk.app_ok HC.out]
   exact (P8.out.ahead R7.out.b H0.out.ltF).ret _
  ·have HK := zh hk
   clear hk
   refine wp_region_held_drew (S := fun W => RcAt W g r) (by kernel_rfl) (R1.out.rc.on (Below.refl w1.heap.size w1).drew) (fun hS => ?_)
   refine tY 1 hS ?_
   refine tZ 2 rfl (by intro W hW; have c0 := (RcAt.cs hW).c0; rw [HK.out] at c0; have lg := (RcAt.cs hW).lt; go_simp; (try with_reducible rfl)) hS ?_
   refine tY 5 hS ?_
   refine tZ 6 (v := .agg (Rc.cells r)) rfl (fun W hW => ja0 (.tmp 3) rfl g r rfl hW) hS ?_
   simp only [Act.put, zT, zO, zS]
   refine rO 0 (fun K hK => ?_)
   go_simp
   with_reducible refine (jav _).mono ?_
   rintro e w7 ⟨m, rfl, hm, hb⟩
   have M7 := zh hm
   have R7 := zh ((R1.out.on (Below.refl w1.heap.size w1).drew).on hb)
   have hS2 := hS.on hb
   clear hS hb hm
   have hS := hS2
   clear hS2
   refine hK.out _ _ hS (fun _ => ?_)
   clear hK K
   try simp only [Act.put, zT, zO, zS]
   refine rO 3 (fun K hK => ?_)
   have hlk := M7.out.look5
   go_simp
   refine hK.out _ _ hS (fun _ => ?_)
   clear hK K
   refine tZ 4 rfl (by intro W hW; have hfd := jc8; go_simp; (try with_reducible rfl)) hS ?_
   simp only [Act.put, zT, zO, zS]
   refine rO 7 (fun K hK => ?_)
   have CF := zh (jl0 q s ru rv lo ko H _ w7 R7.out.bd r HI.out HK.out HC.out)
   go_simp
   with_reducible refine CF.out.mono ?_
   intro e w8 hp
   obtain ⟨ru8, rv8, lo8, ko8, H8, K8, rfl, hp2, hp3, hp4⟩ := hp
   have P8 := zh (show jaw q lo ko H (Bk.act s r) (.tuple #[]) w7 _ w8 from ⟨ru8, rv8, lo8, ko8, H8, K8, rfl, hp2, hp3, hp4⟩)
   have NB : ¬ BdF q lo ko H g := fun h => by have := H0.out.ltF g h; have := GE.out; omega
   have hS2 : RcAt w8 g r := ⟨(hp3.block g hS.cs.lt NB).trans hS.row⟩
   clear hS hp2 hp3 hp4 NB
   have hS := hS2
   clear hS2
   refine hK.out _ _ hS (fun _ => ?_)
   clear hK K
   try simp only [Act.put, zT, zO, zS]
   refine wpAnyH_done (by kernel_rfl) ?_ _
   clear hS
   go_wp2_with fail
   go_ret
   rw [AS.out, Bk.app_ok HC.out]
   exact (P8.out.ahead R7.out.b H0.out.ltF).ret _
  ·have HK := zh hk
   clear hk
   refine wp_region_held_drew (S := fun W => RcAt W g r) (by kernel_rfl) (R1.out.rc.on (Below.refl w1.heap.size w1).drew) (fun hS => ?_)
   refine tY 1 hS ?_
   refine tZ 2 rfl (by intro W hW; have c0 := (RcAt.cs hW).c0; rw [HK.out] at c0; have lg := (RcAt.cs hW).lt; go_simp; (try with_reducible rfl)) hS ?_
   refine tY 5 hS ?_
   refine tZ 6 (v := .agg (Rc.cells r)) rfl (fun W hW => ja0 (.tmp 3) rfl g r rfl hW) hS ?_
   simp only [Act.put, zT, zO, zS]
   refine rO 0 (fun K hK => ?_)
   go_simp
   with_reducible refine (jav _).mono ?_
   rintro e w7 ⟨m, rfl, hm, hb⟩
   have M7 := zh hm
   have R7 := zh ((R1.out.on (Below.refl w1.heap.size w1).drew).on hb)
   have hS2 := hS.on hb
   clear hS hb hm
   have hS := hS2
   clear hS2
   refine hK.out _ _ hS (fun _ => ?_)
   clear hK K
   try simp only [Act.put, zT, zO, zS]
   refine rO 3 (fun K hK => ?_)
   have hlk := M7.out.look6
   go_simp
   refine hK.out _ _ hS (fun _ => ?_)
   clear hK K
   refine tZ 4 rfl (by intro W hW; have hfd := jc8; go_simp; (try with_reducible rfl)) hS ?_
   simp only [Act.put, zT, zO, zS]
   refine rO 7 (fun K hK => ?_)
   have CF := zh (jl1 q s ru rv lo ko H _ w7 R7.out.bd r HI.out HK.out HC.out)
   go_simp
   with_reducible refine CF.out.mono ?_
   intro e w8 hp
   obtain ⟨ru8, rv8, lo8, ko8, H8, K8, rfl, hp2, hp3, hp4⟩ := hp
   have P8 := zh (show jaw q lo ko H (Bk.act s r) (.tuple #[]) w7 _ w8 from ⟨ru8, rv8, lo8, ko8, H8, K8, rfl, hp2, hp3, hp4⟩)
   have NB : ¬ BdF q lo ko H g := fun h => by have := H0.out.ltF g h; have := GE.out; omega
   have hS2 : RcAt w8 g r := ⟨(hp3.block g hS.cs.lt NB).trans hS.row⟩
   clear hS hp2 hp3 hp4 NB
   have hS := hS2
   clear hS2
   refine hK.out _ _ hS (fun _ => ?_)
   clear hK K
   try simp only [Act.put, zT, zO, zS]
   refine wpAnyH_done (by kernel_rfl) ?_ _
   clear hS
   go_wp2_with fail
   go_ret
   rw [AS.out, Bk.app_ok HC.out]
   exact (P8.out.ahead R7.out.b H0.out.ltF).ret _
  ·have HK := zh hk
   clear hk
   refine wp_region_held_drew (S := fun W => RcAt W g r) (by kernel_rfl) (R1.out.rc.on (Below.refl w1.heap.size w1).drew) (fun hS => ?_)
   refine tY 1 hS ?_
   refine tZ 2 rfl (by intro W hW; have c0 := (RcAt.cs hW).c0; rw [HK.out] at c0; have lg := (RcAt.cs hW).lt; go_simp; (try with_reducible rfl)) hS ?_
   refine tY 5 hS ?_
   refine tZ 6 (v := .agg (Rc.cells r)) rfl (fun W hW => ja0 (.tmp 3) rfl g r rfl hW) hS ?_
   simp only [Act.put, zT, zO, zS]
   refine rO 0 (fun K hK => ?_)
   go_simp
   with_reducible refine (jav _).mono ?_
   rintro e w7 ⟨m, rfl, hm, hb⟩
   have M7 := zh hm
   have R7 := zh ((R1.out.on (Below.refl w1.heap.size w1).drew).on hb)
   have hS2 := hS.on hb
   clear hS hb hm
   have hS := hS2
   clear hS2
   refine hK.out _ _ hS (fun _ => ?_)
   clear hK K
   try simp only [Act.put, zT, zO, zS]
   refine rO 3 (fun K hK => ?_)
   have hlk := M7.out.look7
   go_simp
   refine hK.out _ _ hS (fun _ => ?_)
   clear hK K
   refine tZ 4 rfl (by intro W hW; have hfd := jc8; go_simp; (try with_reducible rfl)) hS ?_
   simp only [Act.put, zT, zO, zS]
   refine rO 7 (fun K hK => ?_)
   have CF := zh (jly q s ru rv lo ko H _ w7 R7.out.bd r HI.out HK.out HC.out)
   go_simp
   with_reducible refine CF.out.mono ?_
   intro e w8 hp
   obtain ⟨ru8, rv8, lo8, ko8, H8, K8, rfl, hp2, hp3, hp4⟩ := hp
   have P8 := zh (show jaw q lo ko H (Bk.act s r) (.tuple #[]) w7 _ w8 from ⟨ru8, rv8, lo8, ko8, H8, K8, rfl, hp2, hp3, hp4⟩)
   have NB : ¬ BdF q lo ko H g := fun h => by have := H0.out.ltF g h; have := GE.out; omega
   have hS2 : RcAt w8 g r := ⟨(hp3.block g hS.cs.lt NB).trans hS.row⟩
   clear hS hp2 hp3 hp4 NB
   have hS := hS2
   clear hS2
   refine hK.out _ _ hS (fun _ => ?_)
   clear hK K
   try simp only [Act.put, zT, zO, zS]
   refine wpAnyH_done (by kernel_rfl) ?_ _
   clear hS
   go_wp2_with fail
   go_ret
   rw [AS.out, Bk.app_ok HC.out]
   exact (P8.out.ahead R7.out.b H0.out.ltF).ret _
 ·have hc2 : (ans != 0) = true := by simpa using hc
  have HC : Hid (Bk.chk s r ≠ 0) := by show _ ≠ _; rw [← AN.out]; exact hc
  clear hc
  go_wp2_with (first
   | ((with_reducible show zL 7); refine zR (.tmp 3) R0.out.rc ?_)
   | (go_at_call 27; (with_reducible refine CC.out.mono ?_); rintro e w1 ⟨rfl, hb⟩; have R1 := zh (R0.out.on hb); clear hb))
  go_ret
  rw [AS.out, Bk.app_no HC.out]
  exact jaw.stay H0.out R1.out.b _
end Go.Proofs.YtnacjhnfkkddcaaGreatDoor
