import Derived.Test.YtnacjhnfkkddcaaGreatDoorNl14
import Derived.Test.YtnacjhnfkkddcaaGreatDoorNl02
import Derived.Handed
import Derived.HandedShaped
import Derived.Test.YtnacjhnfkkddcaaGreatDoorRows
import Derived.Stop.LaidErr
import Derived.Shelf.Vars
import Derived.MakeChecks
import Derived.Lay
import Derived.Test.YtnacjhnfkkddcaaGreatDoorTie
import Derived.Test.YtnacjhnfkkddcaaGreatDoorCards
import Derived.WalkKit
import Derived.ProofKit
import Derived.OpenShut
import Derived.ShutString
import Derived.ChangeOld
import Derived.Below
import Derived.LaidMore
import Derived.SevenTiedAt
import Derived.Deep.Matrix
namespace Go.Proofs.YtnacjhnfkkddcaaGreatDoor
open Go.RowKit Go.Deep Go.Maps
set_option maxRecDepth 100000
set_option linter.unusedSimpArgs false
set_option linter.unusedVariables false
def lspC (n : Int) : Array Value := #[.int .i64 n, .int .i64 1, .int .i64 1, .int .i64 0, .int .i64 1, .int .i64 0, .int .i64 0, .int .i64 0, .int .i64 0, .int .i64 1, .int .i64 0, .int .i64 9]
theorem lspC_size (n : Int) : (Tryz.prog.info? 35).map (·.size) = some (lspC n).size := by kernel_rfl
theorem lspC_one (n : Int) : (lspC n).all (·.oneCell') = true := by
  simp [lspC]
  simp [Value.oneCell']
theorem wpList_store_lsp {w : World} {ops : Array Oper} {rest : List Oper} {op : Oper} {a : Act} {Q : Exit → Act → World → Prop} {g : Nat} {n : Int} {cs : Array Value} (hgd : op.guard = none) (x y : Operand) (ho : op.op = .store 35 x y) (hx : a.eval x = .pointer (some ⟨g, 0, none⟩)) (hy : a.eval y = .agg (lspC n)) (hg : w.heap[g]? = some (.cells cs 35 (0, 0))) (hc : cs.size = (lspC n).size)
    (h : wpList Tryz.prog ops Q rest (a.put op.dst undef) (w.setRow g (lspC n))) : wpList Tryz.prog ops Q (op :: rest) a w :=
  wpList_store_row hgd 35 x y ho g (lspC n) hx hy 35 _ hg (lspC_size n) hc (lspC_one n) h
theorem some_any (n : Int) (w : World) : Calls Tryz.prog 30 #[.int .i64 n] w (BRet (.agg (lspC n)) w) := by
  have hzs : ∀ W : World, (zeroValue 35).run Tryz.prog W = .ok (.agg #[.int .i64 0, .int .i64 0, .int .i64 0, .int .i64 0, .int .i64 0, .int .i64 0, .int .i64 0, .int .i64 0, .int .i64 0, .int .i64 0, .int .i64 0, .int .i64 0]) W := (zero_of_info (n := 12) (by kernel_rfl)).1
  have R0 := heap_alloc_new w (.cells #[.int .i64 0, .int .i64 0, .int .i64 0, .int .i64 0, .int .i64 0, .int .i64 0, .int .i64 0, .int .i64 0, .int .i64 0, .int .i64 0, .int .i64 0, .int .i64 0] 35)
  have B0 := Lib.hid ((Below.refl w.heap.size w).alloc (Nat.le_refl _) (.cells #[.int .i64 0, .int .i64 0, .int .i64 0, .int .i64 0, .int .i64 0, .int .i64 0, .int .i64 0, .int .i64 0, .int .i64 0, .int .i64 0, .int .i64 0, .int .i64 0] 35))
  go_enter Tryz.func30, Tryz.ntmps30
  go_upto_region 1 with fail
  obtain ⟨g, hg⟩ : ∃ g, g = w.heap.size := ⟨_, rfl⟩
  rw [← hg] at R0 ⊢
  have GE : Hid (w.heap.size ≤ g) := Nat.le_of_eq hg.symm
  clear hg
  generalize w.alloc (.cells #[.int .i64 0, .int .i64 0, .int .i64 0, .int .i64 0, .int .i64 0, .int .i64 0, .int .i64 0, .int .i64 0, .int .i64 0, .int .i64 0, .int .i64 0, .int .i64 0] 35) = W1 at *
  go_wp2_with (first
    | ((with_reducible show wpList _ _ _ ({ dst := some 4, op := .build _ _, type := _, pos := _, after := _, guard := _ } :: _) _ _); refine wpList_built rfl 35 _ rfl (lspC n) (by kernel_rfl) ?_)
    | ((with_reducible show wpList _ _ _ ({ dst := none, op := .store _ _ _, type := _, pos := _, after := _, guard := _ } :: _) _ _); refine wpList_store_lsp (n := n) rfl (.tmp 2) (.tmp 4) rfl rfl rfl R0 rfl ?_))
  try simp only [Exit.inBlock, Exit.then]
  exact bodyPost_ret (v := .agg (lspC n)) (results_cell_row (P := Tryz.prog) Tryz.results30 _ _ g 35 (lspC n) (0, 0) _ rfl (setRow_heap W1 g _ _ _ _ R0) spec_fields rfl (lspC_size n)) rfl ⟨rfl, below_setRow B0.out GE.out _⟩
set_option maxHeartbeats 3200000 in
theorem lives_any (W : World) (ht : BT W) : Calls Tryz.prog 11 #[] W (BRet (.bool true) W) := by
  have CSM := Lib.hid (fun w => some_any 1 w)
  have CA := Lib.hid (fun (w : World) (h2 : BT w) => ball_any 2 _ 4 4 lrs lrs_in (w.alloc (.cells (lrs.flatMap Bk.rcC).toArray 53)) (lrs_row w) (by omega) (h2.on ((Below.refl _ _).alloc (Nat.le_refl _) _)))
  have T0 := Lib.hid ht
  have E1 := Lib.hid lrs_n
  have E2 := Lib.hid lrs_stable
  have E3 := Lib.hid lrs_ph
  have E4 := Lib.hid lrs_h
  have AB : Hid (∀ (w w' : World) e, BMade BdP (Bk.all 2 lrs) (fun p => .tuple #[p, .int .i64 (Bk.allN 2 lrs : Nat)]) w e w' → ∃ q, e = .returned (.tuple #[.pointer (some ⟨q, 0, none⟩), .int .i64 4]) ∧ BP w (fun _ => False) q (Bk.all 2 lrs) w') := fun w w' e h => by
    obtain ⟨q, rfl, h2⟩ := bp_made h
    exact ⟨q, by show _ = _; rw [E1.out]; rfl, h2⟩
  clear E1 ht
  have hv3 : ∀ w, (Instr.field 48 (.agg (Bk.viewC (Bk.all 2 lrs))) 3).run Tryz.prog w = .ok (.int .i64 1) w := fun w => by rw [vf3, E2.out]
  have hv5 : ∀ w, (Instr.field 48 (.agg (Bk.viewC (Bk.all 2 lrs))) 5).run Tryz.prog w = .ok (.int .i64 3) w := fun w => by rw [vf5, E3.out]
  clear E2 E3
  generalize Bk.all 2 lrs = s at *
  go_enter Tryz.func11, Tryz.ntmps11
  go_upto_region 2 with (first
    | ((with_reducible show wpList _ _ _ ({ dst := some 4, op := .build _ _, type := _, pos := _, after := _, guard := _ } :: _) _ _); refine wpList_built rfl 53 _ rfl (Rc.cells lr1) (by kernel_rfl) ?_)
    | ((with_reducible show wpList _ _ _ ({ dst := some 5, op := .build _ _, type := _, pos := _, after := _, guard := _ } :: _) _ _); refine wpList_built rfl 53 _ rfl (Rc.cells lr2) (by kernel_rfl) ?_)
    | ((with_reducible show wpList _ _ _ ({ dst := some 7, op := .build _ _, type := _, pos := _, after := _, guard := _ } :: _) _ _); refine wpList_built rfl 53 _ rfl (Rc.cells lr3) (by kernel_rfl) ?_)
    | ((with_reducible show wpList _ _ _ ({ dst := some 8, op := .build _ _, type := _, pos := _, after := _, guard := _ } :: _) _ _); refine wpList_built rfl 53 _ rfl (Rc.cells lr4) (by kernel_rfl) ?_)
    | ((with_reducible show wpList _ _ _ ({ dst := some 9, op := .buildSlice _ _ _, type := _, pos := _, after := _, guard := _ } :: _) _ _); obtain ⟨i0, hi, hz0, hz1, hz2⟩ := info_parts rc_info; refine wpList_buildSlice rfl 22 53 4 _ rfl (lrs.flatMap Bk.rcC).toArray i0 _ Tryz.underlying22 hi hz0 (by rw [hz1]; omega) (by rw [hz1]; omega) (by rw [hz1]; kernel_rfl) ?_; clear hi hz0 hz1 hz2 i0)
    | (go_at_call 30; (with_reducible refine (CSM.out _).mono ?_); rintro e w1 ⟨rfl, hb⟩; have B1 := Lib.hid hb; clear hb)
    | (go_at_call 14; (with_reducible refine (CA.out _ (T0.out.on B1.out)).mono ?_); rintro e w2 hp; have B2 := Lib.hid (B1.out.trans (((Below.refl w1.heap.size w1).alloc (Nat.le_refl _) (.cells (lrs.flatMap Bk.rcC).toArray 53)).mono B1.out.size)); obtain ⟨q, rfl, hbp⟩ := AB.out _ _ _ hp; have D := Lib.hid hbp; clear hp hbp))
  have B3 := Lib.hid (B2.out.trans ((bp_below D.out).mono B2.out.size))
  clear B2 B1 CA CSM AB
  have hl2 : s.h.length = 2 := E4.out
  go_wp2_with (first
    | (go_at_call 21; (with_reducible refine (bp_view D.out).mono ?_); rintro e w4 ⟨rfl, hb⟩; have D := Lib.hid (bp_on D.out hb); have B3 := Lib.hid (B3.out.trans (hb.mono B3.out.size)); clear hb)
    | (go_at_call 26; (with_reducible refine (bp_hist D.out).mono ?_); rintro e w4 hp; obtain ⟨A8, c8, rfl, p1, hb, p3⟩ := hp; have D := Lib.hid (bp_on D.out hb); have B3 := Lib.hid (B3.out.trans (hb.mono B3.out.size)); clear hb p1 p3)
    | (go_at_call 28; (with_reducible refine (bp_units D.out).mono ?_); rintro e w4 hp; obtain ⟨A7, c7, rfl, p1, hb, p3⟩ := hp; have B9 := Lib.hid (B3.out.trans (hb.mono B3.out.size)); clear hb p1 p3))
  go_ret
  exact ⟨rfl, B9.out⟩
end Go.Proofs.YtnacjhnfkkddcaaGreatDoor
namespace Go.Proofs.YtnacjhnfkkddcaaGreatDoor
open Go.RowKit Go.Deep Go.Maps
set_option maxRecDepth 100000
set_option linter.unusedSimpArgs false
set_option linter.unusedVariables false
theorem nview (w : World) : Calls Tryz.prog 21 #[.pointer none] w (BRet (.agg (Bk.viewC Bk.none_)) w) := by
  have R0 := heap_alloc_new w (.cells (Bk.viewC Bk.none_) 48)
  have B0 := Lib.hid ((Below.refl w.heap.size w).alloc (Nat.le_refl _) (.cells (Bk.viewC Bk.none_) 48))
  have hzv : ∀ W : World, (zeroValue 48).run Tryz.prog W = .ok (.agg (Bk.viewC Bk.none_)) W := (zero_of_info (n := 22) (by kernel_rfl)).1
  go_enter Tryz.func21, Tryz.ntmps21
  go_upto_region 2 with fail
  obtain ⟨g, hg⟩ : ∃ g, g = w.heap.size := ⟨_, rfl⟩
  rw [← hg] at R0 ⊢
  have GE : Hid (w.heap.size ≤ g) := Nat.le_of_eq hg.symm
  clear hg
  generalize w.alloc (.cells (Bk.viewC Bk.none_) 48) = W1 at *
  go_wp2_with ((with_reducible show wpList _ _ _ ({ dst := none, op := .store _ _ _, type := _, pos := _, after := _, guard := _ } :: _) _ _); refine wpList_store_view (s := Bk.none_) rfl (.tmp 2) (.tmp 5) rfl rfl rfl R0 rfl ?_)
  exact bodyPost_ret (v := .agg (Bk.viewC Bk.none_)) (results_cell_row (P := Tryz.prog) Tryz.results21 _ _ g 48 (Bk.viewC Bk.none_) (0, 0) _ rfl (setRow_heap W1 g _ _ _ _ R0) view_fields rfl (view_size2 Bk.none_)) rfl ⟨rfl, below_setRow B0.out GE.out _⟩
theorem nunits (w : World) : Calls Tryz.prog 28 #[.pointer none] w (BList (Bk.unC) [] w) := by
  go_enter Tryz.func28, Tryz.ntmps28
  go_wp2_with fail
  go_ret
  exact ⟨none, 0, rfl, SlF.none_ w, Below.refl _ _, fun b o e => by cases e⟩
theorem nversions (w : World) : Calls Tryz.prog 24 #[.pointer none] w (BList (fun n : Int => [.int .i64 n]) [] w) := by
  go_enter Tryz.func24, Tryz.ntmps24
  go_wp2_with fail
  go_ret
  exact ⟨none, 0, rfl, SlF.none_ w, Below.refl _ _, fun b o e => by cases e⟩
theorem nhistory (w : World) : Calls Tryz.prog 26 #[.pointer none] w (BList (Bk.rcC) [] w) := by
  go_enter Tryz.func26, Tryz.ntmps26
  go_wp2_with fail
  go_ret
  exact ⟨none, 0, rfl, SlF.none_ w, Below.refl _ _, fun b o e => by cases e⟩
theorem ndigest (w : World) (n : Int) : Calls Tryz.prog 23 #[.pointer none, .int .i64 n] w (BRet (.tuple #[.string ⟨#[]⟩, .bool false]) w) := by
  go_enter Tryz.func23, Tryz.ntmps23
  go_wp2_with fail
  go_ret2
  exact ⟨rfl, Below.refl _ _⟩
theorem nfree (w : World) (n : Int) : Calls Tryz.prog 29 #[.pointer none, .int .i64 n] w (BRet (.bool false) w) := by
  go_enter Tryz.func29, Tryz.ntmps29
  go_wp2_with fail
  go_ret
  exact ⟨rfl, Below.refl _ _⟩
theorem ncheck (w : World) (r : Rc.R) : Calls Tryz.prog 27 #[.pointer none, .agg (Rc.cells r)] w (BRet (.int .i64 1) w) := by
  have B0 := Lib.hid ((Below.refl w.heap.size w).alloc (Nat.le_refl _) (.cells (Rc.cells r) 53))
  go_enter Tryz.func27, Tryz.ntmps27
  go_wp2_with fail
  go_ret
  exact ⟨rfl, B0.out⟩
theorem napply (w : World) (r : Rc.R) : Calls Tryz.prog 22 #[.pointer none, .agg (Rc.cells r)] w (BRet (.int .i64 1) w) := by
  have B0 := Lib.hid ((Below.refl w.heap.size w).alloc (Nat.le_refl _) (.cells (Rc.cells r) 53))
  have R0 := Lib.hid (heap_alloc_new w (.cells (Rc.cells r) 53))
  have CK := Lib.hid (fun W => ncheck W r)
  go_enter Tryz.func22, Tryz.ntmps22
  go_upto_region 1 with fail
  generalize w.alloc (.cells (Rc.cells r) 53) = w1 at *
  go_wp2_with (first
    | ((with_reducible show wpList _ _ _ ({ dst := some 7, op := .load _ _, type := _, pos := _, after := _, guard := _ } :: _) _ _); refine wpList_load_row rfl 53 (.tmp 3) rfl w.heap.size rfl 53 _ (0, 0) _ R0.out rec_fields rfl (rec_size r) ?_)
    | (go_at_call 27; (with_reducible refine (CK.out _).mono ?_); rintro e w2 ⟨rfl, hb⟩; have B2 := Lib.hid hb; clear hb))
  go_ret
  exact ⟨rfl, B0.out.trans (B2.out.mono B0.out.size)⟩
end Go.Proofs.YtnacjhnfkkddcaaGreatDoor
namespace Go.Proofs.YtnacjhnfkkddcaaGreatDoor
open Go.RowKit Go.Deep Go.Maps
set_option maxRecDepth 100000
set_option linter.unusedSimpArgs false
set_option linter.unusedVariables false
theorem wpList_builtw {P : Program} {ops : Array Oper} {rest : List Oper} {o : Oper} {a : Act} {w : World} {Q : Exit → Act → World → Prop} (hgd : Region.wanted o (yielded ops a.tmps) = true) (t : TypeId) (parts : Array (Nat × Operand)) (ho : o.op = .build t parts) (cells : Array Value)
    (hf : P.built t (parts.map fun (i, x) => (i, a.eval x)).toList = some cells) (h : wpList P ops Q rest (a.put o.dst (.agg cells)) w) : wpList P ops Q (o :: rest) a w := by
  simp only [wpList, hgd, if_true]
  refine .inl ?_
  unfold Oper.wp execOp
  simp only [ho, Sem.run_bind, run_build w t _ cells hf, Result.andThen_ok]
  exact h
theorem row_range {w : World} {g : Nat} {cs : Array Value} {t : TypeId} (h : w.heap[g]? = some (.cells cs t (0, 0))) : w.rangeAt g 0 cs.toList := by
  intro j u hu
  rw [cell_of_row w g _ _ _ _ h, Nat.zero_add]
  simpa using hu
set_option maxHeartbeats 3200000 in
theorem booknil_walk (r : Rc.R) (n : Int) (W : World) (ht : BT W) : Calls Tryz.prog 9 #[.agg (Rc.cells r), .int .i64 n] W (BRet (.bool true) W) := by
  have CL := Lib.hid (fun w => lives_any w)
  have T0 := Lib.hid ht
  have B := Lib.hid ((Below.refl W.heap.size W).alloc (Nat.le_refl _) (.cells (Rc.cells r) 53))
  have R0 := Lib.hid (heap_alloc_new W (.cells (Rc.cells r) 53))
  have heq : ∀ w, (binOp .eql 48 (.agg (Bk.viewC Bk.none_)) (.agg (Bk.viewC Bk.none_))).run Tryz.prog w = .ok (.bool true) w := fun w => by kernel_rfl
  clear ht
  go_enter Tryz.func9, Tryz.ntmps9
  go_upto_region 1 with fail
  obtain ⟨g, hg⟩ : ∃ g, g = W.heap.size := ⟨_, rfl⟩
  rw [← hg] at R0 ⊢
  clear hg
  have R := R0
  clear R0
  generalize W.alloc (.cells (Rc.cells r) 53) = W1 at *
  have R := Lib.hid R.out
  go_upto_region 4 with (go_at_call 11; (with_reducible refine (CL.out _ (T0.out.on B.out)).mono ?_); rintro e w9 ⟨rfl, hb⟩; have R := Lib.hid (blk_on R.out hb); have B := Lib.hid (B.out.trans (hb.mono B.out.size)); clear hb)
  go_upto_region 5 with (go_at_call 23; (with_reducible refine (ndigest _ n).mono ?_); rintro e w9 ⟨rfl, hb⟩; have R := Lib.hid (blk_on R.out hb); have B := Lib.hid (B.out.trans (hb.mono B.out.size)); clear hb)
  go_wp2_with (first
    | (go_at_call 11; (with_reducible refine (CL.out _ (T0.out.on B.out)).mono ?_); rintro e w9 ⟨rfl, hb⟩; have B := Lib.hid (B.out.trans (hb.mono B.out.size)); clear hb)
    | (go_at_call 23; (with_reducible refine (ndigest _ n).mono ?_); rintro e w9 ⟨rfl, hb⟩; have B := Lib.hid (B.out.trans (hb.mono B.out.size)); clear hb)
    | (go_at_call 27; (with_reducible refine (ncheck _ r).mono ?_); rintro e w9 ⟨rfl, hb⟩; have R := Lib.hid (blk_on R.out hb); have B := Lib.hid (B.out.trans (hb.mono B.out.size)); clear hb)
    | (go_at_call 22; (with_reducible refine (napply _ r).mono ?_); rintro e w9 ⟨rfl, hb⟩; have B := Lib.hid (B.out.trans (hb.mono B.out.size)); clear hb)
    | (go_at_call 21; (with_reducible refine (nview _).mono ?_); rintro e w9 ⟨rfl, hb⟩; have B := Lib.hid (B.out.trans (hb.mono B.out.size)); clear hb)
    | (go_at_call 28; (with_reducible refine (nunits _).mono ?_); rintro e w9 hp; obtain ⟨A9, c9, rfl, p1, hb, p3⟩ := hp; have B := Lib.hid (B.out.trans (hb.mono B.out.size)); clear hb p1 p3)
    | (go_at_call 24; (with_reducible refine (nversions _).mono ?_); rintro e w9 hp; obtain ⟨A9, c9, rfl, p1, hb, p3⟩ := hp; have B := Lib.hid (B.out.trans (hb.mono B.out.size)); clear hb p1 p3)
    | (go_at_call 26; (with_reducible refine (nhistory _).mono ?_); rintro e w9 hp; obtain ⟨A9, c9, rfl, p1, hb, p3⟩ := hp; have B := Lib.hid (B.out.trans (hb.mono B.out.size)); clear hb p1 p3)
    | (go_at_call 29; (with_reducible refine (nfree _ n).mono ?_); rintro e w9 ⟨rfl, hb⟩; have B := Lib.hid (B.out.trans (hb.mono B.out.size)); clear hb)
    | ((with_reducible show wpList _ _ _ ({ dst := some 29, op := .build _ _, type := _, pos := _, after := _, guard := _ } :: _) _ _); refine wpList_builtw (by rfl) 48 _ rfl (Bk.viewC Bk.none_) (by kernel_rfl) ?_)
    | ((with_reducible show wpList _ _ _ ({ dst := some 17, op := .load _ _, type := _, pos := _, after := _, guard := _ } :: _) _ _); refine wpList_load_midw (by rfl) 53 (.tmp 2) rfl g 0 rfl (Rc.cells r) _ (row_range R.out) rec_fields rfl (rec_size r) ?_)
    | ((with_reducible show wpList _ _ _ ({ dst := some 22, op := .load _ _, type := _, pos := _, after := _, guard := _ } :: _) _ _); refine wpList_load_midw (by rfl) 53 (.tmp 2) rfl g 0 rfl (Rc.cells r) _ (row_range R.out) rec_fields rfl (rec_size r) ?_))
  go_ret
  exact ⟨rfl, B.out⟩
end Go.Proofs.YtnacjhnfkkddcaaGreatDoor
namespace Go.Proofs.YtnacjhnfkkddcaaGreatDoor
open Go
variable {H : Type} {enc : TypeId × Value → H}
theorem returns_laid_shaped {a : Assume} {C : Checked} {os : Os} {f : FuncId} {fn : Func} {s : ChangeSpec} {conds : List PathCond} {apart fresh handsOn again : Bool} {X : World → Array Value → Prop}
    (hX : ∀ (w w' : World) (args : Array Value), w.heap = w'.heap → X w args → X w' args)
    (own : ownKnob C.prog.godebug = none) (started : os.Started) (noInit : C.prog.inits.idxOf? f = none) (hfn : C.prog.funcs[f]? = some fn)
    (witness : ∃ (w : World) (tape : Tape) (i : Input), w.os = os ∧ (w.forCall tape i).Shaped C.prog ∧ i.vars = [] ∧ Input.okWide C.prog (w.forCall tape i) .any w.heap.size f i ∧
      ((s.pre enc C.prog fn conds apart (w.forCall tape i).memory i.args ∧ X (w.forCall tape i).memory i.args) ∧ sizedMet enc C.prog fn (OpenSpec.ofChange s) apart (w.forCall tape i).memory i.args) ∧ a.holds C.prog (lone (Frame.enter C.prog f i.args .normal) [] (w.forCall tape i)))
    (contract : ∀ (W : World) (base : Nat) (args : Array Value) (ds gs : List (DataW H)) (before : List MemPlace),
      (∀ (j : Nat) t v, fn.params[j]? = some t → args[j]? = some v → Value.okWide C.prog W .any base t v) →
      DataW.Whole enc C.prog fn.params.toList s.vars apart W args.toList ds gs before →
      X W args → W.ShapedOpen C.prog →
      Calls C.prog f args W fun e W' => ∃ v, e = .returned v ∧ s.post enc C.prog fn apart fresh handsOn again W args v W') :
    ReturnsInHanded a C os f .any (fun w args => (s.pre enc C.prog fn conds apart w args ∧ X w args) ∧ sizedMet enc C.prog fn (OpenSpec.ofChange s) apart w args) (s.post enc C.prog fn apart fresh handsOn again) := by
  refine returnsInHanded_of_calls own started noInit witness ?_
  intro w tape i _ hsh _ hok hpre _
  obtain ⟨_, _, _, fn', hfn', _, _, _, _, hval⟩ := hok
  have e : fn' = fn := Option.some.inj (hfn'.symm.trans hfn)
  subst e
  obtain ⟨⟨⟨ds, gs, before, hw, _⟩, hx⟩, _⟩ := hpre
  have hw' := DataW.Whole.of_heap (w' := w.forCall tape i) (by rfl) hw
  refine (contract (w.forCall tape i) w.heap.size i.args ds gs before hval hw' (hX _ _ _ (by rfl) hx) hsh).mono fun e W' ⟨v, he, hp⟩ => ?_
  subst he
  exact ChangeSpec.post_blind hp
end Go.Proofs.YtnacjhnfkkddcaaGreatDoor
namespace Go.Proofs.YtnacjhnfkkddcaaGreatDoor
open Go Go.RowKit
theorem leads_data : leaf3 (Rows.laid_pacesetter_phase_leads : DataW Unit) = leadsT := by kernel_rfl
theorem words_data : leaf2 (Rows.laid_pacesetter_phase_words : DataW Unit) = wordsT := by kernel_rfl
theorem pow_data : Rows.laid_internal_strconv_uint64pow10 = (Lib.tabData .u64 Lib.pow10Tab : DataW Unit) := by kernel_rfl
theorem tb_of {W : World} (hL : laidMetH Tryz.prog Rows.bookNilRow.laid W) (_ : W.ShapedOpen Tryz.prog) : BT W := by
  rw [MakeChecks.laidMetH_plain _ _ _ (by kernel_rfl)] at hL
  refine ⟨⟨?_⟩, ?_, ?_⟩
  · have h3 := hL.tail.tail
    exact Lib.tabIs_of_head (n := 20) (t := 245) (e := 178) g_pow (by kernel_rfl) (by kernel_rfl) Tryz.underlying178 (by kernel_rfl) (by kernel_rfl) (pow_data ▸ h3)
  · have := varIs_of (name := "pacesetter/phase.leads") (d := Rows.laid_pacesetter_phase_leads) (L := leaf3) (t := 196) hL (by simp [Rows.bookNilRow]) g_leads (by kernel_rfl)
      (fun _ _ _ _ => tells_arr (fun _ => rfl) (tells_arr (n := 9) (e := 3) (L := leaf1) (fun _ => rfl) (tells_int Tryz.underlying3) Tryz.underlying195 (by kernel_rfl)) Tryz.underlying196 (by kernel_rfl))
    rw [leads_data] at this
    exact this
  · have := varIs_of (name := "pacesetter/phase.words") (d := Rows.laid_pacesetter_phase_words) (L := leaf2) (t := 194) hL (by simp [Rows.bookNilRow]) g_words (by kernel_rfl)
      (fun _ _ _ _ => tells_arr (fun _ => rfl) (tells_str Tryz.underlying9) Tryz.underlying194 (by kernel_rfl))
    rw [words_data] at this
    exact this
end Go.Proofs.YtnacjhnfkkddcaaGreatDoor
namespace Go.Proofs.YtnacjhnfkkddcaaGreatDoor.bookNil
open Go.ChangeShapes Go.WideShapes Go.ChangeAt Go.RowKit Go.Deep
open Go.ChangeMaps (open_string shut_string)
set_option linter.unusedVariables false
theorem own : ownKnob Tryz.prog.godebug = none := by kernel_rfl
theorem laidOut : laidOutB Tryz.prog = true := by kernel_rfl
set_option maxRecDepth 100000 in
theorem lifted (os : Os) (started : os.Started) (H : Type) (enc : TypeId × Value → H) :
    ReturnsInHanded {} Tryz.checked os 9 .any (fun w args => (Rows.bookNilSpec.pre enc Tryz.prog Tryz.f9 Rows.bookNilRow.domain false w args ∧ laidMetH Tryz.prog Rows.bookNilRow.laid w) ∧ sizedMet enc Tryz.prog Tryz.f9 (OpenSpec.ofChange Rows.bookNilSpec) false w args)
      (Rows.bookNilSpec.post enc Tryz.prog Tryz.f9 false true false false) := by
  refine returns_laid_shaped (C := Tryz.checked) (X := fun w _ => laidMetH Tryz.prog Rows.bookNilRow.laid w) (fun _ _ _ hh h => h.of_heap hh) own started (by kernel_rfl) Tryz.func9
    (ChangeSpec.witness_shaped (enc := enc) (C := Tryz.checked) (os := os) (X := fun w _ => laidMetH Tryz.prog Rows.bookNilRow.laid w) false (World.laidAll Tryz.prog os Rows.bookNilRow.laid) #[.agg #[.int .i64 0, .int .i64 0, .int .i64 0, .int .i64 0, .int .i64 0, .string ⟨#[]⟩, .int .i64 0, .int .i64 0, .int .i64 0, .int .i64 0, .int .i64 0, .int .i64 0, .int .i64 0, .int .i64 0, .int .i64 0, .int .i64 0, .int .i64 0, .int .i64 0], .int .i64 0] 8 (World.laidAll_os _ _ _)
      (World.shaped_of_ZipB (by kernel_rfl) (by kernel_rfl)) (by kernel_rfl) (by kernel_rfl) (by kernel_rfl)
      (by rw [MakeChecks.laidMetH_plain _ _ _ (by kernel_rfl)]; exact laidMet_laidAll _ (by kernel_rfl) (by kernel_rfl))) ?_
  intro W base args ds gs before hval0 hW hL hsh
  have TB : BT W := tb_of hL hsh
  have hval : ∀ (j : Nat) t v, Tryz.f9.params[j]? = some t → args[j]? = some v → Value.okWide Tryz.prog W .any base t v := hval0
  have hW' := hW
  obtain ⟨p, q, hA0, hV, rfl, hfz, hnd⟩ := hW
  have hA : DataW.TrodAll enc Tryz.prog W 0 (fun _ => true) true Tryz.f9.params.toList args.toList ds p := hA0
  rw [Tryz.params9] at hA hval
  obtain ⟨v0, vs0, d0, ds0, p0, q0, hargs, rfl, rfl, h0, r0⟩ := trodAll_cons hA
  obtain ⟨v1, vs1, d1, ds1, p1, q1, rfl, rfl, rfl, h1, r1⟩ := trodAll_cons r0
  obtain ⟨rfl, rfl, rfl⟩ := trodAll_nil r1
  obtain rfl : args = #[v0, v1] := by cases args; simp_all
  obtain ⟨rfl, rfl⟩ := trodVars_none hV
  have k0 := h0
  have lt0 : ∀ x ∈ p0, x.block < W.heap.size := by obtain ⟨m, hm⟩ := k0; exact DataW.trod_lt m _ _ _ hm
  obtain ⟨s0, rfl, i0⟩ := open_rec (hval 0 53 v0 rfl rfl)
  obtain ⟨a1, rfl, rfl, rfl, w1⟩ := open_int Tryz.underlying3 (hval 1 3 v1 rfl rfl) h1
  clear hA0 hval0
  refine (booknil_walk s0 a1 W TB).mono fun e W' ⟨he, bel⟩ => ?_
  subst he
  exact ⟨_, rfl, _, _, _, [], _, [], hW', trodAll_mk1 (shut_bool Tryz.underlying4 _), (trodAll_cons_mk (Below.trod laidOut (by kernel_rfl) (of_decide_eq_true (by kernel_rfl)) k0 bel lt0) (trodAll_cons_mk (shut_int Tryz.underlying3 w1) trodAll_mk0)), rfl, bel.frame _, fun h => by cases h⟩
theorem over : Rows.bookNilRow.holds Tryz.pinned (OpenSpec.ofChange Rows.bookNilSpec) :=
  OpenClaim.holds_of_wide 9 Tryz.f9 rfl rfl rfl rfl rfl rfl rfl ⟨rfl, rfl, rfl, rfl, rfl⟩ rfl rfl rfl rfl rfl (by kernel_rfl) Tryz.func9 (by kernel_rfl)
    (of_decide_eq_true (by kernel_rfl)) (by unfold Func.isWrapper; first | (rw [if_pos (by decide +kernel)]; kernel_rfl) | (rw [if_neg (by decide +kernel)]; exact ⟨rfl, rfl⟩))
    (fun os started H enc _ => lifted os started H enc)
theorem proved : Rows.BookNilCardSaid :=
  Claim7.holds_tied_plain_at .later [] [.data, .data, .data, .data, .data, .sentinel, .sentinel] true (true, "c5c1848f9e642c3994f925240c50aea25b5ca66c5be079995ae028e73a4b7396") true over (fun _ h => by cases h) (by kernel_rfl) (fun _ h => by cases h) bookNil_row_tie rfl ⟨rfl, rfl⟩ (by kernel_rfl) rfl
    (fun f fn hf hfn => by
      obtain rfl : f = 9 := Option.some.inj ((show Tryz.prog.funcNamed Rows.bookNilRow.func = some 9 by kernel_rfl).symm.trans hf) |>.symm
      obtain rfl : fn = Tryz.f9 := (Option.some.inj (Tryz.func9.symm.trans hfn)).symm
      exact ⟨by kernel_rfl, fun j t ht => by
        rw [Tryz.params9] at ht
        have hm : t ∈ [53, 3] := by simpa using Array.mem_of_getElem? ht
        have hall : ([53, 3].all fun u => !Tryz.prog.wantsStandIn u) = true := by kernel_rfl
        exact (show Tryz.prog.wantsStandIn t = false by simpa using List.all_eq_true.1 hall t hm)⟩)
    (by kernel_rfl)
end Go.Proofs.YtnacjhnfkkddcaaGreatDoor.bookNil
