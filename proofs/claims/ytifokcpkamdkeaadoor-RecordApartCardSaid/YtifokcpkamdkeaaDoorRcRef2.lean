/-
  The document's package of layer 10: which records may be. No condition.
-/
import Derived.Test.YtifokcpkamdkeaaDoorRcRef1
import Derived.Deep.Cut
import Derived.Deep.DeepCutAuto
namespace Go.Proofs.YtifokcpkamdkeaaDoor
open Go.RowKit
set_option linter.unusedSimpArgs false
set_option linter.unusedVariables false

theorem beq_dec (x : Int) : (x == 0) = decide (x = 0) := by rw [Bool.eq_iff_iff]; simp
theorem rec_size (r : Rc.R) : (Tryd.prog.info? 26).map (·.size) = some (Rc.cells r).size := by kernel_rfl
set_option maxRecDepth 100000 in
set_option maxHeartbeats 6400000 in
theorem rcright0 (kind epoch who n seq : Int) (text : ByteArray) (sp : Spc.Sp) (hs : text.size ≤ maxLen) (hin : Spc.In sp) (w : World) (k1 : ¬ kind = 1) (k2 : ¬ kind = 2) (k3 : ¬ kind = 3) (k4 : ¬ kind = 4) (k5 : ¬ kind = 5) (k6 : ¬ kind = 6) (k7 : ¬ kind = 7) :
    Calls Tryd.prog 10 #[Rc.val (⟨kind, epoch, who, n, seq, text, sp⟩ : Rc.R)] w (APos w (.bool (Rc.right (⟨kind, epoch, who, n, seq, text, sp⟩ : Rc.R)))) := by
  have RA := Lib.hid (RcAt.new w (⟨kind, epoch, who, n, seq, text, sp⟩ : Rc.R))
  have B1 := Lib.hid ((Below.refl w.heap.size w).alloc (Nat.le_refl _) (.cells (Rc.cells (⟨kind, epoch, who, n, seq, text, sp⟩ : Rc.R)) 26))
  have hne := fun W => spec_neq sp Spc.zero W
  have hgd := spec_guard
  have EP : Hid (Rc.plain (⟨kind, epoch, who, n, seq, text, sp⟩ : Rc.R) = Spc.same sp Spc.zero) := by
    show _ = _
    rw [Bool.eq_iff_iff, Rc.plain_iff, Spc.same_iff]
  have ER : Hid (Rc.right (⟨kind, epoch, who, n, seq, text, sp⟩ : Rc.R) = (Spc.inn epoch 1 1099511627776 && false)) := by
    show _ = _
    unfold Rc.right
    simp only [if_neg k1, if_neg k2, if_neg k3, if_neg k4, if_neg k5, if_neg k6, if_neg k7]
  rw [ER.out]
  clear ER
  obtain ⟨ans, hans⟩ : ∃ ans, ans = (Spc.inn epoch 1 1099511627776 && false) := ⟨_, rfl⟩
  rw [← hans]
  have HANS := Lib.hid hans
  clear hans
  clear EP
  generalize Spc.same sp Spc.zero = pb at *
  unfold Rc.val at *
  unfold Spc.val Spc.cells at hne
  unfold Spc.zero at hne
  simp only at hne
  go_enter Tryd.func10, Tryd.ntmps10
  go_upto_region 1 with fail
  obtain ⟨g, hg⟩ : ∃ g, g = w.heap.size := ⟨_, rfl⟩
  rw [← hg] at RA ⊢
  clear hg
  generalize w.alloc (.cells (Rc.cells (⟨kind, epoch, who, n, seq, text, sp⟩ : Rc.R)) 26) = ws at *
  obtain ⟨c0, c1, c2, c3, c4, c5, c6, c7, c8, c9, c10, c11, c12, c13, c14, c15, c16, c17, clt⟩ := RA.out.cs
  simp only at c0 c1 c2 c3 c4 c5 c6 c7 c8 c9 c10 c11 c12 c13 c14 c15 c16 c17
  cases pb
  all_goals
   go_wp2_with (first
    | (go_at_call 27; (with_reducible refine (rcin_any _ _ _ _).mono ?_); rintro e w1 ⟨rfl, rfl⟩; generalize hbb : Spc.inn _ _ _ = bb; cases bb))
  all_goals
    go_ret
    refine ⟨?_, B1.out⟩
    show Ending.returned (.bool _) = _
    refine congrArg (fun b => Ending.returned (.bool b)) ?_
    rw [HANS.out]
    first
      | (simp [*]; done)
      | (simp [*]; exact beq_dec _)
set_option maxRecDepth 100000 in
set_option maxHeartbeats 6400000 in
theorem rcright1 (epoch who n seq : Int) (text : ByteArray) (sp : Spc.Sp) (hs : text.size ≤ maxLen) (hin : Spc.In sp) (w : World) :
    Calls Tryd.prog 10 #[Rc.val (⟨1, epoch, who, n, seq, text, sp⟩ : Rc.R)] w (APos w (.bool (Rc.right (⟨1, epoch, who, n, seq, text, sp⟩ : Rc.R)))) := by
  have RA := Lib.hid (RcAt.new w (⟨1, epoch, who, n, seq, text, sp⟩ : Rc.R))
  have B1 := Lib.hid ((Below.refl w.heap.size w).alloc (Nat.le_refl _) (.cells (Rc.cells (⟨1, epoch, who, n, seq, text, sp⟩ : Rc.R)) 26))
  have CB : Hid (∀ W, Calls Tryd.prog 28 #[Rc.val (⟨1, epoch, who, n, seq, text, sp⟩ : Rc.R), .bool false] W (APos W (.bool (Rc.bare (⟨1, epoch, who, n, seq, text, sp⟩ : Rc.R))))) := fun W => rcbare_no _ W
  have hne := fun W => spec_neq sp Spc.zero W
  have hgd := spec_guard
  have EP : Hid (Rc.plain (⟨1, epoch, who, n, seq, text, sp⟩ : Rc.R) = Spc.same sp Spc.zero) := by
    show _ = _
    rw [Bool.eq_iff_iff, Rc.plain_iff, Spc.same_iff]
  have ER : Hid (Rc.right (⟨1, epoch, who, n, seq, text, sp⟩ : Rc.R) = (Spc.inn epoch 1 1099511627776 && (Rc.plain (⟨1, epoch, who, n, seq, text, sp⟩ : Rc.R) && (Rc.bare (⟨1, epoch, who, n, seq, text, sp⟩ : Rc.R) && (Spc.inn who 0 63 && (Spc.inn n 0 1099511627776 && Spc.inn seq 1 1048576)))))) := by
    show _ = _
    unfold Rc.right
    simp only [if_true]
  rw [EP.out] at ER
  rw [ER.out]
  clear ER
  obtain ⟨ans, hans⟩ : ∃ ans, ans = (Spc.inn epoch 1 1099511627776 && (Spc.same sp Spc.zero && (Rc.bare (⟨1, epoch, who, n, seq, text, sp⟩ : Rc.R) && (Spc.inn who 0 63 && (Spc.inn n 0 1099511627776 && Spc.inn seq 1 1048576))))) := ⟨_, rfl⟩
  rw [← hans]
  have HANS := Lib.hid hans
  clear hans
  generalize Rc.bare (⟨1, epoch, who, n, seq, text, sp⟩ : Rc.R) = tb at *
  clear EP
  generalize Spc.same sp Spc.zero = pb at *
  unfold Rc.val at *
  unfold Spc.val Spc.cells at hne
  unfold Spc.zero at hne
  simp only at hne
  have HSZ : Hid ((Tryd.prog.info? 26).map (·.size) = some (Rc.cells (⟨1, epoch, who, n, seq, text, sp⟩ : Rc.R)).size) := rec_size _
  go_enter Tryd.func10, Tryd.ntmps10
  go_upto_region 1 with fail
  obtain ⟨g, hg⟩ : ∃ g, g = w.heap.size := ⟨_, rfl⟩
  rw [← hg] at RA ⊢
  clear hg
  generalize w.alloc (.cells (Rc.cells (⟨1, epoch, who, n, seq, text, sp⟩ : Rc.R)) 26) = ws at *
  obtain ⟨c0, c1, c2, c3, c4, c5, c6, c7, c8, c9, c10, c11, c12, c13, c14, c15, c16, c17, clt⟩ := RA.out.cs
  simp only at c0 c1 c2 c3 c4 c5 c6 c7 c8 c9 c10 c11 c12 c13 c14 c15 c16 c17
  cases pb
  all_goals
   go_wp2_with (first
    | (go_at_call 27; (with_reducible refine (rcin_any _ _ _ _).mono ?_); rintro e w1 ⟨rfl, rfl⟩; generalize hbb : Spc.inn _ _ _ = bb; cases bb)
    | ((with_reducible show wpList _ _ _ ({ dst := some 33, op := .load _ _, type := _, pos := _, after := _, guard := _ } :: _) _ _); refine wpList_load_row rfl 26 (.tmp 1) rfl g rfl 26 _ (0, 0) _ RA.out.row rec_fields rfl HSZ.out ?_)
    | (go_at_call 28; (with_reducible refine (CB.out _).mono ?_); rintro e w2 ⟨rfl, hb2⟩; have RA := Lib.hid (RA.out.on hb2); have B1 := Lib.hid (B1.out.trans (hb2.mono B1.out.size)); clear hb2 c0 c1 c2 c3 c4 c5 c6 c7 c8 c9 c10 c11 c12 c13 c14 c15 c16 c17 clt; obtain ⟨c0, c1, c2, c3, c4, c5, c6, c7, c8, c9, c10, c11, c12, c13, c14, c15, c16, c17, clt⟩ := RA.out.cs; simp only at c0 c1 c2 c3 c4 c5 c6 c7 c8 c9 c10 c11 c12 c13 c14 c15 c16 c17; cases tb))
  all_goals
    go_ret
    refine ⟨?_, B1.out⟩
    show Ending.returned (.bool _) = _
    refine congrArg (fun b => Ending.returned (.bool b)) ?_
    rw [HANS.out]
    first
      | (simp [*]; done)
      | (simp [*]; exact beq_dec _)
set_option maxRecDepth 100000 in
set_option maxHeartbeats 6400000 in
theorem rcright2 (epoch who n seq : Int) (text : ByteArray) (sp : Spc.Sp) (hs : text.size ≤ maxLen) (hin : Spc.In sp) (w : World) :
    Calls Tryd.prog 10 #[Rc.val (⟨2, epoch, who, n, seq, text, sp⟩ : Rc.R)] w (APos w (.bool (Rc.right (⟨2, epoch, who, n, seq, text, sp⟩ : Rc.R)))) := by
  have RA := Lib.hid (RcAt.new w (⟨2, epoch, who, n, seq, text, sp⟩ : Rc.R))
  have B1 := Lib.hid ((Below.refl w.heap.size w).alloc (Nat.le_refl _) (.cells (Rc.cells (⟨2, epoch, who, n, seq, text, sp⟩ : Rc.R)) 26))
  have CB : Hid (∀ W, Calls Tryd.prog 28 #[Rc.val (⟨2, epoch, who, n, seq, text, sp⟩ : Rc.R), .bool true] W (APos W (.bool (Rc.told (⟨2, epoch, who, n, seq, text, sp⟩ : Rc.R))))) := fun W => rcbare_yes _ W hs
  have hne := fun W => spec_neq sp Spc.zero W
  have hgd := spec_guard
  have EP : Hid (Rc.plain (⟨2, epoch, who, n, seq, text, sp⟩ : Rc.R) = Spc.same sp Spc.zero) := by
    show _ = _
    rw [Bool.eq_iff_iff, Rc.plain_iff, Spc.same_iff]
  have ER : Hid (Rc.right (⟨2, epoch, who, n, seq, text, sp⟩ : Rc.R) = (Spc.inn epoch 1 1099511627776 && (Rc.plain (⟨2, epoch, who, n, seq, text, sp⟩ : Rc.R) && (Rc.told (⟨2, epoch, who, n, seq, text, sp⟩ : Rc.R) && (decide (who = 0) && (Spc.inn n 1 1048576 && decide (seq = 0))))))) := by
    show _ = _
    unfold Rc.right
    simp only [if_true, if_neg (show ¬ (2 : Int) = 1 by omega)]
  rw [EP.out] at ER
  rw [ER.out]
  clear ER
  obtain ⟨ans, hans⟩ : ∃ ans, ans = (Spc.inn epoch 1 1099511627776 && (Spc.same sp Spc.zero && (Rc.told (⟨2, epoch, who, n, seq, text, sp⟩ : Rc.R) && (decide (who = 0) && (Spc.inn n 1 1048576 && decide (seq = 0)))))) := ⟨_, rfl⟩
  rw [← hans]
  have HANS := Lib.hid hans
  clear hans
  generalize Rc.told (⟨2, epoch, who, n, seq, text, sp⟩ : Rc.R) = tb at *
  clear EP
  generalize Spc.same sp Spc.zero = pb at *
  unfold Rc.val at *
  unfold Spc.val Spc.cells at hne
  unfold Spc.zero at hne
  simp only at hne
  have HSZ : Hid ((Tryd.prog.info? 26).map (·.size) = some (Rc.cells (⟨2, epoch, who, n, seq, text, sp⟩ : Rc.R)).size) := rec_size _
  go_enter Tryd.func10, Tryd.ntmps10
  go_upto_region 1 with fail
  obtain ⟨g, hg⟩ : ∃ g, g = w.heap.size := ⟨_, rfl⟩
  rw [← hg] at RA ⊢
  clear hg
  generalize w.alloc (.cells (Rc.cells (⟨2, epoch, who, n, seq, text, sp⟩ : Rc.R)) 26) = ws at *
  obtain ⟨c0, c1, c2, c3, c4, c5, c6, c7, c8, c9, c10, c11, c12, c13, c14, c15, c16, c17, clt⟩ := RA.out.cs
  simp only at c0 c1 c2 c3 c4 c5 c6 c7 c8 c9 c10 c11 c12 c13 c14 c15 c16 c17
  cases pb
  all_goals
   go_wp2_with (first
    | (go_at_call 27; (with_reducible refine (rcin_any _ _ _ _).mono ?_); rintro e w1 ⟨rfl, rfl⟩; generalize hbb : Spc.inn _ _ _ = bb; cases bb)
    | ((with_reducible show wpList _ _ _ ({ dst := some 54, op := .load _ _, type := _, pos := _, after := _, guard := _ } :: _) _ _); refine wpList_load_row rfl 26 (.tmp 1) rfl g rfl 26 _ (0, 0) _ RA.out.row rec_fields rfl HSZ.out ?_)
    | (go_at_call 28; (with_reducible refine (CB.out _).mono ?_); rintro e w2 ⟨rfl, hb2⟩; have RA := Lib.hid (RA.out.on hb2); have B1 := Lib.hid (B1.out.trans (hb2.mono B1.out.size)); clear hb2 c0 c1 c2 c3 c4 c5 c6 c7 c8 c9 c10 c11 c12 c13 c14 c15 c16 c17 clt; obtain ⟨c0, c1, c2, c3, c4, c5, c6, c7, c8, c9, c10, c11, c12, c13, c14, c15, c16, c17, clt⟩ := RA.out.cs; simp only at c0 c1 c2 c3 c4 c5 c6 c7 c8 c9 c10 c11 c12 c13 c14 c15 c16 c17; cases tb))
  all_goals
    go_ret
    refine ⟨?_, B1.out⟩
    show Ending.returned (.bool _) = _
    refine congrArg (fun b => Ending.returned (.bool b)) ?_
    rw [HANS.out]
    first
      | (simp [*]; done)
      | (simp [*]; exact beq_dec _)
set_option maxRecDepth 100000 in
set_option maxHeartbeats 6400000 in
theorem rcright3 (epoch who n seq : Int) (text : ByteArray) (sp : Spc.Sp) (hs : text.size ≤ maxLen) (hin : Spc.In sp) (w : World) :
    Calls Tryd.prog 10 #[Rc.val (⟨3, epoch, who, n, seq, text, sp⟩ : Rc.R)] w (APos w (.bool (Rc.right (⟨3, epoch, who, n, seq, text, sp⟩ : Rc.R)))) := by
  have RA := Lib.hid (RcAt.new w (⟨3, epoch, who, n, seq, text, sp⟩ : Rc.R))
  have B1 := Lib.hid ((Below.refl w.heap.size w).alloc (Nat.le_refl _) (.cells (Rc.cells (⟨3, epoch, who, n, seq, text, sp⟩ : Rc.R)) 26))
  have CB : Hid (∀ W, Calls Tryd.prog 28 #[Rc.val (⟨3, epoch, who, n, seq, text, sp⟩ : Rc.R), .bool false] W (APos W (.bool (Rc.bare (⟨3, epoch, who, n, seq, text, sp⟩ : Rc.R))))) := fun W => rcbare_no _ W
  have CC : Hid (∀ W, Calls Tryd.prog 29 #[Spc.val sp] W (CPost sp W)) := fun W => rcheck_any sp hin W
  unfold CPost at CC
  have EC : Hid (decide (Spc.chk sp = 0) = (Spc.chkE sp == 0)) := by
    show _ = _
    unfold Spc.chkE
    by_cases h : Spc.chk sp = 0
    · rw [if_pos h]; simp [h]
    · rw [if_neg h]; simp [h]
  have ER : Hid (Rc.right (⟨3, epoch, who, n, seq, text, sp⟩ : Rc.R) = (Spc.inn epoch 1 1099511627776 && (Rc.bare (⟨3, epoch, who, n, seq, text, sp⟩ : Rc.R) && (decide (who = 0) && (Spc.inn n 0 1099511627776 && (decide (seq = 0) && decide (Spc.chk sp = 0))))))) := by
    show _ = _
    unfold Rc.right
    simp only [if_true, if_neg (show ¬ (3 : Int) = 1 by omega), if_neg (show ¬ (3 : Int) = 2 by omega)]
  rw [EC.out] at ER
  rw [ER.out]
  clear ER
  obtain ⟨ans, hans⟩ : ∃ ans, ans = (Spc.inn epoch 1 1099511627776 && (Rc.bare (⟨3, epoch, who, n, seq, text, sp⟩ : Rc.R) && (decide (who = 0) && (Spc.inn n 0 1099511627776 && (decide (seq = 0) && (Spc.chkE sp == 0)))))) := ⟨_, rfl⟩
  rw [← hans]
  have HANS := Lib.hid hans
  clear hans
  generalize Rc.bare (⟨3, epoch, who, n, seq, text, sp⟩ : Rc.R) = tb at *
  clear EC
  generalize Spc.chkE sp = ce at *
  unfold Rc.val at *
  unfold Spc.val Spc.cells at *
  have HSZ : Hid ((Tryd.prog.info? 26).map (·.size) = some (Rc.cells (⟨3, epoch, who, n, seq, text, sp⟩ : Rc.R)).size) := rec_size _
  go_enter Tryd.func10, Tryd.ntmps10
  go_upto_region 1 with fail
  obtain ⟨g, hg⟩ : ∃ g, g = w.heap.size := ⟨_, rfl⟩
  rw [← hg] at RA ⊢
  clear hg
  generalize w.alloc (.cells (Rc.cells (⟨3, epoch, who, n, seq, text, sp⟩ : Rc.R)) 26) = ws at *
  obtain ⟨c0, c1, c2, c3, c4, c5, c6, c7, c8, c9, c10, c11, c12, c13, c14, c15, c16, c17, clt⟩ := RA.out.cs
  simp only at c0 c1 c2 c3 c4 c5 c6 c7 c8 c9 c10 c11 c12 c13 c14 c15 c16 c17
  all_goals
   go_wp2_with (first
    | (go_at_call 27; (with_reducible refine (rcin_any _ _ _ _).mono ?_); rintro e w1 ⟨rfl, rfl⟩; generalize hbb : Spc.inn _ _ _ = bb; cases bb)
    | ((with_reducible show wpList _ _ _ ({ dst := some 74, op := .load _ _, type := _, pos := _, after := _, guard := _ } :: _) _ _); refine wpList_load_row rfl 26 (.tmp 1) rfl g rfl 26 _ (0, 0) _ RA.out.row rec_fields rfl HSZ.out ?_)
    | (go_at_call 28; (with_reducible refine (CB.out _).mono ?_); rintro e w2 ⟨rfl, hb2⟩; have RA := Lib.hid (RA.out.on hb2); have B1 := Lib.hid (B1.out.trans (hb2.mono B1.out.size)); clear hb2 c0 c1 c2 c3 c4 c5 c6 c7 c8 c9 c10 c11 c12 c13 c14 c15 c16 c17 clt; obtain ⟨c0, c1, c2, c3, c4, c5, c6, c7, c8, c9, c10, c11, c12, c13, c14, c15, c16, c17, clt⟩ := RA.out.cs; simp only at c0 c1 c2 c3 c4 c5 c6 c7 c8 c9 c10 c11 c12 c13 c14 c15 c16 c17; cases tb)
    | (go_at_call 29; (with_reducible refine (CC.out _).mono ?_); rintro e w2 ⟨rfl, hb2⟩; have RA := Lib.hid (RA.out.on hb2); have B1 := Lib.hid (B1.out.trans (hb2.mono B1.out.size)); clear hb2 c0 c1 c2 c3 c4 c5 c6 c7 c8 c9 c10 c11 c12 c13 c14 c15 c16 c17 clt; obtain ⟨c0, c1, c2, c3, c4, c5, c6, c7, c8, c9, c10, c11, c12, c13, c14, c15, c16, c17, clt⟩ := RA.out.cs; simp only at c0 c1 c2 c3 c4 c5 c6 c7 c8 c9 c10 c11 c12 c13 c14 c15 c16 c17))
  all_goals
    go_ret
    refine ⟨?_, B1.out⟩
    show Ending.returned (.bool _) = _
    refine congrArg (fun b => Ending.returned (.bool b)) ?_
    rw [HANS.out]
    first
      | (simp [*]; done)
      | (simp [*]; exact beq_dec _)
set_option maxRecDepth 100000 in
set_option maxHeartbeats 6400000 in
theorem rcright4 (epoch who n seq : Int) (text : ByteArray) (sp : Spc.Sp) (hs : text.size ≤ maxLen) (hin : Spc.In sp) (w : World) :
    Calls Tryd.prog 10 #[Rc.val (⟨4, epoch, who, n, seq, text, sp⟩ : Rc.R)] w (APos w (.bool (Rc.right (⟨4, epoch, who, n, seq, text, sp⟩ : Rc.R)))) := by
  have RA := Lib.hid (RcAt.new w (⟨4, epoch, who, n, seq, text, sp⟩ : Rc.R))
  have B1 := Lib.hid ((Below.refl w.heap.size w).alloc (Nat.le_refl _) (.cells (Rc.cells (⟨4, epoch, who, n, seq, text, sp⟩ : Rc.R)) 26))
  have CB : Hid (∀ W, Calls Tryd.prog 28 #[Rc.val (⟨4, epoch, who, n, seq, text, sp⟩ : Rc.R), .bool true] W (APos W (.bool (Rc.told (⟨4, epoch, who, n, seq, text, sp⟩ : Rc.R))))) := fun W => rcbare_yes _ W hs
  have hne := fun W => spec_neq sp Spc.zero W
  have hgd := spec_guard
  have EP : Hid (Rc.plain (⟨4, epoch, who, n, seq, text, sp⟩ : Rc.R) = Spc.same sp Spc.zero) := by
    show _ = _
    rw [Bool.eq_iff_iff, Rc.plain_iff, Spc.same_iff]
  have ER : Hid (Rc.right (⟨4, epoch, who, n, seq, text, sp⟩ : Rc.R) = (Spc.inn epoch 1 1099511627776 && (Rc.plain (⟨4, epoch, who, n, seq, text, sp⟩ : Rc.R) && (Rc.told (⟨4, epoch, who, n, seq, text, sp⟩ : Rc.R) && (decide (who = 0) && (Spc.inn n 1 5 && decide (seq = 0))))))) := by
    show _ = _
    unfold Rc.right
    simp only [if_true, if_neg (show ¬ (4 : Int) = 1 by omega), if_neg (show ¬ (4 : Int) = 2 by omega), if_neg (show ¬ (4 : Int) = 3 by omega)]
  rw [EP.out] at ER
  rw [ER.out]
  clear ER
  obtain ⟨ans, hans⟩ : ∃ ans, ans = (Spc.inn epoch 1 1099511627776 && (Spc.same sp Spc.zero && (Rc.told (⟨4, epoch, who, n, seq, text, sp⟩ : Rc.R) && (decide (who = 0) && (Spc.inn n 1 5 && decide (seq = 0)))))) := ⟨_, rfl⟩
  rw [← hans]
  have HANS := Lib.hid hans
  clear hans
  generalize Rc.told (⟨4, epoch, who, n, seq, text, sp⟩ : Rc.R) = tb at *
  clear EP
  generalize Spc.same sp Spc.zero = pb at *
  unfold Rc.val at *
  unfold Spc.val Spc.cells at hne
  unfold Spc.zero at hne
  simp only at hne
  have HSZ : Hid ((Tryd.prog.info? 26).map (·.size) = some (Rc.cells (⟨4, epoch, who, n, seq, text, sp⟩ : Rc.R)).size) := rec_size _
  go_enter Tryd.func10, Tryd.ntmps10
  go_upto_region 1 with fail
  obtain ⟨g, hg⟩ : ∃ g, g = w.heap.size := ⟨_, rfl⟩
  rw [← hg] at RA ⊢
  clear hg
  generalize w.alloc (.cells (Rc.cells (⟨4, epoch, who, n, seq, text, sp⟩ : Rc.R)) 26) = ws at *
  obtain ⟨c0, c1, c2, c3, c4, c5, c6, c7, c8, c9, c10, c11, c12, c13, c14, c15, c16, c17, clt⟩ := RA.out.cs
  simp only at c0 c1 c2 c3 c4 c5 c6 c7 c8 c9 c10 c11 c12 c13 c14 c15 c16 c17
  cases pb
  all_goals
   go_wp2_with (first
    | (go_at_call 27; (with_reducible refine (rcin_any _ _ _ _).mono ?_); rintro e w1 ⟨rfl, rfl⟩; generalize hbb : Spc.inn _ _ _ = bb; cases bb)
    | ((with_reducible show wpList _ _ _ ({ dst := some 105, op := .load _ _, type := _, pos := _, after := _, guard := _ } :: _) _ _); refine wpList_load_row rfl 26 (.tmp 1) rfl g rfl 26 _ (0, 0) _ RA.out.row rec_fields rfl HSZ.out ?_)
    | (go_at_call 28; (with_reducible refine (CB.out _).mono ?_); rintro e w2 ⟨rfl, hb2⟩; have RA := Lib.hid (RA.out.on hb2); have B1 := Lib.hid (B1.out.trans (hb2.mono B1.out.size)); clear hb2 c0 c1 c2 c3 c4 c5 c6 c7 c8 c9 c10 c11 c12 c13 c14 c15 c16 c17 clt; obtain ⟨c0, c1, c2, c3, c4, c5, c6, c7, c8, c9, c10, c11, c12, c13, c14, c15, c16, c17, clt⟩ := RA.out.cs; simp only at c0 c1 c2 c3 c4 c5 c6 c7 c8 c9 c10 c11 c12 c13 c14 c15 c16 c17; cases tb))
  all_goals
    go_ret
    refine ⟨?_, B1.out⟩
    show Ending.returned (.bool _) = _
    refine congrArg (fun b => Ending.returned (.bool b)) ?_
    rw [HANS.out]
    first
      | (simp [*]; done)
      | (simp [*]; exact beq_dec _)
set_option maxRecDepth 100000 in
set_option maxHeartbeats 6400000 in
theorem rcright5 (epoch who n seq : Int) (text : ByteArray) (sp : Spc.Sp) (hs : text.size ≤ maxLen) (hin : Spc.In sp) (w : World) :
    Calls Tryd.prog 10 #[Rc.val (⟨5, epoch, who, n, seq, text, sp⟩ : Rc.R)] w (APos w (.bool (Rc.right (⟨5, epoch, who, n, seq, text, sp⟩ : Rc.R)))) := by
  have RA := Lib.hid (RcAt.new w (⟨5, epoch, who, n, seq, text, sp⟩ : Rc.R))
  have B1 := Lib.hid ((Below.refl w.heap.size w).alloc (Nat.le_refl _) (.cells (Rc.cells (⟨5, epoch, who, n, seq, text, sp⟩ : Rc.R)) 26))
  have CB : Hid (∀ W, Calls Tryd.prog 28 #[Rc.val (⟨5, epoch, who, n, seq, text, sp⟩ : Rc.R), .bool false] W (APos W (.bool (Rc.bare (⟨5, epoch, who, n, seq, text, sp⟩ : Rc.R))))) := fun W => rcbare_no _ W
  have hne := fun W => spec_neq sp Spc.zero W
  have hgd := spec_guard
  have EP : Hid (Rc.plain (⟨5, epoch, who, n, seq, text, sp⟩ : Rc.R) = Spc.same sp Spc.zero) := by
    show _ = _
    rw [Bool.eq_iff_iff, Rc.plain_iff, Spc.same_iff]
  have ER : Hid (Rc.right (⟨5, epoch, who, n, seq, text, sp⟩ : Rc.R) = (Spc.inn epoch 1 1099511627776 && (Rc.plain (⟨5, epoch, who, n, seq, text, sp⟩ : Rc.R) && (Rc.bare (⟨5, epoch, who, n, seq, text, sp⟩ : Rc.R) && (Spc.inn who 0 15 && (Spc.inn n 0 1048576 && Spc.inn seq 1 1099511627776)))))) := by
    show _ = _
    unfold Rc.right
    simp only [if_true, if_neg (show ¬ (5 : Int) = 1 by omega), if_neg (show ¬ (5 : Int) = 2 by omega), if_neg (show ¬ (5 : Int) = 3 by omega), if_neg (show ¬ (5 : Int) = 4 by omega)]
  rw [EP.out] at ER
  rw [ER.out]
  clear ER
  obtain ⟨ans, hans⟩ : ∃ ans, ans = (Spc.inn epoch 1 1099511627776 && (Spc.same sp Spc.zero && (Rc.bare (⟨5, epoch, who, n, seq, text, sp⟩ : Rc.R) && (Spc.inn who 0 15 && (Spc.inn n 0 1048576 && Spc.inn seq 1 1099511627776))))) := ⟨_, rfl⟩
  rw [← hans]
  have HANS := Lib.hid hans
  clear hans
  generalize Rc.bare (⟨5, epoch, who, n, seq, text, sp⟩ : Rc.R) = tb at *
  clear EP
  generalize Spc.same sp Spc.zero = pb at *
  unfold Rc.val at *
  unfold Spc.val Spc.cells at hne
  unfold Spc.zero at hne
  simp only at hne
  have HSZ : Hid ((Tryd.prog.info? 26).map (·.size) = some (Rc.cells (⟨5, epoch, who, n, seq, text, sp⟩ : Rc.R)).size) := rec_size _
  go_enter Tryd.func10, Tryd.ntmps10
  go_upto_region 1 with fail
  obtain ⟨g, hg⟩ : ∃ g, g = w.heap.size := ⟨_, rfl⟩
  rw [← hg] at RA ⊢
  clear hg
  generalize w.alloc (.cells (Rc.cells (⟨5, epoch, who, n, seq, text, sp⟩ : Rc.R)) 26) = ws at *
  obtain ⟨c0, c1, c2, c3, c4, c5, c6, c7, c8, c9, c10, c11, c12, c13, c14, c15, c16, c17, clt⟩ := RA.out.cs
  simp only at c0 c1 c2 c3 c4 c5 c6 c7 c8 c9 c10 c11 c12 c13 c14 c15 c16 c17
  cases pb
  all_goals
   go_wp2_with (first
    | (go_at_call 27; (with_reducible refine (rcin_any _ _ _ _).mono ?_); rintro e w1 ⟨rfl, rfl⟩; generalize hbb : Spc.inn _ _ _ = bb; cases bb)
    | ((with_reducible show wpList _ _ _ ({ dst := some 125, op := .load _ _, type := _, pos := _, after := _, guard := _ } :: _) _ _); refine wpList_load_row rfl 26 (.tmp 1) rfl g rfl 26 _ (0, 0) _ RA.out.row rec_fields rfl HSZ.out ?_)
    | (go_at_call 28; (with_reducible refine (CB.out _).mono ?_); rintro e w2 ⟨rfl, hb2⟩; have RA := Lib.hid (RA.out.on hb2); have B1 := Lib.hid (B1.out.trans (hb2.mono B1.out.size)); clear hb2 c0 c1 c2 c3 c4 c5 c6 c7 c8 c9 c10 c11 c12 c13 c14 c15 c16 c17 clt; obtain ⟨c0, c1, c2, c3, c4, c5, c6, c7, c8, c9, c10, c11, c12, c13, c14, c15, c16, c17, clt⟩ := RA.out.cs; simp only at c0 c1 c2 c3 c4 c5 c6 c7 c8 c9 c10 c11 c12 c13 c14 c15 c16 c17; cases tb))
  all_goals
    go_ret
    refine ⟨?_, B1.out⟩
    show Ending.returned (.bool _) = _
    refine congrArg (fun b => Ending.returned (.bool b)) ?_
    rw [HANS.out]
    first
      | (simp [*]; done)
      | (simp [*]; exact beq_dec _)
set_option maxRecDepth 100000 in
set_option maxHeartbeats 6400000 in
theorem rcright6 (epoch who n seq : Int) (text : ByteArray) (sp : Spc.Sp) (hs : text.size ≤ maxLen) (hin : Spc.In sp) (w : World) :
    Calls Tryd.prog 10 #[Rc.val (⟨6, epoch, who, n, seq, text, sp⟩ : Rc.R)] w (APos w (.bool (Rc.right (⟨6, epoch, who, n, seq, text, sp⟩ : Rc.R)))) := by
  have RA := Lib.hid (RcAt.new w (⟨6, epoch, who, n, seq, text, sp⟩ : Rc.R))
  have B1 := Lib.hid ((Below.refl w.heap.size w).alloc (Nat.le_refl _) (.cells (Rc.cells (⟨6, epoch, who, n, seq, text, sp⟩ : Rc.R)) 26))
  have CB : Hid (∀ W, Calls Tryd.prog 28 #[Rc.val (⟨6, epoch, who, n, seq, text, sp⟩ : Rc.R), .bool false] W (APos W (.bool (Rc.bare (⟨6, epoch, who, n, seq, text, sp⟩ : Rc.R))))) := fun W => rcbare_no _ W
  have hne := fun W => spec_neq sp Spc.zero W
  have hgd := spec_guard
  have EP : Hid (Rc.plain (⟨6, epoch, who, n, seq, text, sp⟩ : Rc.R) = Spc.same sp Spc.zero) := by
    show _ = _
    rw [Bool.eq_iff_iff, Rc.plain_iff, Spc.same_iff]
  have ER : Hid (Rc.right (⟨6, epoch, who, n, seq, text, sp⟩ : Rc.R) = (Spc.inn epoch 1 1099511627776 && (Rc.plain (⟨6, epoch, who, n, seq, text, sp⟩ : Rc.R) && (Rc.bare (⟨6, epoch, who, n, seq, text, sp⟩ : Rc.R) && (Spc.inn who 0 15 && (decide (n = 0) && Spc.inn seq 1 1099511627776)))))) := by
    show _ = _
    unfold Rc.right
    simp only [if_true, if_neg (show ¬ (6 : Int) = 1 by omega), if_neg (show ¬ (6 : Int) = 2 by omega), if_neg (show ¬ (6 : Int) = 3 by omega), if_neg (show ¬ (6 : Int) = 4 by omega), if_neg (show ¬ (6 : Int) = 5 by omega)]
  rw [EP.out] at ER
  rw [ER.out]
  clear ER
  obtain ⟨ans, hans⟩ : ∃ ans, ans = (Spc.inn epoch 1 1099511627776 && (Spc.same sp Spc.zero && (Rc.bare (⟨6, epoch, who, n, seq, text, sp⟩ : Rc.R) && (Spc.inn who 0 15 && (decide (n = 0) && Spc.inn seq 1 1099511627776))))) := ⟨_, rfl⟩
  rw [← hans]
  have HANS := Lib.hid hans
  clear hans
  generalize Rc.bare (⟨6, epoch, who, n, seq, text, sp⟩ : Rc.R) = tb at *
  clear EP
  generalize Spc.same sp Spc.zero = pb at *
  unfold Rc.val at *
  unfold Spc.val Spc.cells at hne
  unfold Spc.zero at hne
  simp only at hne
  have HSZ : Hid ((Tryd.prog.info? 26).map (·.size) = some (Rc.cells (⟨6, epoch, who, n, seq, text, sp⟩ : Rc.R)).size) := rec_size _
  go_enter Tryd.func10, Tryd.ntmps10
  go_upto_region 1 with fail
  obtain ⟨g, hg⟩ : ∃ g, g = w.heap.size := ⟨_, rfl⟩
  rw [← hg] at RA ⊢
  clear hg
  generalize w.alloc (.cells (Rc.cells (⟨6, epoch, who, n, seq, text, sp⟩ : Rc.R)) 26) = ws at *
  obtain ⟨c0, c1, c2, c3, c4, c5, c6, c7, c8, c9, c10, c11, c12, c13, c14, c15, c16, c17, clt⟩ := RA.out.cs
  simp only at c0 c1 c2 c3 c4 c5 c6 c7 c8 c9 c10 c11 c12 c13 c14 c15 c16 c17
  cases pb
  all_goals
   go_wp2_with (first
    | (go_at_call 27; (with_reducible refine (rcin_any _ _ _ _).mono ?_); rintro e w1 ⟨rfl, rfl⟩; generalize hbb : Spc.inn _ _ _ = bb; cases bb)
    | ((with_reducible show wpList _ _ _ ({ dst := some 146, op := .load _ _, type := _, pos := _, after := _, guard := _ } :: _) _ _); refine wpList_load_row rfl 26 (.tmp 1) rfl g rfl 26 _ (0, 0) _ RA.out.row rec_fields rfl HSZ.out ?_)
    | (go_at_call 28; (with_reducible refine (CB.out _).mono ?_); rintro e w2 ⟨rfl, hb2⟩; have RA := Lib.hid (RA.out.on hb2); have B1 := Lib.hid (B1.out.trans (hb2.mono B1.out.size)); clear hb2 c0 c1 c2 c3 c4 c5 c6 c7 c8 c9 c10 c11 c12 c13 c14 c15 c16 c17 clt; obtain ⟨c0, c1, c2, c3, c4, c5, c6, c7, c8, c9, c10, c11, c12, c13, c14, c15, c16, c17, clt⟩ := RA.out.cs; simp only at c0 c1 c2 c3 c4 c5 c6 c7 c8 c9 c10 c11 c12 c13 c14 c15 c16 c17; cases tb))
  all_goals
    go_ret
    refine ⟨?_, B1.out⟩
    show Ending.returned (.bool _) = _
    refine congrArg (fun b => Ending.returned (.bool b)) ?_
    rw [HANS.out]
    first
      | (simp [*]; done)
      | (simp [*]; exact beq_dec _)
set_option maxRecDepth 100000 in
set_option maxHeartbeats 6400000 in
theorem rcright7 (epoch who n seq : Int) (text : ByteArray) (sp : Spc.Sp) (hs : text.size ≤ maxLen) (hin : Spc.In sp) (w : World) :
    Calls Tryd.prog 10 #[Rc.val (⟨7, epoch, who, n, seq, text, sp⟩ : Rc.R)] w (APos w (.bool (Rc.right (⟨7, epoch, who, n, seq, text, sp⟩ : Rc.R)))) := by
  have RA := Lib.hid (RcAt.new w (⟨7, epoch, who, n, seq, text, sp⟩ : Rc.R))
  have B1 := Lib.hid ((Below.refl w.heap.size w).alloc (Nat.le_refl _) (.cells (Rc.cells (⟨7, epoch, who, n, seq, text, sp⟩ : Rc.R)) 26))
  have CB : Hid (∀ W, Calls Tryd.prog 28 #[Rc.val (⟨7, epoch, who, n, seq, text, sp⟩ : Rc.R), .bool true] W (APos W (.bool (Rc.told (⟨7, epoch, who, n, seq, text, sp⟩ : Rc.R))))) := fun W => rcbare_yes _ W hs
  have hne := fun W => spec_neq sp Spc.zero W
  have hgd := spec_guard
  have EP : Hid (Rc.plain (⟨7, epoch, who, n, seq, text, sp⟩ : Rc.R) = Spc.same sp Spc.zero) := by
    show _ = _
    rw [Bool.eq_iff_iff, Rc.plain_iff, Spc.same_iff]
  have ER : Hid (Rc.right (⟨7, epoch, who, n, seq, text, sp⟩ : Rc.R) = (Spc.inn epoch 1 1099511627776 && (Rc.plain (⟨7, epoch, who, n, seq, text, sp⟩ : Rc.R) && (Rc.told (⟨7, epoch, who, n, seq, text, sp⟩ : Rc.R) && (Spc.inn who 1 4 && (Spc.inn n 0 1099511627776 && decide (seq = 0))))))) := by
    show _ = _
    unfold Rc.right
    simp only [if_true, if_neg (show ¬ (7 : Int) = 1 by omega), if_neg (show ¬ (7 : Int) = 2 by omega), if_neg (show ¬ (7 : Int) = 3 by omega), if_neg (show ¬ (7 : Int) = 4 by omega), if_neg (show ¬ (7 : Int) = 5 by omega), if_neg (show ¬ (7 : Int) = 6 by omega)]
  rw [EP.out] at ER
  rw [ER.out]
  clear ER
  obtain ⟨ans, hans⟩ : ∃ ans, ans = (Spc.inn epoch 1 1099511627776 && (Spc.same sp Spc.zero && (Rc.told (⟨7, epoch, who, n, seq, text, sp⟩ : Rc.R) && (Spc.inn who 1 4 && (Spc.inn n 0 1099511627776 && decide (seq = 0)))))) := ⟨_, rfl⟩
  rw [← hans]
  have HANS := Lib.hid hans
  clear hans
  generalize Rc.told (⟨7, epoch, who, n, seq, text, sp⟩ : Rc.R) = tb at *
  clear EP
  generalize Spc.same sp Spc.zero = pb at *
  unfold Rc.val at *
  unfold Spc.val Spc.cells at hne
  unfold Spc.zero at hne
  simp only at hne
  have HSZ : Hid ((Tryd.prog.info? 26).map (·.size) = some (Rc.cells (⟨7, epoch, who, n, seq, text, sp⟩ : Rc.R)).size) := rec_size _
  go_enter Tryd.func10, Tryd.ntmps10
  go_upto_region 1 with fail
  obtain ⟨g, hg⟩ : ∃ g, g = w.heap.size := ⟨_, rfl⟩
  rw [← hg] at RA ⊢
  clear hg
  generalize w.alloc (.cells (Rc.cells (⟨7, epoch, who, n, seq, text, sp⟩ : Rc.R)) 26) = ws at *
  obtain ⟨c0, c1, c2, c3, c4, c5, c6, c7, c8, c9, c10, c11, c12, c13, c14, c15, c16, c17, clt⟩ := RA.out.cs
  simp only at c0 c1 c2 c3 c4 c5 c6 c7 c8 c9 c10 c11 c12 c13 c14 c15 c16 c17
  cases pb
  all_goals
   go_wp2_with (first
    | (go_at_call 27; (with_reducible refine (rcin_any _ _ _ _).mono ?_); rintro e w1 ⟨rfl, rfl⟩; generalize hbb : Spc.inn _ _ _ = bb; cases bb)
    | ((with_reducible show wpList _ _ _ ({ dst := some 167, op := .load _ _, type := _, pos := _, after := _, guard := _ } :: _) _ _); refine wpList_load_row rfl 26 (.tmp 1) rfl g rfl 26 _ (0, 0) _ RA.out.row rec_fields rfl HSZ.out ?_)
    | (go_at_call 28; (with_reducible refine (CB.out _).mono ?_); rintro e w2 ⟨rfl, hb2⟩; have RA := Lib.hid (RA.out.on hb2); have B1 := Lib.hid (B1.out.trans (hb2.mono B1.out.size)); clear hb2 c0 c1 c2 c3 c4 c5 c6 c7 c8 c9 c10 c11 c12 c13 c14 c15 c16 c17 clt; obtain ⟨c0, c1, c2, c3, c4, c5, c6, c7, c8, c9, c10, c11, c12, c13, c14, c15, c16, c17, clt⟩ := RA.out.cs; simp only at c0 c1 c2 c3 c4 c5 c6 c7 c8 c9 c10 c11 c12 c13 c14 c15 c16 c17; cases tb))
  all_goals
    go_ret
    refine ⟨?_, B1.out⟩
    show Ending.returned (.bool _) = _
    refine congrArg (fun b => Ending.returned (.bool b)) ?_
    rw [HANS.out]
    first
      | (simp [*]; done)
      | (simp [*]; exact beq_dec _)
theorem rcright_any (r : Rc.R) (hin : Rc.In r) (w : World) : Calls Tryd.prog 10 #[Rc.val r] w (APos w (.bool (Rc.right r))) := by
  obtain ⟨kind, epoch, who, n, seq, text, sp⟩ := r
  by_cases k1 : kind = 1
  · subst k1; exact rcright1 epoch who n seq text sp hin.text hin.sp w
  by_cases k2 : kind = 2
  · subst k2; exact rcright2 epoch who n seq text sp hin.text hin.sp w
  by_cases k3 : kind = 3
  · subst k3; exact rcright3 epoch who n seq text sp hin.text hin.sp w
  by_cases k4 : kind = 4
  · subst k4; exact rcright4 epoch who n seq text sp hin.text hin.sp w
  by_cases k5 : kind = 5
  · subst k5; exact rcright5 epoch who n seq text sp hin.text hin.sp w
  by_cases k6 : kind = 6
  · subst k6; exact rcright6 epoch who n seq text sp hin.text hin.sp w
  by_cases k7 : kind = 7
  · subst k7; exact rcright7 epoch who n seq text sp hin.text hin.sp w
  exact rcright0 kind epoch who n seq text sp hin.text hin.sp w k1 k2 k3 k4 k5 k6 k7
end Go.Proofs.YtifokcpkamdkeaaDoor
