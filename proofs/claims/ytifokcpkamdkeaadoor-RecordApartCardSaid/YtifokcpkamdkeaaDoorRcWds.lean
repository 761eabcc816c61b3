/-
  A record's words; Words of the document's package of layer 10. Written by wip/tools/gen/rcwords.py. No condition.
-/
import Derived.Test.YtifokcpkamdkeaaDoorRcName
import Derived.Test.YtifokcpkamdkeaaDoorSpRefD
import Derived.Test.YtifokcpkamdkeaaDoorRegion
import Derived.Deep.CutBlock
import Derived.Deep.DeepCutAuto
namespace Go.Proofs.YtifokcpkamdkeaaDoor
open Go.RowKit Cdc
set_option linter.unusedSimpArgs false
set_option linter.unusedVariables false

theorem rc_digs_len {n : Int} (h : Spc.i64 n) : (Spc.digs n).length ≤ 20 := digs_len h
theorem rc_text_short (s : Spc.Sp) (hin : Spc.In s) : (Spc.text s).length ≤ 1000 := by
  have key : ∀ j, 1 ≤ j → j ≤ 12 → (tx s j).length ≤ 21 * j := by
    intro j
    induction j with
    | zero => intro h; omega
    | succ j ih =>
      intro _ h2
      by_cases h0 : j = 0
      · subst h0
        rw [tx_one]
        have := digs_len (in_at hin (j := 0) (by omega))
        exact Nat.le_trans this (by omega)
      · have h3 := ih (by omega) (by omega)
        rw [tx_next s j (by omega) (by omega), List.length_append, List.length_append]
        have := digs_len (in_at hin (j := j) (by omega))
        simp only [List.length_singleton]
        omega
  rw [← tx_end]
  exact Nat.le_trans (key 12 (by omega) (by omega)) (by omega)
namespace Rc
def nm (k : Int) : List Nat := sb (nameB k)
theorem nm_txt (k : Int) : txt (nm k) = nameB k := txt_sb _
theorem nm_len (k : Int) : (nm k).length ≤ 10 := by
  unfold nm
  rw [sb_length]
  unfold nameB
  repeat' split
  all_goals decide
/-- A record's words, its first five alone. -/
def w5 (r : R) : List (List Nat) := [nm r.kind, Spc.digs r.epoch, Spc.digs r.who, Spc.digs r.n, Spc.digs r.seq]
def wt (r : R) : List (List Nat) := if r.text.size = 0 then w5 r else w5 r ++ [sb r.text]
def wl (r : R) : List (List Nat) := if r.kind = 3 then wt r ++ [Spc.text r.sp] else wt r
def words (r : R) : ByteArray := if right r = true then txt (Spc.join (wl r)) else ⟨#[]⟩
theorem join_more {l : List (List Nat)} (h : l ≠ []) (x : List Nat) : Spc.join (l ++ [x]) = Spc.join l ++ ([32] ++ x) := by
  rcases l with _ | ⟨u, l⟩
  · exact absurd rfl h
  · simp [Spc.join]
theorem w5_ne (r : R) : w5 r ≠ [] := by simp [w5]
theorem wt_ne (r : R) : wt r ≠ [] := by unfold wt; split <;> simp [w5]
theorem w5_join (r : R) : Spc.join (w5 r) = ((((((((nm r.kind ++ [32]) ++ Spc.digs r.epoch) ++ [32]) ++ Spc.digs r.who) ++ [32]) ++ Spc.digs r.n) ++ [32]) ++ Spc.digs r.seq) := by simp [w5, Spc.join]
theorem w5_len {r : R} (h : In r) : (Spc.join (w5 r)).length ≤ 100 := by
  have hd : ∀ x ∈ nums r, (Spc.digs x).length ≤ 20 := fun x hx => rc_digs_len (h.nums x hx)
  have h1 := hd r.epoch (by simp [nums])
  have h2 := hd r.who (by simp [nums])
  have h3 := hd r.n (by simp [nums])
  have h4 := hd r.seq (by simp [nums])
  have h0 := nm_len r.kind
  rw [w5_join]
  simp only [List.length_append, List.length_singleton]
  omega
end Rc
/-- Two texts, one behind the other, in a region that draws its order. -/
theorem take_add {a : Act} {oi : Oper} (x y : Operand) (ho : oi.op = .binOp .add 9 x y 9) (p q : List Nat) (hx : a.eval x = .string (txt p)) (hy : a.eval y = .string (txt q)) (hl : p.length + q.length ≤ 1000000) (W : World) : (execOp a.eval oi).run Tryd.prog W = .ok (.value (.string (txt (p ++ q)))) W := by
  have h := run_string_add_sum (P := Tryd.prog) W (txt p) (txt q) (by rw [txt_size, txt_size]; omega)
  rw [txt_append] at h
  unfold execOp
  rw [ho]
  simp only [hx, hy]
  simp [binOp, h, go_sem, run_underlying Tryd.underlying9, Result.andThen]
set_option maxRecDepth 100000 in
set_option maxHeartbeats 6400000 in
theorem rcwords_any (r : Rc.R) (hin : Rc.In r) (w : World) : Calls Tryd.prog 12 #[.agg (Rc.cells r)] w (APos w (.string (Rc.words r))) := by
  have HI := Lib.hid hin
  have RA := Lib.hid (RcAt.new w r)
  have B1 := Lib.hid ((Below.refl w.heap.size w).alloc (Nat.le_refl _) (.cells (Rc.cells r) 26))
  have CR := Lib.hid (fun W => rcright_any r hin W)
  unfold Rc.val at CR
  have I0 : Hid (Spc.i64 r.kind) := hin.nums _ (by simp [Rc.nums])
  have I1 : Hid (Spc.i64 r.epoch) := hin.nums _ (by simp [Rc.nums])
  have I2 : Hid (Spc.i64 r.who) := hin.nums _ (by simp [Rc.nums])
  have I3 : Hid (Spc.i64 r.n) := hin.nums _ (by simp [Rc.nums])
  have I4 : Hid (Spc.i64 r.seq) := hin.nums _ (by simp [Rc.nums])
  have HT : Hid (r.text.size ≤ maxLen) := hin.text
  clear hin
  cases hr : Rc.right r with
  | false =>
    rw [hr] at CR
    have E : Hid (Rc.words r = ⟨#[]⟩) := by show _ = _; unfold Rc.words; rw [if_neg (by rw [hr]; simp)]
    rw [E.out]
    clear hr
    go_enter Tryd.func12, Tryd.ntmps12
    go_upto_region 1 with fail
    obtain ⟨g, hg⟩ : ∃ g, g = w.heap.size := ⟨_, rfl⟩
    rw [← hg] at RA ⊢
    clear hg
    generalize w.alloc (.cells (Rc.cells r) 26) = ws at *
    go_wp2_with (first
      | ((with_reducible show wpList _ _ _ ({ dst := some 5, op := .load _ _, type := _, pos := _, after := _, guard := _ } :: _) _ _); refine wpList_load_row rfl 26 (.tmp 1) rfl g rfl 26 _ (0, 0) _ RA.out.row rec_fields rfl (rec_size r) ?_)
      | (go_at_call 10; (with_reducible refine (CR.out _).mono ?_); rintro e w1 ⟨rfl, hb⟩; have B1 := Lib.hid (B1.out.trans (hb.mono B1.out.size)); clear hb))
    go_ret
    exact ⟨rfl, B1.out⟩
  | true =>
    rw [hr] at CR
    have LT : Hid (r.text.size ≤ 64) := (Rc.ok_of hr).text
    have E : Hid (Rc.words r = txt (Spc.join (Rc.wl r))) := by show _ = _; unfold Rc.words; rw [if_pos hr]
    rw [E.out]
    obtain ⟨ans, hans⟩ : ∃ a, a = Spc.join (Rc.wl r) := ⟨_, rfl⟩
    rw [← hans]
    have HA := Lib.hid hans
    clear hr hans
    go_enter Tryd.func12, Tryd.ntmps12
    go_upto_region 1 with fail
    obtain ⟨g, hg⟩ : ∃ g, g = w.heap.size := ⟨_, rfl⟩
    rw [← hg] at RA ⊢
    clear hg
    generalize w.alloc (.cells (Rc.cells r) 26) = ws at *
    go_upto_region 4 with (first
      | ((with_reducible show wpList _ _ _ ({ dst := some 5, op := .load _ _, type := _, pos := _, after := _, guard := _ } :: _) _ _); refine wpList_load_row rfl 26 (.tmp 1) rfl g rfl 26 _ (0, 0) _ RA.out.row rec_fields rfl (rec_size r) ?_)
      | (go_at_call 10; (with_reducible refine (CR.out _).mono ?_); rintro e w1 ⟨rfl, hb⟩; have RA := Lib.hid (RA.out.on hb); have B1 := Lib.hid (B1.out.trans (hb.mono B1.out.size)); clear hb))
    have RW := Lib.hid RA.out
    have BW := Lib.hid B1.out
    clear RA B1 CR
    obtain ⟨e1, he1⟩ : ∃ e, e = Spc.digs r.epoch := ⟨_, rfl⟩
    have L1 : Hid (e1.length ≤ 20) := by rw [he1]; exact rc_digs_len I1.out
    obtain ⟨e2, he2⟩ : ∃ e, e = Spc.digs r.who := ⟨_, rfl⟩
    have L2 : Hid (e2.length ≤ 20) := by rw [he2]; exact rc_digs_len I2.out
    obtain ⟨e3, he3⟩ : ∃ e, e = Spc.digs r.n := ⟨_, rfl⟩
    have L3 : Hid (e3.length ≤ 20) := by rw [he3]; exact rc_digs_len I3.out
    obtain ⟨e4, he4⟩ : ∃ e, e = Spc.digs r.seq := ⟨_, rfl⟩
    have L4 : Hid (e4.length ≤ 20) := by rw [he4]; exact rc_digs_len I4.out
    obtain ⟨a0, ha0⟩ : ∃ a, a = Rc.nm r.kind := ⟨_, rfl⟩
    have EN : Hid (Rc.nameB r.kind = txt a0) := by rw [ha0]; exact (Rc.nm_txt r.kind).symm
    have L0 : Hid (a0.length ≤ 10) := by rw [ha0]; exact Rc.nm_len r.kind
    have EJ0 := Rc.w5_join r
    rw [← ha0, ← he1, ← he2, ← he3, ← he4] at EJ0
    obtain ⟨a1, ha1⟩ : ∃ a, a = a0 ++ [32] := ⟨_, rfl⟩
    obtain ⟨a2, ha2⟩ : ∃ a, a = a1 ++ e1 := ⟨_, rfl⟩
    obtain ⟨a3, ha3⟩ : ∃ a, a = a2 ++ [32] := ⟨_, rfl⟩
    obtain ⟨a4, ha4⟩ : ∃ a, a = a3 ++ e2 := ⟨_, rfl⟩
    obtain ⟨a5, ha5⟩ : ∃ a, a = a4 ++ [32] := ⟨_, rfl⟩
    obtain ⟨a6, ha6⟩ : ∃ a, a = a5 ++ e3 := ⟨_, rfl⟩
    obtain ⟨a7, ha7⟩ : ∃ a, a = a6 ++ [32] := ⟨_, rfl⟩
    obtain ⟨a8, ha8⟩ : ∃ a, a = a7 ++ e4 := ⟨_, rfl⟩
    rw [← ha1, ← ha2, ← ha3, ← ha4, ← ha5, ← ha6, ← ha7, ← ha8] at EJ0
    have EJ := Lib.hid EJ0
    clear EJ0 ha0
    have HE1 := Lib.hid he1
    have HE2 := Lib.hid he2
    have HE3 := Lib.hid he3
    have HE4 := Lib.hid he4
    have HZ1 : Hid (a1.length ≤ 11) := by rw [ha1, List.length_append]; have := L0.out; have := L0.out; rw [List.length_singleton]; show _ ≤ _; omega
    have HZ2 : Hid (a2.length ≤ 31) := by rw [ha2, List.length_append]; have := HZ1.out; have := L1.out; show _ ≤ _; omega
    have HZ3 : Hid (a3.length ≤ 32) := by rw [ha3, List.length_append]; have := HZ2.out; have := L0.out; rw [List.length_singleton]; show _ ≤ _; omega
    have HZ4 : Hid (a4.length ≤ 52) := by rw [ha4, List.length_append]; have := HZ3.out; have := L2.out; show _ ≤ _; omega
    have HZ5 : Hid (a5.length ≤ 53) := by rw [ha5, List.length_append]; have := HZ4.out; have := L0.out; rw [List.length_singleton]; show _ ≤ _; omega
    have HZ6 : Hid (a6.length ≤ 73) := by rw [ha6, List.length_append]; have := HZ5.out; have := L3.out; show _ ≤ _; omega
    have HZ7 : Hid (a7.length ≤ 74) := by rw [ha7, List.length_append]; have := HZ6.out; have := L0.out; rw [List.length_singleton]; show _ ≤ _; omega
    have HZ8 : Hid (a8.length ≤ 94) := by rw [ha8, List.length_append]; have := HZ7.out; have := L4.out; show _ ≤ _; omega
    have HQ1 := Lib.hid ha1
    have HQ2 := Lib.hid ha2
    have HQ3 := Lib.hid ha3
    have HQ4 := Lib.hid ha4
    have HQ5 := Lib.hid ha5
    have HQ6 := Lib.hid ha6
    have HQ7 := Lib.hid ha7
    have HQ8 := Lib.hid ha8
    clear he1 he2 he3 he4 ha1 ha2 ha3 ha4 ha5 ha6 ha7 ha8
    go_cut [4] (fun s4 wx => s4 = .string (txt (Spc.join (Rc.w5 r))) ∧ Below w1.heap.size w1 wx)
    case first =>
      refine wp_region_held_drew (S := fun W => Below w1.heap.size w1 W) (by kernel_rfl) (Below.refl w1.heap.size w1).drew (fun hS => ?_)
      refine tkYes 0 (v := ?_) rfl (by kernel_rfl) (fun _ _ _ h => h) rfl ?_ hS ?_
      rotate_left
      · intro W hW; go_simp; (try with_reducible rfl)
      simp only [Act.put, List.setIfInBounds_toArray, List.set_cons_zero, List.set_cons_succ]
      refine tkYes 1 (v := ?_) rfl (by kernel_rfl) (fun _ _ _ h => h) rfl ?_ hS ?_
      rotate_left
      · intro W hW; obtain ⟨c0, c1, c2, c3, c4, c5, c6, c7, c8, c9, c10, c11, c12, c13, c14, c15, c16, c17, clt⟩ := (RW.out.on hW).cs; go_simp; (try with_reducible rfl)
      simp only [Act.put, List.setIfInBounds_toArray, List.set_cons_zero, List.set_cons_succ]
      refine tkYes 4 (v := ?_) rfl (by kernel_rfl) (fun _ _ _ h => h) rfl ?_ hS ?_
      rotate_left
      · intro W hW; go_simp; (try with_reducible rfl)
      simp only [Act.put, List.setIfInBounds_toArray, List.set_cons_zero, List.set_cons_succ]
      refine tkYes 5 (v := ?_) rfl (by kernel_rfl) (fun _ _ _ h => h) rfl ?_ hS ?_
      rotate_left
      · intro W hW; obtain ⟨c0, c1, c2, c3, c4, c5, c6, c7, c8, c9, c10, c11, c12, c13, c14, c15, c16, c17, clt⟩ := (RW.out.on hW).cs; go_simp; (try with_reducible rfl)
      simp only [Act.put, List.setIfInBounds_toArray, List.set_cons_zero, List.set_cons_succ]
      refine tkYes 9 (v := ?_) rfl (by kernel_rfl) (fun _ _ _ h => h) rfl ?_ hS ?_
      rotate_left
      · intro W hW; go_simp; (try with_reducible rfl)
      simp only [Act.put, List.setIfInBounds_toArray, List.set_cons_zero, List.set_cons_succ]
      refine tkYes 10 (v := ?_) rfl (by kernel_rfl) (fun _ _ _ h => h) rfl ?_ hS ?_
      rotate_left
      · intro W hW; obtain ⟨c0, c1, c2, c3, c4, c5, c6, c7, c8, c9, c10, c11, c12, c13, c14, c15, c16, c17, clt⟩ := (RW.out.on hW).cs; go_simp; (try with_reducible rfl)
      simp only [Act.put, List.setIfInBounds_toArray, List.set_cons_zero, List.set_cons_succ]
      refine tkYes 14 (v := ?_) rfl (by kernel_rfl) (fun _ _ _ h => h) rfl ?_ hS ?_
      rotate_left
      · intro W hW; go_simp; (try with_reducible rfl)
      simp only [Act.put, List.setIfInBounds_toArray, List.set_cons_zero, List.set_cons_succ]
      refine tkYes 15 (v := ?_) rfl (by kernel_rfl) (fun _ _ _ h => h) rfl ?_ hS ?_
      rotate_left
      · intro W hW; obtain ⟨c0, c1, c2, c3, c4, c5, c6, c7, c8, c9, c10, c11, c12, c13, c14, c15, c16, c17, clt⟩ := (RW.out.on hW).cs; go_simp; (try with_reducible rfl)
      simp only [Act.put, List.setIfInBounds_toArray, List.set_cons_zero, List.set_cons_succ]
      refine tkYes 19 (v := ?_) rfl (by kernel_rfl) (fun _ _ _ h => h) rfl ?_ hS ?_
      rotate_left
      · intro W hW; go_simp; (try with_reducible rfl)
      simp only [Act.put, List.setIfInBounds_toArray, List.set_cons_zero, List.set_cons_succ]
      refine tkYes 20 (v := ?_) rfl (by kernel_rfl) (fun _ _ _ h => h) rfl ?_ hS ?_
      rotate_left
      · intro W hW; obtain ⟨c0, c1, c2, c3, c4, c5, c6, c7, c8, c9, c10, c11, c12, c13, c14, c15, c16, c17, clt⟩ := (RW.out.on hW).cs; go_simp; (try with_reducible rfl)
      simp only [Act.put, List.setIfInBounds_toArray, List.set_cons_zero, List.set_cons_succ]
      refine rnOne 2 rfl (by kernel_rfl) rfl (fun K hK => ?_)
      go_simp
      with_reducible refine (rcname_any _ I0.out _).mono ?_
      rintro en W ⟨rfl, hW⟩
      rw [EN.out]
      have hS2 := hS.trans (hW.mono hS.size)
      clear hS hW
      have hS := hS2
      clear hS2
      refine hK.out _ _ hS (fun _ => ?_)
      clear hK K
      try simp only [Act.put, List.setIfInBounds_toArray, List.set_cons_zero, List.set_cons_succ]
      refine tkYes 3 (v := .string (txt a1)) rfl (by kernel_rfl) (fun _ _ _ h => h) rfl (fun W _ => (take_add _ _ rfl a0 [32] rfl rfl (by have := L0.out; have := L0.out; rw [List.length_singleton]; omega) W).trans (by rw [← HQ1.out])) hS ?_
      simp only [Act.put, List.setIfInBounds_toArray, List.set_cons_zero, List.set_cons_succ]
      refine rnOne 6 rfl (by kernel_rfl) rfl (fun K hK => ?_)
      go_simp
      with_reducible refine (sdigs_any _ I1.out _).mono ?_
      rintro en W ⟨rfl, hW⟩
      obtain rfl := hW.symm
      rw [← HE1.out]
      refine hK.out _ _ hS (fun _ => ?_)
      clear hK K
      try simp only [Act.put, List.setIfInBounds_toArray, List.set_cons_zero, List.set_cons_succ]
      refine tkYes 7 (v := .string (txt a2)) rfl (by kernel_rfl) (fun _ _ _ h => h) rfl (fun W _ => (take_add _ _ rfl a1 e1 rfl rfl (by have := HZ1.out; have := L1.out; omega) W).trans (by rw [← HQ2.out])) hS ?_
      simp only [Act.put, List.setIfInBounds_toArray, List.set_cons_zero, List.set_cons_succ]
      refine tkYes 8 (v := .string (txt a3)) rfl (by kernel_rfl) (fun _ _ _ h => h) rfl (fun W _ => (take_add _ _ rfl a2 [32] rfl rfl (by have := HZ2.out; have := L0.out; rw [List.length_singleton]; omega) W).trans (by rw [← HQ3.out])) hS ?_
      simp only [Act.put, List.setIfInBounds_toArray, List.set_cons_zero, List.set_cons_succ]
      refine rnOne 11 rfl (by kernel_rfl) rfl (fun K hK => ?_)
      go_simp
      with_reducible refine (sdigs_any _ I2.out _).mono ?_
      rintro en W ⟨rfl, hW⟩
      obtain rfl := hW.symm
      rw [← HE2.out]
      refine hK.out _ _ hS (fun _ => ?_)
      clear hK K
      try simp only [Act.put, List.setIfInBounds_toArray, List.set_cons_zero, List.set_cons_succ]
      refine tkYes 12 (v := .string (txt a4)) rfl (by kernel_rfl) (fun _ _ _ h => h) rfl (fun W _ => (take_add _ _ rfl a3 e2 rfl rfl (by have := HZ3.out; have := L2.out; omega) W).trans (by rw [← HQ4.out])) hS ?_
      simp only [Act.put, List.setIfInBounds_toArray, List.set_cons_zero, List.set_cons_succ]
      refine tkYes 13 (v := .string (txt a5)) rfl (by kernel_rfl) (fun _ _ _ h => h) rfl (fun W _ => (take_add _ _ rfl a4 [32] rfl rfl (by have := HZ4.out; have := L0.out; rw [List.length_singleton]; omega) W).trans (by rw [← HQ5.out])) hS ?_
      simp only [Act.put, List.setIfInBounds_toArray, List.set_cons_zero, List.set_cons_succ]
      refine rnOne 16 rfl (by kernel_rfl) rfl (fun K hK => ?_)
      go_simp
      with_reducible refine (sdigs_any _ I3.out _).mono ?_
      rintro en W ⟨rfl, hW⟩
      obtain rfl := hW.symm
      rw [← HE3.out]
      refine hK.out _ _ hS (fun _ => ?_)
      clear hK K
      try simp only [Act.put, List.setIfInBounds_toArray, List.set_cons_zero, List.set_cons_succ]
      refine tkYes 17 (v := .string (txt a6)) rfl (by kernel_rfl) (fun _ _ _ h => h) rfl (fun W _ => (take_add _ _ rfl a5 e3 rfl rfl (by have := HZ5.out; have := L3.out; omega) W).trans (by rw [← HQ6.out])) hS ?_
      simp only [Act.put, List.setIfInBounds_toArray, List.set_cons_zero, List.set_cons_succ]
      refine tkYes 18 (v := .string (txt a7)) rfl (by kernel_rfl) (fun _ _ _ h => h) rfl (fun W _ => (take_add _ _ rfl a6 [32] rfl rfl (by have := HZ6.out; have := L0.out; rw [List.length_singleton]; omega) W).trans (by rw [← HQ7.out])) hS ?_
      simp only [Act.put, List.setIfInBounds_toArray, List.set_cons_zero, List.set_cons_succ]
      refine rnOne 21 rfl (by kernel_rfl) rfl (fun K hK => ?_)
      go_simp
      with_reducible refine (sdigs_any _ I4.out _).mono ?_
      rintro en W ⟨rfl, hW⟩
      obtain rfl := hW.symm
      rw [← HE4.out]
      refine hK.out _ _ hS (fun _ => ?_)
      clear hK K
      try simp only [Act.put, List.setIfInBounds_toArray, List.set_cons_zero, List.set_cons_succ]
      refine tkYes 22 (v := .string (txt a8)) rfl (by kernel_rfl) (fun _ _ _ h => h) rfl (fun W _ => (take_add _ _ rfl a7 e4 rfl rfl (by have := HZ7.out; have := L4.out; omega) W).trans (by rw [← HQ8.out])) hS ?_
      simp only [Act.put, List.setIfInBounds_toArray, List.set_cons_zero, List.set_cons_succ]
      refine tkYes 23 (v := ?_) rfl (by kernel_rfl) (fun _ _ _ h => h) rfl ?_ hS ?_
      rotate_left
      · intro W hW; go_simp; (try with_reducible rfl)
      simp only [Act.put, List.setIfInBounds_toArray, List.set_cons_zero, List.set_cons_succ]
      refine wpAnyH_done (by kernel_rfl) ?_ _
      go_wp2_with fail
      go_meet
      case rel => exact ⟨by rw [EJ.out], hS⟩
    case rest =>
      obtain ⟨rfl, hbc⟩ := hcut
      have RA := Lib.hid (RW.out.on hbc)
      have B2 := Lib.hid (BW.out.trans (hbc.mono BW.out.size))
      have LJ := Lib.hid (Rc.w5_len HI.out)
      clear hbc RW BW EJ EN L0 L1 L2 L3 L4 HE1 HE2 HE3 HE4 HZ1 HZ2 HZ3 HZ4 HZ5 HZ6 HZ7 HZ8 HQ1 HQ2 HQ3 HQ4 HQ5 HQ6 HQ7 HQ8
      obtain ⟨c0, c1, c2, c3, c4, c5, c6, c7, c8, c9, c10, c11, c12, c13, c14, c15, c16, c17, clt⟩ := RA.out.cs
      have he := text_empty r.text
      have CT := Lib.hid (fun W => rtext_any r.sp HI.out.sp W)
      unfold Spc.val Spc.cells at CT
      have hts : txt (sb r.text) = r.text := txt_sb _
      have L6 : (Spc.text r.sp).length ≤ 1000 := rc_text_short r.sp HI.out.sp
      have z1 := txt_size (Spc.join (Rc.w5 r))
      have z2 := LJ.out
      have z3 := LT.out
      by_cases h0 : r.text.size = 0
      · rw [decide_eq_true h0] at he
        have ET : Hid (Rc.wt r = Rc.w5 r) := by show _ = _; unfold Rc.wt; rw [if_pos h0]
        clear h0 hts z3
        by_cases hk : r.kind = 3
        · have hke : (r.kind == 3) = true := by rw [beq_iff_eq]; exact hk
          have EL : Hid (Spc.join (Rc.wl r) = Spc.join (Rc.w5 r) ++ ([32] ++ Spc.text r.sp)) := by show _ = _; unfold Rc.wl; rw [if_pos hk, ET.out, Rc.join_more (Rc.w5_ne r)]
          clear hk
          generalize Spc.join (Rc.w5 r) = j5 at *
          have hap3 : (⟨#[32]⟩ : ByteArray) ++ txt (Spc.text r.sp) = txt ([32] ++ Spc.text r.sp) := by rw [← txt_append]; rfl
          have hl3 : ([32] ++ Spc.text r.sp).length ≤ 1001 := by rw [List.length_append]; simp; omega
          have hz3 := txt_size ([32] ++ Spc.text r.sp)
          have hz5 := txt_size (Spc.text r.sp)
          have hap4 := txt_append j5 ([32] ++ Spc.text r.sp)
          generalize [32] ++ Spc.text r.sp = bs at *
          generalize Spc.text r.sp = stx at *
          go_wp2_with (go_at_call 34; (with_reducible refine (CT.out _).mono ?_); rintro e w5 ⟨rfl, hb5⟩; have B5 := Lib.hid (B2.out.trans (hb5.mono B2.out.size)); clear hb5)
          go_ret
          exact ⟨by rw [HA.out, EL.out]; rfl, B5.out⟩
        · have hke : (r.kind == 3) = false := by rw [beq_eq_false_iff_ne]; exact hk
          have EL : Hid (Rc.wl r = Rc.w5 r) := by show _ = _; unfold Rc.wl; rw [if_neg hk, ET.out]
          clear hk
          go_wp2_with fail
          go_ret
          exact ⟨by rw [HA.out, EL.out]; rfl, B2.out⟩
      · rw [decide_eq_false h0] at he
        have ET : Hid (Rc.wt r = Rc.w5 r ++ [sb r.text]) := by show _ = _; unfold Rc.wt; rw [if_neg h0]
        clear h0
        have hap1 : (⟨#[32]⟩ : ByteArray) ++ r.text = txt ([32] ++ sb r.text) := by rw [← txt_append, hts]; rfl
        have hl1 : ([32] ++ sb r.text).length ≤ 65 := by rw [List.length_append, sb_length]; simp; omega
        have hz1 := txt_size ([32] ++ sb r.text)
        have hap2 := txt_append (Spc.join (Rc.w5 r)) ([32] ++ sb r.text)
        have EJT : Hid (Spc.join (Rc.wt r) = Spc.join (Rc.w5 r) ++ ([32] ++ sb r.text)) := by show _ = _; rw [ET.out, Rc.join_more (Rc.w5_ne r)]
        have z4 : (Spc.join (Rc.w5 r) ++ ([32] ++ sb r.text)).length ≤ 165 := by rw [List.length_append]; omega
        by_cases hk : r.kind = 3
        · have hke : (r.kind == 3) = true := by rw [beq_iff_eq]; exact hk
          have EL : Hid (Spc.join (Rc.wl r) = (Spc.join (Rc.w5 r) ++ ([32] ++ sb r.text)) ++ ([32] ++ Spc.text r.sp)) := by show _ = _; unfold Rc.wl; rw [if_pos hk, Rc.join_more (Rc.wt_ne r), EJT.out]
          clear hk hts
          have z1b := txt_size (Spc.join (Rc.w5 r) ++ ([32] ++ sb r.text))
          generalize hj6 : Spc.join (Rc.w5 r) ++ ([32] ++ sb r.text) = j6 at *
          have HJ6 := Lib.hid hj6
          clear hj6
          generalize Spc.join (Rc.w5 r) = j4 at *
          generalize [32] ++ sb r.text = bt at *
          have hap3 : (⟨#[32]⟩ : ByteArray) ++ txt (Spc.text r.sp) = txt ([32] ++ Spc.text r.sp) := by rw [← txt_append]; rfl
          have hl3 : ([32] ++ Spc.text r.sp).length ≤ 1001 := by rw [List.length_append]; simp; omega
          have hz3 := txt_size ([32] ++ Spc.text r.sp)
          have hz5 := txt_size (Spc.text r.sp)
          have hap4 := txt_append j6 ([32] ++ Spc.text r.sp)
          generalize [32] ++ Spc.text r.sp = bs at *
          generalize Spc.text r.sp = stx at *
          go_wp2_with (go_at_call 34; (with_reducible refine (CT.out _).mono ?_); rintro e w5 ⟨rfl, hb5⟩; have RA := Lib.hid (RA.out.on hb5); have B5 := Lib.hid (B2.out.trans (hb5.mono B2.out.size)); clear hb5)
          go_ret
          exact ⟨by rw [HA.out, EL.out]; rfl, B5.out⟩
        · have hke : (r.kind == 3) = false := by rw [beq_eq_false_iff_ne]; exact hk
          have EL : Hid (Spc.join (Rc.wl r) = Spc.join (Rc.w5 r) ++ ([32] ++ sb r.text)) := by show _ = _; unfold Rc.wl; rw [if_neg hk, EJT.out]
          clear hk hts
          generalize hj6 : Spc.join (Rc.w5 r) ++ ([32] ++ sb r.text) = j6 at *
          have HJ6 := Lib.hid hj6
          clear hj6
          generalize Spc.join (Rc.w5 r) = j4 at *
          generalize [32] ++ sb r.text = bt at *
          go_wp2_with fail
          go_ret
          exact ⟨by rw [HA.out, EL.out]; rfl, B2.out⟩
end Go.Proofs.YtifokcpkamdkeaaDoor
