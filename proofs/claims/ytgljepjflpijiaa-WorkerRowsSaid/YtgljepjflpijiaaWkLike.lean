/-
  Layer 16's laws: like, of a worker and the document's. Written by wip/tools/gen/wklike.py. No condition.
-/
import Derived.Test.YtgljepjflpijiaaWkDoes
import Derived.Test.YtgljepjflpijiaaSameI
import Derived.Test.YtgljepjflpijiaaRegion
namespace Go.Proofs.Ytgljepjflpijiaa
open Go.RowKit Go.Deep
set_option linter.unusedSimpArgs false
set_option linter.unusedVariables false
set_option maxRecDepth 100000

set_option maxHeartbeats 6400000 in
theorem wklike_any {L : WkP} (hC : WC L) {w0 W : World} {F : Nat → Prop} {q : Nat} {r : Wk.W} (h : WIn L w0 F q r W) : Calls Try.prog 13 #[wkp q, .agg (Wk.cells r)] W (WkAns (.bool true) W) := by
  have hm := (h.ok hC).new
  have HM : Hid (1 ≤ r.many ∧ r.many ≤ 16) := ⟨hm.1, hm.2.1⟩
  obtain ⟨g, W1, hW, hg, r0, b1⟩ := wk_box W r
  have HW := Lib.hid hW
  have HG := Lib.hid hg
  have R := Lib.hid r0
  have BW := Lib.hid b1
  have I := Lib.hid (h.on hC b1)
  have HC := Lib.hid hC
  clear hW hg r0 b1 h hm hC
  go_enter Try.func13, Try.ntmps13
  go_upto_region 1 with fail
  rw [← HW.out, ← HG.out]
  go_wp2_with fail
  go_loopw [5] (fun i wr => ∃ u : Int, i = .int .i64 u ∧ -1 ≤ u ∧ u ≤ 17 ∧ Below W1.heap.size W1 wr) (fun i wr => (18 - (intOf i)).toNat)
  case atStart => exact ⟨-1, rfl, by omega, by omega, Below.refl _ _⟩
  case round =>
    obtain ⟨u, rfl, hu0, hu1, hb0⟩ := hrel
    have B := Lib.hid hb0
    clear hb0
    by_cases hlt : u ≤ 16
    · have hu : Nt.i64 u := by unfold Nt.i64; omega
      have hw : wrap64 (u + 1) = u + 1 := IntWalk.wrap64_in _ ⟨by omega, by omega⟩
      by_cases ho : Wk.own r u
      · obtain ⟨hj, hju⟩ := Wk.own_lt ho
        obtain ⟨j, hjj⟩ : ∃ j : Nat, j = u.toNat := ⟨_, rfl⟩
        rw [← hjj] at hj hju
        have ES : Wk.slotOf r u = r.l j := by rw [hjj]; exact if_pos ho
        have C1 := Lib.hid (fun w (h : WIn L w0 F q r w) => win_slot HC.out h hu)
        have C2 := Lib.hid (fun w (h : WIn L w0 F q r w) => win_report HC.out h hu)
        have C3 := Lib.hid (fun w => rwreport_any (s := r) u HM.out w)
        have CO := Lib.hid (fun w => rwown_is (s := r) (u := u) (b := true) HM.out (by simp [ho]) w)
        rw [ES] at C1
        rw [decide_eq_true ho] at C1 C2 C3
        obtain ⟨mm, hmm⟩ : ∃ mm, mm = Wk.report r u := ⟨_, rfl⟩
        rw [← hmm] at C2 C3
        clear hmm ES
        obtain ⟨x, hx⟩ : ∃ x, x = r.l j := ⟨_, rfl⟩
        have HX := Lib.hid hx
        rw [← hx] at C1
        clear hx
        have hj2 : (j : Int) < 16 := by omega
        have hj0 : (0 : Int) ≤ (j : Int) := by omega
        subst hju
        clear ho hjj
        unfold suV suC at C1
        unfold Nt.val Nt.cs at C2 C3
        go_upto_region 5 with (go_at_call 16; (with_reducible refine (C1.out _ (I.out.on HC.out B.out)).mono ?_); rintro e w2 ⟨rfl, hb⟩; replace B := Lib.hid (B.out.trans (hb.mono B.out.size)); clear hb)
        have hb := (Below.refl w2.heap.size w2).alloc (Nat.le_refl _) (.cells #[.int .i64 x.st, .int .i64 x.v, .int .i64 x.wa, .int .i64 x.sq] 46)
        have S6 := Lib.hid (SuAt.new 46 w2 x)
        replace B := Lib.hid (B.out.trans (hb.mono B.out.size))
        obtain ⟨g6, hg6⟩ : ∃ g, g = w2.heap.size := ⟨_, rfl⟩
        unfold suC at S6
        rw [← hg6] at S6 ⊢
        clear hb hg6
        generalize w2.alloc (.cells #[.int .i64 x.st, .int .i64 x.v, .int .i64 x.wa, .int .i64 x.sq] 46) = w3 at *
        go_upto_region 6 with (go_at_call 22; (with_reducible refine (C2.out _ (I.out.on HC.out B.out)).mono ?_); rintro e w4 ⟨rfl, hb⟩; replace S6 := Lib.hid (S6.out.on hb); replace B := Lib.hid (B.out.trans (hb.mono B.out.size)); clear hb)
        have hb := (Below.refl w4.heap.size w4).alloc (Nat.le_refl _) (.cells #[.int .i64 mm.k, .int .i64 mm.e, .int .i64 mm.s, .int .i64 mm.u, .int .i64 mm.v, .int .i64 mm.t] 38)
        have M8 := Lib.hid (NtAt.new w4 mm)
        replace B := Lib.hid (B.out.trans (hb.mono B.out.size))
        replace S6 := Lib.hid (S6.out.on hb)
        obtain ⟨g8, hg8⟩ : ∃ g, g = w4.heap.size := ⟨_, rfl⟩
        unfold Nt.cs at M8
        rw [← hg8] at M8 ⊢
        clear hb hg8
        generalize w4.alloc (.cells #[.int .i64 mm.k, .int .i64 mm.e, .int .i64 mm.s, .int .i64 mm.u, .int .i64 mm.v, .int .i64 mm.t] 38) = w5 at *
        go_upto_region 7 with (first
          | ((with_reducible show wpList _ _ _ ({ dst := some 30, op := .load _ _, type := _, pos := _, after := _, guard := _ } :: _) _ _); refine wpList_load_wk rfl (.tmp 3) rfl rfl (R.out.on B.out) ?_)
          | (go_at_call 31; (with_reducible refine (C3.out _).mono ?_); rintro e w6 ⟨rfl, hb⟩; replace S6 := Lib.hid (S6.out.on hb); replace M8 := Lib.hid (M8.out.on hb); replace B := Lib.hid (B.out.trans (hb.mono B.out.size)); clear hb))
        have hb := (Below.refl w6.heap.size w6).alloc (Nat.le_refl _) (.cells #[.int .i64 mm.k, .int .i64 mm.e, .int .i64 mm.s, .int .i64 mm.u, .int .i64 mm.v, .int .i64 mm.t] 38)
        have M10 := Lib.hid (NtAt.new w6 mm)
        replace B := Lib.hid (B.out.trans (hb.mono B.out.size))
        replace S6 := Lib.hid (S6.out.on hb)
        replace M8 := Lib.hid (M8.out.on hb)
        obtain ⟨g10, hg10⟩ : ∃ g, g = w6.heap.size := ⟨_, rfl⟩
        unfold Nt.cs at M10
        rw [← hg10] at M10 ⊢
        clear hb hg10
        generalize w6.alloc (.cells #[.int .i64 mm.k, .int .i64 mm.e, .int .i64 mm.s, .int .i64 mm.u, .int .i64 mm.v, .int .i64 mm.t] 38) = w7 at *
        have R7 := Lib.hid (R.out.on B.out)
        refine wp_region_held_drew (S := fun V => Below w7.heap.size w7 V) (by kernel_rfl) (Below.refl w7.heap.size w7).drew (fun hS => ?_)
        refine tkYes 0 (v := ?_) rfl (by kernel_rfl) (fun _ _ _ h => h) rfl ?_ hS ?_
        rotate_left
        · intro W hW; go_simp; (try with_reducible rfl)
        simp only [Act.put, List.setIfInBounds_toArray, List.set_cons_zero, List.set_cons_succ]
        refine tkYes 1 (v := .agg (Wk.cells r)) rfl (by kernel_rfl) (fun _ _ _ h => h) rfl (fun W hW => take_wk (.tmp 3) rfl rfl (R7.out.on hW)) hS ?_
        simp only [Act.put, List.setIfInBounds_toArray, List.set_cons_zero, List.set_cons_succ]
        refine tkYes 2 (v := ?_) rfl (by kernel_rfl) (fun _ _ _ h => h) rfl ?_ hS ?_
        rotate_left
        · intro W hW; go_simp; (try with_reducible rfl)
        simp only [Act.put, List.setIfInBounds_toArray, List.set_cons_zero, List.set_cons_succ]
        refine rnOne 3 rfl (by kernel_rfl) rfl (fun K hK => ?_)
        go_simp
        with_reducible refine (CO.out _).mono ?_
        rintro e w8 ⟨rfl, hb⟩
        replace hS := hS.trans (hb.mono hS.size)
        clear hb
        try go_simp
        refine hK.out _ _ hS (fun _ => ?_)
        clear hK K
        try simp only [Act.put, List.setIfInBounds_toArray, List.set_cons_zero, List.set_cons_succ]
        refine tkYes 4 (v := ?_) rfl (by kernel_rfl) (fun _ _ _ h => h) rfl ?_ hS ?_
        rotate_left
        · intro W hW; go_simp; (try with_reducible rfl)
        simp only [Act.put, List.setIfInBounds_toArray, List.set_cons_zero, List.set_cons_succ]
        refine tkYes 5 (v := ?_) rfl (by kernel_rfl) (fun _ _ _ h => h) rfl ?_ hS ?_
        rotate_left
        · intro W hW; go_simp; (try with_reducible rfl)
        simp only [Act.put, List.setIfInBounds_toArray, List.set_cons_zero, List.set_cons_succ]
        refine tkYes 6 (v := Nt.val mm) rfl (by kernel_rfl) (fun _ _ _ h => h) rfl (fun W hW => take_msg (.tmp 8) rfl g8 0 mm rfl (M8.out.on hW).range) hS ?_
        simp only [Act.put, List.setIfInBounds_toArray, List.set_cons_zero, List.set_cons_succ]
        refine tkYes 7 (v := Nt.val mm) rfl (by kernel_rfl) (fun _ _ _ h => h) rfl (fun W hW => take_msg (.tmp 10) rfl g10 0 mm rfl (M10.out.on hW).range) hS ?_
        simp only [Act.put, List.setIfInBounds_toArray, List.set_cons_zero, List.set_cons_succ]
        refine tkYes 8 (v := ?_) rfl (by kernel_rfl) (fun _ _ _ h => h) rfl ?_ hS ?_
        rotate_left
        · intro W hW; have e8 := fun W => msg_neq (a := mm) (b := mm) (q := false) (by simp) W; go_simp; (try with_reducible rfl)
        simp only [Act.put, List.setIfInBounds_toArray, List.set_cons_zero, List.set_cons_succ]
        refine tkYes 9 (v := ?_) rfl (by kernel_rfl) (fun _ _ _ h => h) rfl ?_ hS ?_
        rotate_left
        · intro W hW; go_simp; (try with_reducible rfl)
        simp only [Act.put, List.setIfInBounds_toArray, List.set_cons_zero, List.set_cons_succ]
        refine tkYes 10 (v := ?_) rfl (by kernel_rfl) (fun _ _ _ h => h) rfl ?_ hS ?_
        rotate_left
        · intro W hW; go_simp; (try with_reducible rfl)
        simp only [Act.put, List.setIfInBounds_toArray, List.set_cons_zero, List.set_cons_succ]
        refine tkYes 11 (v := ?_) rfl (by kernel_rfl) (fun _ _ _ h => h) rfl ?_ hS ?_
        rotate_left
        · intro W hW; go_simp; (try with_reducible rfl)
        simp only [Act.put, List.setIfInBounds_toArray, List.set_cons_zero, List.set_cons_succ]
        refine tkYes 12 (v := ?_) rfl (by kernel_rfl) (fun _ _ _ h => h) rfl ?_ hS ?_
        rotate_left
        · intro W hW; go_simp; (try with_reducible rfl)
        simp only [Act.put, List.setIfInBounds_toArray, List.set_cons_zero, List.set_cons_succ]
        refine tkYes 13 (v := ?_) rfl (by kernel_rfl) (fun _ _ _ h => h) rfl ?_ hS ?_
        rotate_left
        · intro W hW; go_simp; (try with_reducible rfl)
        simp only [Act.put, List.setIfInBounds_toArray, List.set_cons_zero, List.set_cons_succ]
        refine tkYes 14 (v := ?_) rfl (by kernel_rfl) (fun _ _ _ h => h) rfl ?_ hS ?_
        rotate_left
        · intro W hW; go_simp; (try with_reducible rfl)
        simp only [Act.put, List.setIfInBounds_toArray, List.set_cons_zero, List.set_cons_succ]
        refine tkYes 15 (v := ?_) rfl (by kernel_rfl) (fun _ _ _ h => h) rfl ?_ hS ?_
        rotate_left
        · intro W hW; go_simp; (try with_reducible rfl)
        simp only [Act.put, List.setIfInBounds_toArray, List.set_cons_zero, List.set_cons_succ]
        refine tkYes 16 (v := ?_) rfl (by kernel_rfl) (fun _ _ _ h => h) rfl ?_ hS ?_
        rotate_left
        · intro W hW; go_simp; (try with_reducible rfl)
        simp only [Act.put, List.setIfInBounds_toArray, List.set_cons_zero, List.set_cons_succ]
        refine tkYes 17 (v := ?_) rfl (by kernel_rfl) (fun _ _ _ h => h) rfl ?_ hS ?_
        rotate_left
        · intro W hW; go_simp; (try with_reducible rfl)
        simp only [Act.put, List.setIfInBounds_toArray, List.set_cons_zero, List.set_cons_succ]
        refine tkYes 18 (v := ?_) rfl (by kernel_rfl) (fun _ _ _ h => h) rfl ?_ hS ?_
        rotate_left
        · intro W hW; obtain ⟨d0, d1, d2, d3, dl⟩ := (S6.out.on hW).cells; go_simp; (try with_reducible rfl)
        simp only [Act.put, List.setIfInBounds_toArray, List.set_cons_zero, List.set_cons_succ]
        refine tkYes 19 (v := ?_) rfl (by kernel_rfl) (fun _ _ _ h => h) rfl ?_ hS ?_
        rotate_left
        · intro W hW; go_simp; (try with_reducible rfl)
        simp only [Act.put, List.setIfInBounds_toArray, List.set_cons_zero, List.set_cons_succ]
        refine tkYes 20 (v := ?_) rfl (by kernel_rfl) (fun _ _ _ h => h) rfl ?_ hS ?_
        rotate_left
        · intro W hW; go_simp; (try with_reducible rfl)
        simp only [Act.put, List.setIfInBounds_toArray, List.set_cons_zero, List.set_cons_succ]
        refine tkYes 21 (v := ?_) rfl (by kernel_rfl) (fun _ _ _ h => h) rfl ?_ hS ?_
        rotate_left
        · intro W hW; go_simp; (try with_reducible rfl)
        simp only [Act.put, List.setIfInBounds_toArray, List.set_cons_zero, List.set_cons_succ]
        refine tkYes 22 (v := ?_) rfl (by kernel_rfl) (fun _ _ _ h => h) rfl ?_ hS ?_
        rotate_left
        · intro W hW; obtain ⟨d0, d1, d2, d3⟩ := (R7.out.on hW).slot hj; rw [← HX.out] at d0 d1 d2 d3; go_simp; (try with_reducible rfl)
        simp only [Act.put, List.setIfInBounds_toArray, List.set_cons_zero, List.set_cons_succ]
        refine tkYes 23 (v := ?_) rfl (by kernel_rfl) (fun _ _ _ h => h) rfl ?_ hS ?_
        rotate_left
        · intro W hW; have e9 := fun W => slot_neq (a := x) (b := x) (x := false) (by simp) W; unfold suV suC at e9; go_simp; (try with_reducible rfl)
        simp only [Act.put, List.setIfInBounds_toArray, List.set_cons_zero, List.set_cons_succ]
        refine tkYes 24 (v := ?_) rfl (by kernel_rfl) (fun _ _ _ h => h) rfl ?_ hS ?_
        rotate_left
        · intro W hW; go_simp; (try with_reducible rfl)
        simp only [Act.put, List.setIfInBounds_toArray, List.set_cons_zero, List.set_cons_succ]
        refine tkYes 25 (v := ?_) rfl (by kernel_rfl) (fun _ _ _ h => h) rfl ?_ hS ?_
        rotate_left
        · intro W hW; go_simp; (try with_reducible rfl)
        simp only [Act.put, List.setIfInBounds_toArray, List.set_cons_zero, List.set_cons_succ]
        refine wpAnyH_done (by kernel_rfl) ?_ _
        go_wp2_with fail
        replace B := Lib.hid (B.out.trans (hS.mono B.out.size))
        exact ⟨⟨_, by go_num, by omega, by omega, B.out⟩, by simp [intOf]; omega⟩
      · have ES : Wk.slotOf r u = Wk.z4 := if_neg ho
        have C1 := Lib.hid (fun w (h : WIn L w0 F q r w) => win_slot HC.out h hu)
        have C2 := Lib.hid (fun w (h : WIn L w0 F q r w) => win_report HC.out h hu)
        have C3 := Lib.hid (fun w => rwreport_any (s := r) u HM.out w)
        have CO := Lib.hid (fun w => rwown_is (s := r) (u := u) (b := false) HM.out (by simp [ho]) w)
        rw [ES] at C1
        rw [decide_eq_false ho] at C1 C2 C3
        obtain ⟨mm, hmm⟩ : ∃ mm, mm = Wk.report r u := ⟨_, rfl⟩
        rw [← hmm] at C2 C3
        clear hmm ES
        obtain ⟨x, hx⟩ : ∃ x, x = Wk.z4 := ⟨_, rfl⟩
        rw [← hx] at C1
        clear ho hx
        unfold suV suC at C1
        unfold Nt.val Nt.cs at C2 C3
        go_upto_region 5 with (go_at_call 16; (with_reducible refine (C1.out _ (I.out.on HC.out B.out)).mono ?_); rintro e w2 ⟨rfl, hb⟩; replace B := Lib.hid (B.out.trans (hb.mono B.out.size)); clear hb)
        have hb := (Below.refl w2.heap.size w2).alloc (Nat.le_refl _) (.cells #[.int .i64 x.st, .int .i64 x.v, .int .i64 x.wa, .int .i64 x.sq] 46)
        have S6 := Lib.hid (SuAt.new 46 w2 x)
        replace B := Lib.hid (B.out.trans (hb.mono B.out.size))
        obtain ⟨g6, hg6⟩ : ∃ g, g = w2.heap.size := ⟨_, rfl⟩
        unfold suC at S6
        rw [← hg6] at S6 ⊢
        clear hb hg6
        generalize w2.alloc (.cells #[.int .i64 x.st, .int .i64 x.v, .int .i64 x.wa, .int .i64 x.sq] 46) = w3 at *
        go_upto_region 6 with (go_at_call 22; (with_reducible refine (C2.out _ (I.out.on HC.out B.out)).mono ?_); rintro e w4 ⟨rfl, hb⟩; replace S6 := Lib.hid (S6.out.on hb); replace B := Lib.hid (B.out.trans (hb.mono B.out.size)); clear hb)
        have hb := (Below.refl w4.heap.size w4).alloc (Nat.le_refl _) (.cells #[.int .i64 mm.k, .int .i64 mm.e, .int .i64 mm.s, .int .i64 mm.u, .int .i64 mm.v, .int .i64 mm.t] 38)
        have M8 := Lib.hid (NtAt.new w4 mm)
        replace B := Lib.hid (B.out.trans (hb.mono B.out.size))
        replace S6 := Lib.hid (S6.out.on hb)
        obtain ⟨g8, hg8⟩ : ∃ g, g = w4.heap.size := ⟨_, rfl⟩
        unfold Nt.cs at M8
        rw [← hg8] at M8 ⊢
        clear hb hg8
        generalize w4.alloc (.cells #[.int .i64 mm.k, .int .i64 mm.e, .int .i64 mm.s, .int .i64 mm.u, .int .i64 mm.v, .int .i64 mm.t] 38) = w5 at *
        go_upto_region 7 with (first
          | ((with_reducible show wpList _ _ _ ({ dst := some 30, op := .load _ _, type := _, pos := _, after := _, guard := _ } :: _) _ _); refine wpList_load_wk rfl (.tmp 3) rfl rfl (R.out.on B.out) ?_)
          | (go_at_call 31; (with_reducible refine (C3.out _).mono ?_); rintro e w6 ⟨rfl, hb⟩; replace S6 := Lib.hid (S6.out.on hb); replace M8 := Lib.hid (M8.out.on hb); replace B := Lib.hid (B.out.trans (hb.mono B.out.size)); clear hb))
        have hb := (Below.refl w6.heap.size w6).alloc (Nat.le_refl _) (.cells #[.int .i64 mm.k, .int .i64 mm.e, .int .i64 mm.s, .int .i64 mm.u, .int .i64 mm.v, .int .i64 mm.t] 38)
        have M10 := Lib.hid (NtAt.new w6 mm)
        replace B := Lib.hid (B.out.trans (hb.mono B.out.size))
        replace S6 := Lib.hid (S6.out.on hb)
        replace M8 := Lib.hid (M8.out.on hb)
        obtain ⟨g10, hg10⟩ : ∃ g, g = w6.heap.size := ⟨_, rfl⟩
        unfold Nt.cs at M10
        rw [← hg10] at M10 ⊢
        clear hb hg10
        generalize w6.alloc (.cells #[.int .i64 mm.k, .int .i64 mm.e, .int .i64 mm.s, .int .i64 mm.u, .int .i64 mm.v, .int .i64 mm.t] 38) = w7 at *
        have R7 := Lib.hid (R.out.on B.out)
        refine wp_region_held_drew (S := fun V => Below w7.heap.size w7 V) (by kernel_rfl) (Below.refl w7.heap.size w7).drew (fun hS => ?_)
        refine tkYes 0 (v := ?_) rfl (by kernel_rfl) (fun _ _ _ h => h) rfl ?_ hS ?_
        rotate_left
        · intro W hW; go_simp; (try with_reducible rfl)
        simp only [Act.put, List.setIfInBounds_toArray, List.set_cons_zero, List.set_cons_succ]
        refine tkYes 1 (v := .agg (Wk.cells r)) rfl (by kernel_rfl) (fun _ _ _ h => h) rfl (fun W hW => take_wk (.tmp 3) rfl rfl (R7.out.on hW)) hS ?_
        simp only [Act.put, List.setIfInBounds_toArray, List.set_cons_zero, List.set_cons_succ]
        refine tkYes 2 (v := ?_) rfl (by kernel_rfl) (fun _ _ _ h => h) rfl ?_ hS ?_
        rotate_left
        · intro W hW; go_simp; (try with_reducible rfl)
        simp only [Act.put, List.setIfInBounds_toArray, List.set_cons_zero, List.set_cons_succ]
        refine rnOne 3 rfl (by kernel_rfl) rfl (fun K hK => ?_)
        go_simp
        with_reducible refine (CO.out _).mono ?_
        rintro e w8 ⟨rfl, hb⟩
        replace hS := hS.trans (hb.mono hS.size)
        clear hb
        try go_simp
        refine hK.out _ _ hS (fun _ => ?_)
        clear hK K
        try simp only [Act.put, List.setIfInBounds_toArray, List.set_cons_zero, List.set_cons_succ]
        refine tkYes 4 (v := ?_) rfl (by kernel_rfl) (fun _ _ _ h => h) rfl ?_ hS ?_
        rotate_left
        · intro W hW; go_simp; (try with_reducible rfl)
        simp only [Act.put, List.setIfInBounds_toArray, List.set_cons_zero, List.set_cons_succ]
        refine tkYes 5 (v := ?_) rfl (by kernel_rfl) (fun _ _ _ h => h) rfl ?_ hS ?_
        rotate_left
        · intro W hW; go_simp; (try with_reducible rfl)
        simp only [Act.put, List.setIfInBounds_toArray, List.set_cons_zero, List.set_cons_succ]
        refine tkYes 6 (v := Nt.val mm) rfl (by kernel_rfl) (fun _ _ _ h => h) rfl (fun W hW => take_msg (.tmp 8) rfl g8 0 mm rfl (M8.out.on hW).range) hS ?_
        simp only [Act.put, List.setIfInBounds_toArray, List.set_cons_zero, List.set_cons_succ]
        refine tkYes 7 (v := Nt.val mm) rfl (by kernel_rfl) (fun _ _ _ h => h) rfl (fun W hW => take_msg (.tmp 10) rfl g10 0 mm rfl (M10.out.on hW).range) hS ?_
        simp only [Act.put, List.setIfInBounds_toArray, List.set_cons_zero, List.set_cons_succ]
        refine tkYes 8 (v := ?_) rfl (by kernel_rfl) (fun _ _ _ h => h) rfl ?_ hS ?_
        rotate_left
        · intro W hW; have e8 := fun W => msg_neq (a := mm) (b := mm) (q := false) (by simp) W; go_simp; (try with_reducible rfl)
        simp only [Act.put, List.setIfInBounds_toArray, List.set_cons_zero, List.set_cons_succ]
        refine tkYes 9 (v := ?_) rfl (by kernel_rfl) (fun _ _ _ h => h) rfl ?_ hS ?_
        rotate_left
        · intro W hW; go_simp; (try with_reducible rfl)
        simp only [Act.put, List.setIfInBounds_toArray, List.set_cons_zero, List.set_cons_succ]
        refine tkYes 10 (v := ?_) rfl (by kernel_rfl) (fun _ _ _ h => h) rfl ?_ hS ?_
        rotate_left
        · intro W hW; go_simp; (try with_reducible rfl)
        simp only [Act.put, List.setIfInBounds_toArray, List.set_cons_zero, List.set_cons_succ]
        refine tkYes 11 (v := ?_) rfl (by kernel_rfl) (fun _ _ _ h => h) rfl ?_ hS ?_
        rotate_left
        · intro W hW; go_simp; (try with_reducible rfl)
        simp only [Act.put, List.setIfInBounds_toArray, List.set_cons_zero, List.set_cons_succ]
        refine tkYes 12 (v := ?_) rfl (by kernel_rfl) (fun _ _ _ h => h) rfl ?_ hS ?_
        rotate_left
        · intro W hW; go_simp; (try with_reducible rfl)
        simp only [Act.put, List.setIfInBounds_toArray, List.set_cons_zero, List.set_cons_succ]
        refine tkYes 13 (v := ?_) rfl (by kernel_rfl) (fun _ _ _ h => h) rfl ?_ hS ?_
        rotate_left
        · intro W hW; go_simp; (try with_reducible rfl)
        simp only [Act.put, List.setIfInBounds_toArray, List.set_cons_zero, List.set_cons_succ]
        refine tkYes 14 (v := ?_) rfl (by kernel_rfl) (fun _ _ _ h => h) rfl ?_ hS ?_
        rotate_left
        · intro W hW; go_simp; (try with_reducible rfl)
        simp only [Act.put, List.setIfInBounds_toArray, List.set_cons_zero, List.set_cons_succ]
        refine tkYes 15 (v := ?_) rfl (by kernel_rfl) (fun _ _ _ h => h) rfl ?_ hS ?_
        rotate_left
        · intro W hW; go_simp; (try with_reducible rfl)
        simp only [Act.put, List.setIfInBounds_toArray, List.set_cons_zero, List.set_cons_succ]
        refine tkYes 16 (v := ?_) rfl (by kernel_rfl) (fun _ _ _ h => h) rfl ?_ hS ?_
        rotate_left
        · intro W hW; go_simp; (try with_reducible rfl)
        simp only [Act.put, List.setIfInBounds_toArray, List.set_cons_zero, List.set_cons_succ]
        refine tkYes 17 (v := ?_) rfl (by kernel_rfl) (fun _ _ _ h => h) rfl ?_ hS ?_
        rotate_left
        · intro W hW; go_simp; (try with_reducible rfl)
        simp only [Act.put, List.setIfInBounds_toArray, List.set_cons_zero, List.set_cons_succ]
        refine tkNo 18 rfl (by kernel_rfl) (fun _ _ _ h => h) rfl hS ?_
        simp only [Act.put, List.setIfInBounds_toArray, List.set_cons_zero, List.set_cons_succ]
        refine tkNo 19 rfl (by kernel_rfl) (fun _ _ _ h => h) rfl hS ?_
        simp only [Act.put, List.setIfInBounds_toArray, List.set_cons_zero, List.set_cons_succ]
        refine tkNo 20 rfl (by kernel_rfl) (fun _ _ _ h => h) rfl hS ?_
        simp only [Act.put, List.setIfInBounds_toArray, List.set_cons_zero, List.set_cons_succ]
        refine tkNo 21 rfl (by kernel_rfl) (fun _ _ _ h => h) rfl hS ?_
        simp only [Act.put, List.setIfInBounds_toArray, List.set_cons_zero, List.set_cons_succ]
        refine tkNo 22 rfl (by kernel_rfl) (fun _ _ _ h => h) rfl hS ?_
        simp only [Act.put, List.setIfInBounds_toArray, List.set_cons_zero, List.set_cons_succ]
        refine tkNo 23 rfl (by kernel_rfl) (fun _ _ _ h => h) rfl hS ?_
        simp only [Act.put, List.setIfInBounds_toArray, List.set_cons_zero, List.set_cons_succ]
        refine tkYes 24 (v := ?_) rfl (by kernel_rfl) (fun _ _ _ h => h) rfl ?_ hS ?_
        rotate_left
        · intro W hW; go_simp; (try with_reducible rfl)
        simp only [Act.put, List.setIfInBounds_toArray, List.set_cons_zero, List.set_cons_succ]
        refine tkYes 25 (v := ?_) rfl (by kernel_rfl) (fun _ _ _ h => h) rfl ?_ hS ?_
        rotate_left
        · intro W hW; go_simp; (try with_reducible rfl)
        simp only [Act.put, List.setIfInBounds_toArray, List.set_cons_zero, List.set_cons_succ]
        refine wpAnyH_done (by kernel_rfl) ?_ _
        go_wp2_with fail
        replace B := Lib.hid (B.out.trans (hS.mono B.out.size))
        exact ⟨⟨_, by go_num, by omega, by omega, B.out⟩, by simp [intOf]; omega⟩
    · go_wp2_with fail
      clear hlt hu0 hu1
      go_loopw [12] (fun i wx => ∃ v : Int, i = .int .i64 v ∧ -1 ≤ v ∧ v ≤ 6 ∧ Below W1.heap.size W1 wx) (fun i wx => (7 - (intOf i)).toNat)
      case atStart => exact ⟨-1, rfl, by omega, by omega, B.out⟩
      case round =>
        obtain ⟨v, rfl, hv0, hv1, hb0⟩ := hrel
        replace B := Lib.hid hb0
        clear hb0
        by_cases hlt : v ≤ 5
        · have hv : Nt.i64 v := by unfold Nt.i64; omega
          have hw : wrap64 (v + 1) = v + 1 := IntWalk.wrap64_in _ ⟨by omega, by omega⟩
          have C4 := Lib.hid (fun w (h : WIn L w0 F q r w) => win_count HC.out h hv)
          have C5 := Lib.hid (fun w => rwcount_any (s := r) v HM.out w)
          obtain ⟨nn, hnn⟩ : ∃ nn : Nat, nn = Wk.count r v 16 := ⟨_, rfl⟩
          rw [← hnn] at C4 C5
          clear hnn
          go_upto_region 12 with fail
          have R9 := Lib.hid (R.out.on B.out)
          refine wp_region_held_drew (S := fun V => Below wr.heap.size wr V) (by kernel_rfl) (Below.refl wr.heap.size wr).drew (fun hS => ?_)
          refine tkYes 0 (v := ?_) rfl (by kernel_rfl) (fun _ _ _ h => h) rfl ?_ hS ?_
          rotate_left
          · intro W hW; go_simp; (try with_reducible rfl)
          simp only [Act.put, List.setIfInBounds_toArray, List.set_cons_zero, List.set_cons_succ]
          refine tkYes 1 (v := ?_) rfl (by kernel_rfl) (fun _ _ _ h => h) rfl ?_ hS ?_
          rotate_left
          · intro W hW; go_simp; (try with_reducible rfl)
          simp only [Act.put, List.setIfInBounds_toArray, List.set_cons_zero, List.set_cons_succ]
          refine tkYes 3 (v := .agg (Wk.cells r)) rfl (by kernel_rfl) (fun _ _ _ h => h) rfl (fun W hW => take_wk (.tmp 3) rfl rfl (R9.out.on hW)) hS ?_
          simp only [Act.put, List.setIfInBounds_toArray, List.set_cons_zero, List.set_cons_succ]
          refine tkYes 4 (v := ?_) rfl (by kernel_rfl) (fun _ _ _ h => h) rfl ?_ hS ?_
          rotate_left
          · intro W hW; go_simp; (try with_reducible rfl)
          simp only [Act.put, List.setIfInBounds_toArray, List.set_cons_zero, List.set_cons_succ]
          refine rnOne 2 rfl (by kernel_rfl) rfl (fun K hK => ?_)
          go_simp
          with_reducible refine (C4.out _ (I.out.on HC.out (B.out.trans (hS.mono B.out.size)))).mono ?_
          rintro e w5 ⟨rfl, hb⟩
          replace hS := hS.trans (hb.mono hS.size)
          clear hb
          try go_simp
          refine hK.out _ _ hS (fun _ => ?_)
          clear hK K
          try simp only [Act.put, List.setIfInBounds_toArray, List.set_cons_zero, List.set_cons_succ]
          refine rnOne 5 rfl (by kernel_rfl) rfl (fun K hK => ?_)
          go_simp
          with_reducible refine (C5.out _).mono ?_
          rintro e w6 ⟨rfl, hb⟩
          replace hS := hS.trans (hb.mono hS.size)
          clear hb
          try go_simp
          refine hK.out _ _ hS (fun _ => ?_)
          clear hK K
          try simp only [Act.put, List.setIfInBounds_toArray, List.set_cons_zero, List.set_cons_succ]
          refine tkYes 6 (v := ?_) rfl (by kernel_rfl) (fun _ _ _ h => h) rfl ?_ hS ?_
          rotate_left
          · intro W hW; go_simp; (try with_reducible rfl)
          simp only [Act.put, List.setIfInBounds_toArray, List.set_cons_zero, List.set_cons_succ]
          refine wpAnyH_done (by kernel_rfl) ?_ _
          go_wp2_with fail
          exact ⟨⟨_, by go_num, by omega, by omega, B.out.trans (hS.mono B.out.size)⟩, by simp [intOf]; omega⟩
        · have C6 := Lib.hid (fun w (h : WIn L w0 F q r w) => win_seen HC.out h)
          have UL := Lib.hid (Wk.units_le r 16)
          obtain ⟨us, hus⟩ : ∃ us, us = Wk.units r 16 := ⟨_, rfl⟩
          have HNU := Lib.hid hus
          rw [← hus] at UL
          clear hus
          go_upto_region 14 with fail
          clear hlt hv0 hv1
          have R9 := Lib.hid (R.out.on B.out)
          refine wp_region_held_drew (S := fun V => Below wr.heap.size wr V) (by kernel_rfl) (Below.refl wr.heap.size wr).drew (fun hS => ?_)
          refine tkYes 0 (v := ?_) rfl (by kernel_rfl) (fun _ _ _ h => h) rfl ?_ hS ?_
          rotate_left
          · intro W hW; go_simp; (try with_reducible rfl)
          simp only [Act.put, List.setIfInBounds_toArray, List.set_cons_zero, List.set_cons_succ]
          refine tkYes 2 (v := ?_) rfl (by kernel_rfl) (fun _ _ _ h => h) rfl ?_ hS ?_
          rotate_left
          · intro W hW; go_simp; (try with_reducible rfl)
          simp only [Act.put, List.setIfInBounds_toArray, List.set_cons_zero, List.set_cons_succ]
          refine tkYes 3 (v := ?_) rfl (by kernel_rfl) (fun _ _ _ h => h) rfl ?_ hS ?_
          rotate_left
          · intro W hW; obtain ⟨c0, c1, c2, cl⟩ := (R9.out.on hW).cs; go_simp; (try with_reducible rfl)
          simp only [Act.put, List.setIfInBounds_toArray, List.set_cons_zero, List.set_cons_succ]
          refine rnOne 1 rfl (by kernel_rfl) rfl (fun K hK => ?_)
          go_simp
          with_reducible refine (C6.out _ (I.out.on HC.out (B.out.trans (hS.mono B.out.size)))).mono ?_
          rintro e w5 ⟨rfl, hb⟩
          replace hS := hS.trans (hb.mono hS.size)
          clear hb
          try go_simp
          refine hK.out _ _ hS (fun _ => ?_)
          clear hK K
          try simp only [Act.put, List.setIfInBounds_toArray, List.set_cons_zero, List.set_cons_succ]
          refine tkYes 4 (v := ?_) rfl (by kernel_rfl) (fun _ _ _ h => h) rfl ?_ hS ?_
          rotate_left
          · intro W hW; go_simp; (try with_reducible rfl)
          simp only [Act.put, List.setIfInBounds_toArray, List.set_cons_zero, List.set_cons_succ]
          refine tkYes 5 (v := ?_) rfl (by kernel_rfl) (fun _ _ _ h => h) rfl ?_ hS ?_
          rotate_left
          · intro W hW; go_simp; (try with_reducible rfl)
          simp only [Act.put, List.setIfInBounds_toArray, List.set_cons_zero, List.set_cons_succ]
          refine tkYes 6 (v := ?_) rfl (by kernel_rfl) (fun _ _ _ h => h) rfl ?_ hS ?_
          rotate_left
          · intro W hW; go_simp; (try with_reducible rfl)
          simp only [Act.put, List.setIfInBounds_toArray, List.set_cons_zero, List.set_cons_succ]
          refine tkYes 8 (v := .agg (Wk.cells r)) rfl (by kernel_rfl) (fun _ _ _ h => h) rfl (fun W hW => take_wk (.tmp 3) rfl rfl (R9.out.on hW)) hS ?_
          simp only [Act.put, List.setIfInBounds_toArray, List.set_cons_zero, List.set_cons_succ]
          refine rnOne 7 rfl (by kernel_rfl) rfl (fun K hK => ?_)
          go_simp
          with_reducible refine (win_units HC.out (I.out.on HC.out (B.out.trans (hS.mono B.out.size)))).mono ?_
          rintro e w6 ⟨v6, rfl, ov6, hb⟩
          obtain ⟨A6, c6, rfl, s6⟩ := ov6.sl
          rw [← HNU.out] at s6 ⊢
          have S6 := Lib.hid s6
          replace hS := hS.trans (hb.mono hS.size)
          clear hb s6 ov6
          try go_simp
          refine hK.out _ _ hS (fun _ => ?_)
          clear hK K
          try simp only [Act.put, List.setIfInBounds_toArray, List.set_cons_zero, List.set_cons_succ]
          refine rnOne 9 rfl (by kernel_rfl) rfl (fun K hK => ?_)
          go_simp
          with_reducible refine (rwunits_any HM.out _).mono ?_
          rintro e w7 ⟨v7, rfl, ov7, hb⟩
          obtain ⟨A7, c7, rfl, s7⟩ := ov7.sl
          rw [← HNU.out] at s7 ⊢
          have S7 := Lib.hid s7
          replace S6 := Lib.hid (S6.out.on hb)
          replace hS := hS.trans (hb.mono hS.size)
          clear hb s7 ov7
          try go_simp
          refine hK.out _ _ hS (fun _ => ?_)
          clear hK K
          try simp only [Act.put, List.setIfInBounds_toArray, List.set_cons_zero, List.set_cons_succ]
          refine rnOne 10 rfl (by kernel_rfl) rfl (fun K hK => ?_)
          go_simp
          with_reducible refine (same_any us.length c6 c7 A6 A7 us _ S6.out S7.out (by have := UL.out; omega)).mono ?_
          rintro e w8 ⟨rfl, dd, rfl⟩
          replace hS := Below.drewN hS dd
          try go_simp
          refine hK.out _ _ hS (fun _ => ?_)
          clear hK K
          try simp only [Act.put, List.setIfInBounds_toArray, List.set_cons_zero, List.set_cons_succ]
          refine tkYes 11 (v := ?_) rfl (by kernel_rfl) (fun _ _ _ h => h) rfl ?_ hS ?_
          rotate_left
          · intro W hW; go_simp; (try with_reducible rfl)
          simp only [Act.put, List.setIfInBounds_toArray, List.set_cons_zero, List.set_cons_succ]
          refine tkYes 12 (v := ?_) rfl (by kernel_rfl) (fun _ _ _ h => h) rfl ?_ hS ?_
          rotate_left
          · intro W hW; go_simp; (try with_reducible rfl)
          simp only [Act.put, List.setIfInBounds_toArray, List.set_cons_zero, List.set_cons_succ]
          refine wpAnyH_done (by kernel_rfl) ?_ _
          go_wp2_with fail
          go_ret
          exact ⟨rfl, (BW.out.trans ((B.out.trans (hS.mono B.out.size)).mono BW.out.size))⟩
end Go.Proofs.Ytgljepjflpijiaa
