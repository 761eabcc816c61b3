/-
  Package lease: Take. Written by wip/tools/gen/lstake.py. No condition.
-/
import Derived.Test.YtemnioijgkahcaaLd6
namespace Go.Proofs.Ytemnioijgkahcaa
open Go.RowKit Go.Deep Go.Maps

set_option maxHeartbeats 1600000 in
theorem lstake_any (W : World) (X : Nat → Prop) (q : Nat) (mo : Option Nat) (s : Ls.St) (hx : LsX W X q mo) (h : LsIs W q mo s) (hf : Ls.Few s 1000000) (k : ByteArray) (hk : k.size ≤ maxLen) (ho now ttl : Int) :
    Calls Try.prog 12 #[.pointer (some ⟨q, 0, none⟩), .string k, .int .i64 ho, .int .i64 now, .int .i64 ttl] W (LTurn LsP X q (Ls.takeS s k ho now ttl) (.tuple #[.int .i64 (Ls.takeN s k ho now ttl), .int .i64 (Ls.takeE s k ho now ttl : Nat)]) W) := by
  have HX := Lib.hid hx
  have H0 := Lib.hid h
  have HF := Lib.hid hf
  have HKS := Lib.hid hk
  have RIs : ∀ n e, Ls.takeE s k ho now ttl = e → Ls.takeN s k ho now ttl = n → Hid (Ls.takeE s k ho now ttl = e ∧ Ls.takeN s k ho now ttl = n) := fun _ _ h1 h2 => ⟨h1, h2⟩
  clear hx h hf hk
  by_cases hr : Ls.Right k ho now ttl
  case neg =>
    have e1 : Ls.takeE s k ho now ttl = 1 := by unfold Ls.takeE; rw [if_pos hr]
    have e2 : Ls.takeN s k ho now ttl = 0 := by unfold Ls.takeN; rw [if_neg (by rw [e1]; omega)]
    have e3 : Ls.takeS s k ho now ttl = s := by unfold Ls.takeS; rw [if_neg (by rw [e1]; omega)]
    rw [e1, e2, e3]
    have CM := Lib.hid (lsmay_any W k ho now ttl HKS.out (x := false) (by simpa using hr))
    clear e1 e2 e3 hr RIs
    go_enter Try.func12, Try.ntmps12
    go_wp2_with (go_at_call 21; (with_reducible refine CM.out.mono ?_); rintro e w1 ⟨rfl, rfl⟩)
    exact bodyPost_ret (v := .tuple #[.int .i64 0, .int .i64 1]) (by simp [results, Try.results12, go_sem]) rfl (ls_stay HX.out H0.out (Below.refl _ _) _)
  have CM := Lib.hid (lsmay_any W k ho now ttl HKS.out (x := true) (by simpa using hr))
  have HR := Lib.hid hr
  obtain ⟨a, ha⟩ : ∃ a, a = Ls.holderOf s.l k := ⟨_, rfl⟩
  obtain ⟨b, hb⟩ : ∃ b, b = Ls.epochOf s.l k := ⟨_, rfl⟩
  obtain ⟨c, hc⟩ : ∃ c, c = Ls.tillOf s.l k := ⟨_, rfl⟩
  have TT := Lib.hid (Ls.till_time H0.out.good k)
  rw [← hc] at TT
  have EP := Lib.hid (And.intro (Ls.epoch_pos H0.out.good k) (Ls.few_epoch HF.out k))
  rw [← hb] at EP
  have EA := Lib.hid ha.symm
  have EB := Lib.hid hb.symm
  have EC := Lib.hid hc.symm
  have FI := Lib.hid (Ls.free_iff H0.out.good k now)
  rw [← hc] at FI
  have CFx : Hid (∀ x : Bool, (x = true ↔ Ls.Free s k now) → ∀ W, Calls Try.prog 22 #[.agg #[.int .i64 a, .int .i64 b, .int .i64 c], .int .i64 now, .int .i64 s.margin] W (fun e w' => e = .returned (.bool x) ∧ Below W.heap.size W w')) := fun x hx W => lsfree_any W a b c now s.margin TT.out.1 TT.out.2 H0.out.good.m0 H0.out.good.m1 (hx.trans FI.out)
  clear ha hb hc hr RIs
  by_cases hfr : Ls.Free s k now
  case neg =>
    have e1 : Ls.takeE s k ho now ttl = 9 := by unfold Ls.takeE; rw [if_neg (fun h => h HR.out), if_pos hfr]
    have e2 : Ls.takeN s k ho now ttl = 0 := by unfold Ls.takeN; rw [if_neg (by rw [e1]; omega)]
    have e3 : Ls.takeS s k ho now ttl = s := by unfold Ls.takeS; rw [if_neg (by rw [e1]; omega)]
    rw [e1, e2, e3]
    have CF := Lib.hid (CFx.out false (by simpa using hfr))
    clear e1 e2 e3 hfr CFx
    go_enter Try.func12, Try.ntmps12
    go_upto_region 3 with (go_at_call 21; (with_reducible refine CM.out.mono ?_); rintro e w1 ⟨rfl, rfl⟩)
    obtain ⟨c0, c1, f1, hq⟩ := H0.out.cells
    have hlk := H0.out.look k HKS.out
    rw [EA.out, EB.out, EC.out] at hlk
    unfold leV at hlk
    go_upto_region 4 with fail
    have B2 := Lib.hid ((Below.refl w1.heap.size w1).alloc (Nat.le_refl _) (.cells #[.int .i64 a, .int .i64 b, .int .i64 c] 36))
    have R2 := Lib.hid (heap_alloc_new w1 (.cells #[.int .i64 a, .int .i64 b, .int .i64 c] 36))
    have H2 := Lib.hid (H0.out.on B2.out)
    obtain ⟨g, hg⟩ : ∃ g, g = w1.heap.size := ⟨_, rfl⟩
    rw [← hg] at R2 ⊢
    have GB : Hid (w1.heap.size ≤ g) := Nat.le_of_eq hg.symm
    clear hg c0 c1 f1 hq hlk
    generalize w1.alloc (.cells #[.int .i64 a, .int .i64 b, .int .i64 c] 36) = w2 at *
    refine wp_region_held_drew (S := fun W => LsIs W q mo s ∧ W.heap[g]? = some (.cells #[.int .i64 a, .int .i64 b, .int .i64 c] 36 (0, 0))) (by kernel_rfl) ⟨H2.out.on (Below.refl w2.heap.size w2).drew, R2.out⟩ (fun hS => ?_)
    refine tkYes 0 (v := ?_) rfl (by kernel_rfl) (fun _ _ _ h => h) rfl ?_ hS ?_
    rotate_left
    · intro W hW; have d0 := LsCells.c0 hW.2; have d1 := LsCells.c1 hW.2; have d2 := LsCells.c2 hW.2; go_simp; (try with_reducible rfl)
    simp only [Act.put, List.setIfInBounds_toArray, List.set_cons_zero, List.set_cons_succ]
    refine tkYes 1 (v := ?_) rfl (by kernel_rfl) (fun _ _ _ h => h) rfl ?_ hS ?_
    rotate_left
    · intro W hW; go_simp; (try with_reducible rfl)
    simp only [Act.put, List.setIfInBounds_toArray, List.set_cons_zero, List.set_cons_succ]
    refine tkYes 2 (v := ?_) rfl (by kernel_rfl) (fun _ _ _ h => h) rfl ?_ hS ?_
    rotate_left
    · intro W hW; go_simp; (try with_reducible rfl)
    simp only [Act.put, List.setIfInBounds_toArray, List.set_cons_zero, List.set_cons_succ]
    refine tkYes 3 (v := ?_) rfl (by kernel_rfl) (fun _ _ _ h => h) rfl ?_ hS ?_
    rotate_left
    · intro W hW; go_simp; (try with_reducible rfl)
    simp only [Act.put, List.setIfInBounds_toArray, List.set_cons_zero, List.set_cons_succ]
    refine tkYes 4 (v := ?_) rfl (by kernel_rfl) (fun _ _ _ h => h) rfl ?_ hS ?_
    rotate_left
    · intro W hW; go_simp; (try with_reducible rfl)
    simp only [Act.put, List.setIfInBounds_toArray, List.set_cons_zero, List.set_cons_succ]
    refine tkYes 5 (v := ?_) rfl (by kernel_rfl) (fun _ _ _ h => h) rfl ?_ hS ?_
    rotate_left
    · intro W hW; obtain ⟨c0, c1, f1, hq⟩ := hW.1.cells; go_simp; (try with_reducible rfl)
    simp only [Act.put, List.setIfInBounds_toArray, List.set_cons_zero, List.set_cons_succ]
    refine rnOne 6 rfl (by kernel_rfl) rfl (fun K hK => ?_)
    go_simp
    with_reducible refine (CF.out _).mono ?_
    rintro e w3 ⟨rfl, hb⟩
    have hS2 : LsIs w3 q mo s ∧ _ := ⟨hS.1.on hb, blk_on hS.2 hb⟩
    have B3 := Lib.hid (B2.out.drew.trans (hb.mono B2.out.drew.size))
    clear hS hb
    have hS := hS2
    clear hS2
    refine hK.out _ _ hS (fun _ => ?_)
    clear hK K
    try simp only [Act.put, List.setIfInBounds_toArray, List.set_cons_zero, List.set_cons_succ]
    refine tkYes 7 (v := ?_) rfl (by kernel_rfl) (fun _ _ _ h => h) rfl ?_ hS ?_
    rotate_left
    · intro W hW; go_simp; (try with_reducible rfl)
    simp only [Act.put, List.setIfInBounds_toArray, List.set_cons_zero, List.set_cons_succ]
    refine wpAnyH_done (by kernel_rfl) ?_ _
    go_wp2_with fail
    exact bodyPost_ret (v := .tuple #[.int .i64 0, .int .i64 9]) (by simp [results, Try.results12, go_sem]) rfl (ls_stay HX.out H0.out B3.out _)
  case pos =>
    have e1 : Ls.takeE s k ho now ttl = 0 := by unfold Ls.takeE; rw [if_neg (fun h => h HR.out), if_neg (fun h => h hfr)]
    have e2 : Ls.takeN s k ho now ttl = b + 1 := by unfold Ls.takeN; rw [if_pos e1, EB.out]
    have e3 : Ls.takeS s k ho now ttl = ⟨s.margin, Ls.put s.l ⟨k, ho, b + 1, Ls.late now ttl, false⟩⟩ := by unfold Ls.takeS; rw [if_pos e1]; unfold Ls.taken; rw [EB.out]
    have GD := Ls.taken_good H0.out.good HR.out
    have FW := Ls.take_few HF.out k ho now ttl
    unfold Ls.taken at GD
    rw [EB.out] at GD
    rw [e3] at FW
    rw [e1, e2, e3]
    have CF := Lib.hid (CFx.out true (by simpa using hfr))
    have CL := Lib.hid (fun W => lslater_any W now ttl (by have := HR.out.2.2.2.2.1.1; omega) (by have := HR.out.2.2.2.2.1.2; omega) (by have := HR.out.2.2.2.2.2.1; omega) (by have := HR.out.2.2.2.2.2.2; omega))
    generalize Ls.late now ttl = d at *
    have CP : Hid (∀ W, LsIs W q mo s → Calls Try.prog 23 #[.pointer (some ⟨q, 0, none⟩), .string k, .agg #[.int .i64 ho, .int .i64 (b + 1), .int .i64 d]] W (LsPut W q mo ⟨s.margin, Ls.put s.l ⟨k, ho, b + 1, d, false⟩⟩)) := fun W h => lsput_any W q mo s h k HKS.out ho (b + 1) d false GD FW
    have hs1 : IntKind.i64.wrap (b + 1) = b + 1 := by have := EP.out.1; have := EP.out.2; rw [IntKind.wrap_i64]; omega
    have hs2 : wrap64 (b + 1) = b + 1 := by have := EP.out.1; have := EP.out.2; exact IntWalk.wrap64_in _ ⟨by omega, by omega⟩
    clear e1 e2 e3 hfr CFx GD FW
    go_enter Try.func12, Try.ntmps12
    go_upto_region 3 with (go_at_call 21; (with_reducible refine CM.out.mono ?_); rintro e w1 ⟨rfl, rfl⟩)
    obtain ⟨c0, c1, f1, hq⟩ := H0.out.cells
    have hlk := H0.out.look k HKS.out
    rw [EA.out, EB.out, EC.out] at hlk
    unfold leV at hlk
    go_upto_region 4 with fail
    have B2 := Lib.hid ((Below.refl w1.heap.size w1).alloc (Nat.le_refl _) (.cells #[.int .i64 a, .int .i64 b, .int .i64 c] 36))
    have R2 := Lib.hid (heap_alloc_new w1 (.cells #[.int .i64 a, .int .i64 b, .int .i64 c] 36))
    have H2 := Lib.hid (H0.out.on B2.out)
    obtain ⟨g, hg⟩ : ∃ g, g = w1.heap.size := ⟨_, rfl⟩
    rw [← hg] at R2 ⊢
    have GB : Hid (w1.heap.size ≤ g) := Nat.le_of_eq hg.symm
    clear hg c0 c1 f1 hq hlk
    generalize w1.alloc (.cells #[.int .i64 a, .int .i64 b, .int .i64 c] 36) = w2 at *
    refine wp_region_held_drew (S := fun W => LsIs W q mo s ∧ W.heap[g]? = some (.cells #[.int .i64 a, .int .i64 b, .int .i64 c] 36 (0, 0))) (by kernel_rfl) ⟨H2.out.on (Below.refl w2.heap.size w2).drew, R2.out⟩ (fun hS => ?_)
    refine tkYes 0 (v := ?_) rfl (by kernel_rfl) (fun _ _ _ h => h) rfl ?_ hS ?_
    rotate_left
    · intro W hW; have d0 := LsCells.c0 hW.2; have d1 := LsCells.c1 hW.2; have d2 := LsCells.c2 hW.2; go_simp; (try with_reducible rfl)
    simp only [Act.put, List.setIfInBounds_toArray, List.set_cons_zero, List.set_cons_succ]
    refine tkYes 1 (v := ?_) rfl (by kernel_rfl) (fun _ _ _ h => h) rfl ?_ hS ?_
    rotate_left
    · intro W hW; go_simp; (try with_reducible rfl)
    simp only [Act.put, List.setIfInBounds_toArray, List.set_cons_zero, List.set_cons_succ]
    refine tkYes 2 (v := ?_) rfl (by kernel_rfl) (fun _ _ _ h => h) rfl ?_ hS ?_
    rotate_left
    · intro W hW; go_simp; (try with_reducible rfl)
    simp only [Act.put, List.setIfInBounds_toArray, List.set_cons_zero, List.set_cons_succ]
    refine tkYes 3 (v := ?_) rfl (by kernel_rfl) (fun _ _ _ h => h) rfl ?_ hS ?_
    rotate_left
    · intro W hW; go_simp; (try with_reducible rfl)
    simp only [Act.put, List.setIfInBounds_toArray, List.set_cons_zero, List.set_cons_succ]
    refine tkYes 4 (v := ?_) rfl (by kernel_rfl) (fun _ _ _ h => h) rfl ?_ hS ?_
    rotate_left
    · intro W hW; go_simp; (try with_reducible rfl)
    simp only [Act.put, List.setIfInBounds_toArray, List.set_cons_zero, List.set_cons_succ]
    refine tkYes 5 (v := ?_) rfl (by kernel_rfl) (fun _ _ _ h => h) rfl ?_ hS ?_
    rotate_left
    · intro W hW; obtain ⟨c0, c1, f1, hq⟩ := hW.1.cells; go_simp; (try with_reducible rfl)
    simp only [Act.put, List.setIfInBounds_toArray, List.set_cons_zero, List.set_cons_succ]
    refine rnOne 6 rfl (by kernel_rfl) rfl (fun K hK => ?_)
    go_simp
    with_reducible refine (CF.out _).mono ?_
    rintro e w3 ⟨rfl, hb⟩
    have hS2 : LsIs w3 q mo s ∧ _ := ⟨hS.1.on hb, blk_on hS.2 hb⟩
    have B3 := Lib.hid (B2.out.drew.trans (hb.mono B2.out.drew.size))
    clear hS hb
    have hS := hS2
    clear hS2
    refine hK.out _ _ hS (fun _ => ?_)
    clear hK K
    try simp only [Act.put, List.setIfInBounds_toArray, List.set_cons_zero, List.set_cons_succ]
    refine tkYes 7 (v := ?_) rfl (by kernel_rfl) (fun _ _ _ h => h) rfl ?_ hS ?_
    rotate_left
    · intro W hW; go_simp; (try with_reducible rfl)
    simp only [Act.put, List.setIfInBounds_toArray, List.set_cons_zero, List.set_cons_succ]
    refine wpAnyH_done (by kernel_rfl) ?_ _
    go_upto_region 6 with fail
    have H4 := Lib.hid (hS.1.on (Below.refl w3.heap.size w3).drew)
    have RW := Lib.hid hS.2
    have B4 := Lib.hid B3.out.drew
    have NG : Hid (¬ (g = q ∨ mo = some g)) := fun h => by
      have := GB.out
      rcases h with rfl | h
      · have := HX.out.lt g HX.out.q; omega
      · have := HX.out.lt g (HX.out.m g h); omega
    clear hS
    refine wp_region_held_drew (S := fun W => W.heap[g]? = some (.cells #[.int .i64 a, .int .i64 b, .int .i64 c] 36 (0, 0))) (by kernel_rfl) RW.out (fun hS => ?_)
    refine tkYes 0 (v := ?_) rfl (by kernel_rfl) (fun _ _ _ h => h) rfl ?_ hS ?_
    rotate_left
    · intro W hW; go_simp; (try with_reducible rfl)
    simp only [Act.put, List.setIfInBounds_toArray, List.set_cons_zero, List.set_cons_succ]
    refine tkYes 1 (v := ?_) rfl (by kernel_rfl) (fun _ _ _ h => h) rfl ?_ hS ?_
    rotate_left
    · intro W hW; go_simp; (try with_reducible rfl)
    simp only [Act.put, List.setIfInBounds_toArray, List.set_cons_zero, List.set_cons_succ]
    refine tkYes 2 (v := ?_) rfl (by kernel_rfl) (fun _ _ _ h => h) rfl ?_ hS ?_
    rotate_left
    · intro W hW; go_simp; (try with_reducible rfl)
    simp only [Act.put, List.setIfInBounds_toArray, List.set_cons_zero, List.set_cons_succ]
    refine tkYes 3 (v := ?_) rfl (by kernel_rfl) (fun _ _ _ h => h) rfl ?_ hS ?_
    rotate_left
    · intro W hW; go_simp; (try with_reducible rfl)
    simp only [Act.put, List.setIfInBounds_toArray, List.set_cons_zero, List.set_cons_succ]
    refine tkYes 4 (v := ?_) rfl (by kernel_rfl) (fun _ _ _ h => h) rfl ?_ hS ?_
    rotate_left
    · intro W hW; have d0 := LsCells.c0 hW; have d1 := LsCells.c1 hW; have d2 := LsCells.c2 hW; go_simp; (try with_reducible rfl)
    simp only [Act.put, List.setIfInBounds_toArray, List.set_cons_zero, List.set_cons_succ]
    refine tkYes 5 (v := ?_) rfl (by kernel_rfl) (fun _ _ _ h => h) rfl ?_ hS ?_
    rotate_left
    · intro W hW; go_simp; (try with_reducible rfl)
    simp only [Act.put, List.setIfInBounds_toArray, List.set_cons_zero, List.set_cons_succ]
    refine tkYes 6 (v := ?_) rfl (by kernel_rfl) (fun _ _ _ h => h) rfl ?_ hS ?_
    rotate_left
    · intro W hW; go_simp; (try with_reducible rfl)
    simp only [Act.put, List.setIfInBounds_toArray, List.set_cons_zero, List.set_cons_succ]
    refine tkYes 7 (v := ?_) rfl (by kernel_rfl) (fun _ _ _ h => h) rfl ?_ hS ?_
    rotate_left
    · intro W hW; go_simp; (try with_reducible rfl)
    simp only [Act.put, List.setIfInBounds_toArray, List.set_cons_zero, List.set_cons_succ]
    refine rnOne 8 rfl (by kernel_rfl) rfl (fun K hK => ?_)
    go_simp
    with_reducible refine (CL.out _).mono ?_
    rintro e w4 ⟨rfl, hw⟩
    obtain rfl := hw.symm
    refine hK.out _ _ hS (fun _ => ?_)
    clear hK K
    try simp only [Act.put, List.setIfInBounds_toArray, List.set_cons_zero, List.set_cons_succ]
    refine tkYes 9 (v := ?_) rfl (by kernel_rfl) (fun _ _ _ h => h) rfl ?_ hS ?_
    rotate_left
    · intro W hW; go_simp; (try with_reducible rfl)
    simp only [Act.put, List.setIfInBounds_toArray, List.set_cons_zero, List.set_cons_succ]
    refine rnOne 10 rfl (by kernel_rfl) rfl (fun K hK => ?_)
    go_simp
    with_reducible refine (CP.out _ H4.out).mono ?_
    rintro e w5 ⟨mo5, rfl, hm5, hk5, hn5⟩
    have hS2 := (hk5.block g (Array.getElem?_eq_some_iff.1 hS).1 NG.out).trans hS
    have M5 := Lib.hid hm5
    have K5 := Lib.hid hk5
    have N5 := Lib.hid hn5
    clear hS hm5 hk5 hn5
    have hS := hS2
    clear hS2
    refine hK.out _ _ hS (fun _ => ?_)
    clear hK K
    try simp only [Act.put, List.setIfInBounds_toArray, List.set_cons_zero, List.set_cons_succ]
    refine wpAnyH_done (by kernel_rfl) ?_ _
    have d0 := LsCells.c0 hS
    have d1 := LsCells.c1 hS
    have d2 := LsCells.c2 hS
    go_wp2_with fail
    exact bodyPost_ret (v := .tuple #[.int .i64 (b + 1), .int .i64 0]) (by simp [results, Try.results12, go_sem]) rfl (ls_turn HX.out B4.out M5.out K5.out N5.out _)
end Go.Proofs.Ytemnioijgkahcaa
