/-
  The helpers of the statements of layer 8: like, over any store that keeps the contracts. No condition.
-/
import Derived.Test.YtmkfiiheeplmgaaKvLaw1
namespace Go.Proofs.Ytmkfiiheeplmgaa
open Go.RowKit Go.Deep

theorem getD_en {l : List Kv.En} {j : Nat} {x : Kv.En} (hr : Kv.Rise l) (h : l[j]? = some x) : Kv.valOf l x.key = x.val ∧ Kv.revOf l x.key = x.rev := by
  unfold Kv.valOf Kv.revOf
  rw [Kv.find_mem hr (List.mem_of_getElem? h)]
  exact ⟨rfl, rfl⟩
set_option maxHeartbeats 3200000 in
set_option maxRecDepth 100000 in
theorem klike_any {K : KPred} (hC : KC K) (X : Nat → Prop) (q : Nat) (s : Kv.St) (n c : Nat) (A : Option Addr) (w : World) (hk : K w X q s) (h : SlE w A n c s.l) :
    Calls Try.prog 15 #[.pointer (some ⟨q, 0, none⟩), .agg #[.slice A n c, .int .i64 s.rev]] w fun e w' => e = .returned (.bool true) ∧ Below w.heap.size w w' := by
  have hn := h.len
  have hmx := h.max
  have hcp := h.cap
  unfold maxLen at hmx
  have hg := hC.good _ _ _ _ hk
  have GS := Lib.hid hg
  have HZ : Hid (s.l.length ≤ 1000) := Nat.le_trans hg.len (by omega)
  have HZ2 : Hid (∀ e ∈ s.l, e.key.size ≤ maxLen) := fun e he => by have := (hg.size e he).2.1; unfold maxLen; omega
  have B1 := Lib.hid ((Below.refl w.heap.size w).alloc (Nat.le_refl _) (.cells #[.slice A n c, .int .i64 s.rev] 28))
  have R1 := Lib.hid (RAt.new w (.slice A n c) s.rev)
  have HA := Lib.hid (h.on EEn.on B1.out)
  have KW := Lib.hid (hC.below hk B1.out)
  have HN := Lib.hid hn
  clear h hn hk hg
  go_enter Try.func15, Try.ntmps15
  go_upto_region 1 with fail
  obtain ⟨g, hg⟩ : ∃ g, g = w.heap.size := ⟨_, rfl⟩
  rw [← hg] at R1 ⊢
  generalize w.alloc (.cells #[.slice A n c, .int .i64 s.rev] 28) = w1 at *
  clear hg
  have X1 : Hid (∀ W, Below w1.heap.size w1 W → W.cell? ⟨g, 0, none⟩ = some (.slice A n c) ∧ W.cell? ⟨g, 1, none⟩ = some (.int .i64 s.rev)) := fun W hW => ⟨(R1.out.on hW).cells.1, (R1.out.on hW).cells.2.1⟩
  have CL : Hid (∀ W, Below w1.heap.size w1 W → Calls Try.prog 23 #[.pointer (some ⟨q, 0, none⟩)] W (KInt (n : Nat) W)) := fun W hW => by
    have h1 := hC.len W X q s (hC.below KW.out hW)
    rw [← HN.out] at h1
    exact h1
  refine wp_region_held_drew (S := fun W => Below w1.heap.size w1 W) (by kernel_rfl) (Below.refl w1.heap.size w1).drew (fun hS => ?_)
  refine tkYes 0 (v := ?_) rfl (by kernel_rfl) (fun _ _ _ h => h) rfl ?_ hS ?_
  rotate_left
  · intro W hW; go_simp; (try with_reducible rfl)
  simp only [Act.put, List.setIfInBounds_toArray, List.set_cons_zero, List.set_cons_succ]
  refine tkYes 2 (v := ?_) rfl (by kernel_rfl) (fun _ _ _ h => h) rfl ?_ hS ?_
  rotate_left
  · intro W hW; go_simp; (try with_reducible rfl)
  simp only [Act.put, List.setIfInBounds_toArray, List.set_cons_zero, List.set_cons_succ]
  refine tkYes 3 (v := ?_) rfl (by kernel_rfl) (fun _ _ _ h => h) rfl ?_ hS ?_
  rotate_left
  · intro W hW; obtain ⟨x1, x2⟩ := X1.out W hW; go_simp; (try with_reducible rfl)
  simp only [Act.put, List.setIfInBounds_toArray, List.set_cons_zero, List.set_cons_succ]
  refine rnOne 1 rfl (by kernel_rfl) rfl (fun K hK => ?_)
  go_simp
  with_reducible refine (hC.rev _ _ _ _ (hC.below KW.out hS)).mono ?_
  rintro e w2 ⟨rfl, hb2⟩
  have hS2 := hS.trans (hb2.mono hS.size)
  clear hS
  have hS := hS2
  clear hS2
  clear hb2
  refine hK.out _ _ hS (fun _ => ?_)
  clear hK K
  try simp only [Act.put, List.setIfInBounds_toArray, List.set_cons_zero, List.set_cons_succ]
  refine tkYes 4 (v := ?_) rfl (by kernel_rfl) (fun _ _ _ h => h) rfl ?_ hS ?_
  rotate_left
  · intro W hW; go_simp; (try with_reducible rfl)
  simp only [Act.put, List.setIfInBounds_toArray, List.set_cons_zero, List.set_cons_succ]
  refine tkYes 5 (v := ?_) rfl (by kernel_rfl) (fun _ _ _ h => h) rfl ?_ hS ?_
  rotate_left
  · intro W hW; go_simp; (try with_reducible rfl)
  simp only [Act.put, List.setIfInBounds_toArray, List.set_cons_zero, List.set_cons_succ]
  refine tkYes 6 (v := ?_) rfl (by kernel_rfl) (fun _ _ _ h => h) rfl ?_ hS ?_
  rotate_left
  · intro W hW; go_simp; (try with_reducible rfl)
  simp only [Act.put, List.setIfInBounds_toArray, List.set_cons_zero, List.set_cons_succ]
  refine tkYes 8 (v := ?_) rfl (by kernel_rfl) (fun _ _ _ h => h) rfl ?_ hS ?_
  rotate_left
  · intro W hW; go_simp; (try with_reducible rfl)
  simp only [Act.put, List.setIfInBounds_toArray, List.set_cons_zero, List.set_cons_succ]
  refine tkYes 9 (v := ?_) rfl (by kernel_rfl) (fun _ _ _ h => h) rfl ?_ hS ?_
  rotate_left
  · intro W hW; obtain ⟨x1, x2⟩ := X1.out W hW; go_simp; (try with_reducible rfl)
  simp only [Act.put, List.setIfInBounds_toArray, List.set_cons_zero, List.set_cons_succ]
  refine tkYes 10 (v := ?_) rfl (by kernel_rfl) (fun _ _ _ h => h) rfl ?_ hS ?_
  rotate_left
  · intro W hW; go_simp; (try with_reducible rfl)
  simp only [Act.put, List.setIfInBounds_toArray, List.set_cons_zero, List.set_cons_succ]
  refine rnOne 7 rfl (by kernel_rfl) rfl (fun K hK => ?_)
  go_simp
  with_reducible refine (CL.out _ hS).mono ?_
  rintro e w3 ⟨rfl, hb3⟩
  have hS2 := hS.trans (hb3.mono hS.size)
  clear hS
  have hS := hS2
  clear hS2
  clear hb3
  refine hK.out _ _ hS (fun _ => ?_)
  clear hK K
  try simp only [Act.put, List.setIfInBounds_toArray, List.set_cons_zero, List.set_cons_succ]
  refine tkYes 11 (v := ?_) rfl (by kernel_rfl) (fun _ _ _ h => h) rfl ?_ hS ?_
  rotate_left
  · intro W hW; go_simp; (try with_reducible rfl)
  simp only [Act.put, List.setIfInBounds_toArray, List.set_cons_zero, List.set_cons_succ]
  refine tkYes 12 (v := ?_) rfl (by kernel_rfl) (fun _ _ _ h => h) rfl ?_ hS ?_
  rotate_left
  · intro W hW; go_simp; (try with_reducible rfl)
  simp only [Act.put, List.setIfInBounds_toArray, List.set_cons_zero, List.set_cons_succ]
  refine tkYes 13 (v := ?_) rfl (by kernel_rfl) (fun _ _ _ h => h) rfl ?_ hS ?_
  rotate_left
  · intro W hW; go_simp; (try with_reducible rfl)
  simp only [Act.put, List.setIfInBounds_toArray, List.set_cons_zero, List.set_cons_succ]
  refine tkYes 14 (v := ?_) rfl (by kernel_rfl) (fun _ _ _ h => h) rfl ?_ hS ?_
  rotate_left
  · intro W hW; go_simp; (try with_reducible rfl)
  simp only [Act.put, List.setIfInBounds_toArray, List.set_cons_zero, List.set_cons_succ]
  refine tkYes 16 (v := ?_) rfl (by kernel_rfl) (fun _ _ _ h => h) rfl ?_ hS ?_
  rotate_left
  · intro W hW; obtain ⟨x1, x2⟩ := X1.out W hW; go_simp; (try with_reducible rfl)
  simp only [Act.put, List.setIfInBounds_toArray, List.set_cons_zero, List.set_cons_succ]
  refine rnOne 15 rfl (by kernel_rfl) rfl (fun K hK => ?_)
  go_simp
  with_reducible refine (hC.keys _ _ _ _ (hC.below KW.out hS)).mono ?_
  rintro e w4 ⟨v1, rfl, ho1, hb4⟩
  obtain ⟨A1, c1, rfl⟩ := ho1.form
  have T1 := Lib.hid ho1
  have hS2 := hS.trans (hb4.mono hS.size)
  clear hS
  have hS := hS2
  clear hS2
  clear hb4 ho1
  refine hK.out _ _ hS (fun _ => ?_)
  clear hK K
  try simp only [Act.put, List.setIfInBounds_toArray, List.set_cons_zero, List.set_cons_succ]
  refine rnOne 17 rfl (by kernel_rfl) rfl (fun K hK => ?_)
  go_simp
  with_reducible refine (rsince_any s _ _ _ 0 _ (HA.out.on EEn.on hS) HZ.out).mono ?_
  rintro e w5 ⟨v2, rfl, ho2, hb5⟩
  obtain ⟨A2, c2, rfl⟩ := ho2.form
  have T2 := Lib.hid ho2
  have T3 := Lib.hid (OwnTx.any (w1 := w5) (T1.out.below hb5))
  have hS2 := hS.trans (hb5.mono hS.size)
  clear hS
  have hS := hS2
  clear hS2
  clear hb5 ho2
  refine hK.out _ _ hS (fun _ => ?_)
  clear hK K
  try simp only [Act.put, List.setIfInBounds_toArray, List.set_cons_zero, List.set_cons_succ]
  refine rnOne 18 rfl (by kernel_rfl) rfl (fun K hK => ?_)
  go_simp
  with_reducible refine (rsame_any _ _ _ _ _ _ _ _ _ T3.out.readT T2.out.readT).mono ?_
  rintro e w6 ⟨⟨x, rfl, hx⟩, hb6⟩
  obtain rfl : x = true := hx.2 (Kv.since_zero GS.out).symm
  have hS2 := hS.trans (hb6.mono hS.size)
  clear hS
  have hS := hS2
  clear hS2
  clear hb6 hx
  refine hK.out _ _ hS (fun _ => ?_)
  clear hK K
  try simp only [Act.put, List.setIfInBounds_toArray, List.set_cons_zero, List.set_cons_succ]
  refine tkYes 19 (v := ?_) rfl (by kernel_rfl) (fun _ _ _ h => h) rfl ?_ hS ?_
  rotate_left
  · intro W hW; go_simp; (try with_reducible rfl)
  simp only [Act.put, List.setIfInBounds_toArray, List.set_cons_zero, List.set_cons_succ]
  refine tkYes 20 (v := ?_) rfl (by kernel_rfl) (fun _ _ _ h => h) rfl ?_ hS ?_
  rotate_left
  · intro W hW; go_simp; (try with_reducible rfl)
  simp only [Act.put, List.setIfInBounds_toArray, List.set_cons_zero, List.set_cons_succ]
  refine wpAnyH_done (by kernel_rfl) ?_ _
  have PX := Lib.hid hS
  obtain ⟨q0, q1⟩ := X1.out _ hS
  clear hS
  go_wp2_with fail
  go_loopw [5] (fun i wr => ∃ j : Nat, j ≤ n ∧ i = .int .i64 j ∧ Below w1.heap.size w1 wr) (fun i _ => n - (intOf i).toNat)
  case atStart => exact ⟨0, by omega, rfl, PX.out⟩
  case round =>
    obtain ⟨j, hj, rfl, hbr⟩ := hrel
    have B := Lib.hid hbr
    clear hbr
    clear q0 q1
    obtain ⟨q0, q1⟩ := X1.out _ B.out
    by_cases hlt : j < n
    · obtain ⟨b1, o1, rfl⟩ := HA.out.addr (by have := HN.out; omega)
      have EA : Hid (s.l[j]? = some (s.l[j]'(by have := HN.out; omega))) := List.getElem?_eq_getElem _
      generalize s.l[j]'(by have := HN.out; omega) = x at *
      obtain ⟨p0, p1, p2⟩ := HA.out.en EA.out B.out
      have VX := getD_en GS.out.rise EA.out
      have CG : Hid (∀ W, Below w1.heap.size w1 W → Calls Try.prog 16 #[.pointer (some ⟨q, 0, none⟩), .string x.key] W fun e w' => e = .returned (.tuple #[.string x.val, .int .i64 x.rev]) ∧ Below W.heap.size W w') := fun W hW => by
        have h1 := hC.get W X q s x.key (hC.below KW.out hW) (HZ2.out x (List.mem_of_getElem? EA.out))
        unfold KGet at h1
        rw [VX.1, VX.2] at h1
        exact h1
      clear VX
      go_wp2_with (go_at_call 16; (with_reducible refine (CG.out _ B.out).mono ?_); rintro e w7 ⟨rfl, hb7⟩; have B7 := Lib.hid (B.out.trans (hb7.mono B.out.size)); clear hb7 q0 q1 p0 p1 p2; obtain ⟨q0, q1⟩ := X1.out _ B7.out; obtain ⟨p0, p1, p2⟩ := HA.out.en EA.out B7.out)
      exact ⟨⟨j + 1, by omega, by go_num, B7.out⟩, by simp [intOf]; omega⟩
    · go_wp2_with fail
      go_ret
      exact ⟨rfl, B1.out.trans (B.out.mono B1.out.size)⟩
end Go.Proofs.Ytmkfiiheeplmgaa
