/-
  Layer 14's example. Written by wip/tools/gen/ntlives.py. No condition.
-/
import Derived.Test.YtmhhjipdbfepiaaNtQ
namespace Go.Proofs.Ytmhhjipdbfepiaa
open Go.RowKit Go.Deep
set_option maxRecDepth 100000
set_option linter.unusedSimpArgs false
set_option linter.unusedVariables false

set_option maxHeartbeats 6400000 in
theorem ntlives_any (w : World) : Calls Try.prog 9 #[] w (NPos w (.bool true)) := by
  have C0 := Lib.hid (nat_new (w0 := w) (W := w) (F := fun _ => False) 4 (Below.refl _ _) (fun b h => h.elim))
  obtain ⟨ma, hma⟩ : ∃ m : Nt.M, m = ⟨1, 0, 0, 1, 0, 0⟩ := ⟨_, rfl⟩
  obtain ⟨mb, hmb⟩ : ∃ m : Nt.M, m = ⟨2, 0, 0, 2, 0, 0⟩ := ⟨_, rfl⟩
  have ra : Nt.right ma = true := by rw [hma]; decide
  have rb : Nt.right mb = true := by rw [hmb]; decide
  have ia : Nt.In ma := by rw [hma]; exact ⟨by decide, by decide, by decide, by decide, by decide, by decide⟩
  have ib : Nt.In mb := by rw [hmb]; exact ⟨by decide, by decide, by decide, by decide, by decide, by decide⟩
  have e0 : Nt.new 4 = ⟨4, [], 0, 0⟩ := rfl
  have e1 : Nt.sendS ⟨4, [], 0, 0⟩ ma = ⟨4, [ma], 1, 0⟩ ∧ Nt.sendE ⟨4, [], 0, 0⟩ ma = 0 := by unfold Nt.sendS Nt.sendE Nt.putE; rw [if_pos ra, if_pos ra]; exact ⟨rfl, rfl⟩
  have e2 : Nt.sendS ⟨4, [ma], 1, 0⟩ mb = ⟨4, [ma, mb], 2, 0⟩ ∧ Nt.sendE ⟨4, [ma], 1, 0⟩ mb = 0 := by unfold Nt.sendS Nt.sendE Nt.putE; rw [if_pos rb, if_pos rb]; exact ⟨rfl, rfl⟩
  have e3 : Nt.takeS ⟨4, [ma, mb], 2, 0⟩ 1 = ⟨4, [ma], 2, 0⟩ ∧ Nt.takeM ⟨4, [ma, mb], 2, 0⟩ 1 = mb ∧ Nt.takeB ⟨4, [ma, mb], 2, 0⟩ = true := ⟨rfl, rfl, rfl⟩
  have e4 : Nt.takeS ⟨4, [ma], 2, 0⟩ 5 = ⟨4, [], 2, 0⟩ ∧ Nt.takeM ⟨4, [ma], 2, 0⟩ 5 = ma ∧ Nt.takeB ⟨4, [ma], 2, 0⟩ = true := by
    have h : Nt.pl 1 5 = 0 := by decide
    refine ⟨?_, ?_, rfl⟩
    · show (⟨4, Nt.cutL [ma] (Nt.pl 1 5), 2, 0⟩ : Nt.St) = _
      rw [h]
      rfl
    · show [ma].getD (Nt.pl 1 5) Nt.zero = _
      rw [h]
      rfl
  rw [e0] at C0
  go_enter Try.func9, Try.ntmps9
  go_upto_region 2 with (go_at_call 10; (with_reducible refine C0.out.mono ?_); rintro e w1 ⟨r, rfl, hn, _⟩; have Q0 : Hid (NQ w (fun _ => False) r [] ⟨4, [], 0, 0⟩ w1) := ⟨hn, fun p hp => by cases hp⟩; clear hn)
  clear C0 e0
  go_upto_region 3 with fail
  have va : w1.alloc (.cells #[.int .i64 1, .int .i64 0, .int .i64 0, .int .i64 1, .int .i64 0, .int .i64 0] 32) = w1.alloc (.cells (Nt.cs ma) 32) := by rw [hma]
  rw [va]
  clear va
  obtain ⟨F1, _, hq1⟩ := Q0.out.push ma
  have Q1 := Lib.hid hq1
  obtain ⟨ga, hga⟩ : ∃ g, g = w1.heap.size := ⟨_, rfl⟩
  rw [← hga] at Q1 ⊢
  clear hq1 hga Q0
  generalize w1.alloc (.cells (Nt.cs ma) 32) = w2 at *
  go_upto_region 4 with fail
  have vb : w2.alloc (.cells #[.int .i64 2, .int .i64 0, .int .i64 0, .int .i64 2, .int .i64 0, .int .i64 0] 32) = w2.alloc (.cells (Nt.cs mb) 32) := by rw [hmb]
  rw [vb]
  clear vb
  obtain ⟨F2, _, hq2⟩ := Q1.out.push mb
  have Q2 := Lib.hid hq2
  obtain ⟨gb, hgb⟩ : ∃ g, g = w2.heap.size := ⟨_, rfl⟩
  rw [← hgb] at Q2 ⊢
  clear hq2 hgb Q1
  generalize w2.alloc (.cells (Nt.cs mb) 32) = w3 at *
  have Q3 := Lib.hid (Q2.out.on (W' := w3.drew) (Below.refl w3.heap.size w3).drew)
  have C1 : Hid (∀ W, NQ w F2 r [(gb, mb), (ga, ma)] ⟨4, [], 0, 0⟩ W → Calls Try.prog 16 #[.pointer (some ⟨r, 0, none⟩), Nt.val ma] W (NRes w F2 r ⟨4, [ma], 1, 0⟩ (.int .i64 0) W)) := fun W h => by
    have := nat_send h.la ma ia (by decide) (by decide)
    rw [e1.1, e1.2] at this
    exact this
  have C2 : Hid (∀ W, NQ w F2 r [(gb, mb), (ga, ma)] ⟨4, [ma], 1, 0⟩ W → Calls Try.prog 16 #[.pointer (some ⟨r, 0, none⟩), Nt.val mb] W (NRes w F2 r ⟨4, [ma, mb], 2, 0⟩ (.int .i64 0) W)) := fun W h => by
    have := nat_send h.la mb ib ⟨by simp, by simp⟩ ⟨by simp, by simp⟩
    rw [e2.1, e2.2] at this
    exact this
  have C3 : Hid (∀ W, NQ w F2 r [(gb, mb), (ga, ma)] ⟨4, [ma, mb], 2, 0⟩ W → Calls Try.prog 18 #[.pointer (some ⟨r, 0, none⟩), .int .i64 1] W (NRes w F2 r ⟨4, [ma], 2, 0⟩ (.tuple #[Nt.val mb, .bool true]) W)) := fun W h => by
    have := nat_take h.la 1 (by decide)
    rw [e3.1, e3.2.1, e3.2.2] at this
    exact this
  have C4 : Hid (∀ (F8 : Nat → Prop) W (L : List (Nat × Nt.M)), NQ w F8 r L ⟨4, [ma], 2, 0⟩ W → Calls Try.prog 18 #[.pointer (some ⟨r, 0, none⟩), .int .i64 5] W (NRes w F8 r ⟨4, [], 2, 0⟩ (.tuple #[Nt.val ma, .bool true]) W)) := fun F8 W L h => by
    have := nat_take h.la 5 (by decide)
    rw [e4.1, e4.2.1, e4.2.2] at this
    exact this
  clear e1 e2 e3 e4 ra rb ia ib hma hmb
  refine wp_region_held_drew (S := fun X => NtAt X ga ma ∧ NtAt X gb mb) (by kernel_rfl) ⟨Q3.out.at_ 1 rfl, Q3.out.at_ 0 rfl⟩ (fun hS => ?_)
  refine tkYes 0 (v := ?_) rfl (by kernel_rfl) (fun _ _ _ h => h) rfl ?_ hS ?_
  rotate_left
  · intro W hW; go_simp; (try with_reducible rfl)
  simp only [Act.put, List.setIfInBounds_toArray, List.set_cons_zero, List.set_cons_succ]
  refine tkYes 1 (v := Nt.val ma) rfl (by kernel_rfl) (fun _ _ _ h => h) rfl (fun W hW => take_msg (.tmp 2) rfl ga 0 ma rfl hW.1.range) hS ?_
  simp only [Act.put, List.setIfInBounds_toArray, List.set_cons_zero, List.set_cons_succ]
  refine tkYes 3 (v := ?_) rfl (by kernel_rfl) (fun _ _ _ h => h) rfl ?_ hS ?_
  rotate_left
  · intro W hW; go_simp; (try with_reducible rfl)
  simp only [Act.put, List.setIfInBounds_toArray, List.set_cons_zero, List.set_cons_succ]
  refine tkYes 4 (v := Nt.val mb) rfl (by kernel_rfl) (fun _ _ _ h => h) rfl (fun W hW => take_msg (.tmp 3) rfl gb 0 mb rfl hW.2.range) hS ?_
  simp only [Act.put, List.setIfInBounds_toArray, List.set_cons_zero, List.set_cons_succ]
  refine rnOne 2 rfl (by kernel_rfl) rfl (fun K hK => ?_)
  go_simp
  with_reducible refine (C1.out _ Q3.out).mono ?_
  intro e w5 hp
  obtain ⟨he, hq5, _⟩ := Q3.out.res hp
  subst he
  have Q5 := Lib.hid hq5
  clear hp hq5
  have hS2 : NtAt w5 ga ma ∧ NtAt w5 gb mb := ⟨Q5.out.at_ 1 rfl, Q5.out.at_ 0 rfl⟩
  clear hS
  have hS := hS2
  clear hS2
  refine hK.out _ _ hS (fun _ => ?_)
  clear hK K
  try simp only [Act.put, List.setIfInBounds_toArray, List.set_cons_zero, List.set_cons_succ]
  refine rnOne 5 rfl (by kernel_rfl) rfl (fun K hK => ?_)
  go_simp
  with_reducible refine (C2.out _ Q5.out).mono ?_
  intro e w6 hp
  obtain ⟨he, hq6, _⟩ := Q5.out.res hp
  subst he
  have Q6 := Lib.hid hq6
  clear hp hq6
  have hS2 : NtAt w6 ga ma ∧ NtAt w6 gb mb := ⟨Q6.out.at_ 1 rfl, Q6.out.at_ 0 rfl⟩
  clear hS
  have hS := hS2
  clear hS2
  refine hK.out _ _ hS (fun _ => ?_)
  clear hK K
  try simp only [Act.put, List.setIfInBounds_toArray, List.set_cons_zero, List.set_cons_succ]
  refine tkYes 6 (v := ?_) rfl (by kernel_rfl) (fun _ _ _ h => h) rfl ?_ hS ?_
  rotate_left
  · intro W hW; go_simp; (try with_reducible rfl)
  simp only [Act.put, List.setIfInBounds_toArray, List.set_cons_zero, List.set_cons_succ]
  refine tkYes 7 (v := ?_) rfl (by kernel_rfl) (fun _ _ _ h => h) rfl ?_ hS ?_
  rotate_left
  · intro W hW; go_simp; (try with_reducible rfl)
  simp only [Act.put, List.setIfInBounds_toArray, List.set_cons_zero, List.set_cons_succ]
  refine wpAnyH_done (by kernel_rfl) ?_ _
  clear hS
  go_upto_region 5 with fail
  go_upto_region 6 with (go_at_call 18; (with_reducible refine (C3.out _ Q6.out).mono ?_); intro e w7 hp; obtain ⟨he, hq7, _⟩ := Q6.out.res hp; subst he; have Q7 := Lib.hid hq7; clear hp hq7)
  obtain ⟨F8, _, hq8⟩ := Q7.out.push mb
  have Q8 := Lib.hid hq8
  obtain ⟨gx, hgx⟩ : ∃ g, g = w7.heap.size := ⟨_, rfl⟩
  rw [← hgx] at Q8 ⊢
  clear hq8 hgx Q7
  generalize w7.alloc (.cells (Nt.cs mb) 32) = w8 at *
  go_upto_region 7 with (go_at_call 18; (with_reducible refine (C4.out _ _ _ Q8.out).mono ?_); intro e w9 hp; obtain ⟨he, hq9, _⟩ := Q8.out.res hp; subst he; have Q9 := Lib.hid hq9; clear hp hq9)
  obtain ⟨F10, _, hq10⟩ := Q9.out.push ma
  have Q10 := Lib.hid hq10
  obtain ⟨gy, hgy⟩ : ∃ g, g = w9.heap.size := ⟨_, rfl⟩
  rw [← hgy] at Q10 ⊢
  clear hq10 hgy Q9
  generalize w9.alloc (.cells (Nt.cs ma) 32) = w10 at *
  have Xy : Hid (NtAt w10 gy ma) := Q10.out.at_ 0 rfl
  have Xx : Hid (NtAt w10 gx mb) := Q10.out.at_ 1 rfl
  have Xb : Hid (NtAt w10 gb mb) := Q10.out.at_ 2 rfl
  have Xa : Hid (NtAt w10 ga ma) := Q10.out.at_ 3 rfl
  have CS := Lib.hid (nsent_any w10 _ _ _ _ Q10.out.la.ask)
  have CL := Lib.hid (nlen_any w10 _ _ _ _ Q10.out.la.ask)
  have hea : ∀ W, (binOp .eql 32 (Nt.val ma) (Nt.val ma)).run Try.prog W = .ok (.bool true) W := fun W => msg_eq (by simp) W
  have heb : ∀ W, (binOp .eql 32 (Nt.val mb) (Nt.val mb)).run Try.prog W = .ok (.bool true) W := fun W => msg_eq (by simp) W
  go_wp2_with (first
    | ((with_reducible show wpList _ _ _ ({ dst := some 36, op := .load _ _, type := _, pos := _, after := _, guard := _ } :: _) _ _); refine wpList_load_msgw rfl (.tmp 6) rfl gx 0 rfl mb Xx.out.range ?_)
    | ((with_reducible show wpList _ _ _ ({ dst := some 37, op := .load _ _, type := _, pos := _, after := _, guard := _ } :: _) _ _); refine wpList_load_msgw rfl (.tmp 3) rfl gb 0 rfl mb Xb.out.range ?_)
    | ((with_reducible show wpList _ _ _ ({ dst := some 44, op := .load _ _, type := _, pos := _, after := _, guard := _ } :: _) _ _); refine wpList_load_msgw rfl (.tmp 8) rfl gy 0 rfl ma Xy.out.range ?_)
    | ((with_reducible show wpList _ _ _ ({ dst := some 45, op := .load _ _, type := _, pos := _, after := _, guard := _ } :: _) _ _); refine wpList_load_msgw rfl (.tmp 2) rfl ga 0 rfl ma Xa.out.range ?_)
    | (go_at_call 26; (with_reducible refine CS.out.mono ?_); rintro e wz ⟨rfl, hw⟩; rw [hw]; clear hw wz)
    | (go_at_call 25; (with_reducible refine CL.out.mono ?_); rintro e wz ⟨rfl, hw⟩; rw [hw]; clear hw wz))
  go_ret
  exact ⟨rfl, Q10.out.la.below⟩
end Go.Proofs.Ytmhhjipdbfepiaa
