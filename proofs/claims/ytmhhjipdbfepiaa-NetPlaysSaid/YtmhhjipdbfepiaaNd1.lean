/-
  Package net: which messages may be; New; Len, Sent, Lost; a place. No condition.
-/
import Derived.Test.YtmhhjipdbfepiaaNdMem
import Derived.Test.YtmhhjipdbfepiaaNtR1
import Derived.Conc.SmallLaws
namespace Go.Proofs.Ytmhhjipdbfepiaa
open Go.RowKit Go.Conc
set_option linter.unusedSimpArgs false
set_option linter.unusedVariables false
set_option maxRecDepth 100000

set_option maxHeartbeats 1600000 in
theorem nmay_any (m : Nt.M) (w : World) : Calls Try.prog 33 #[Nt.val m] w (NPos w (.bool (Nt.right m))) := by
  have B1 := Lib.hid ((Below.refl w.heap.size w).alloc (Nat.le_refl _) (.cells (Nt.cs m) 32))
  have hmn := fun (W : World) ts t => run_min5 (P := Try.prog) W ts t m.e m.s m.u m.v m.t
  have E : Hid (Nt.right m = ((decide (m.k = 1) || decide (m.k = 2)) && decide (0 ≤ min (min (min (min m.e m.s) m.u) m.v) m.t))) := rfl
  rw [E.out]
  clear E
  obtain ⟨k, e, s, u, v, t⟩ := m
  simp only at *
  generalize min (min (min (min e s) u) v) t = z at *
  by_cases h1 : k = 1
  · subst h1
    go_enter Try.func33, Try.ntmps33
    go_wp2_with fail
    go_ret
    refine ⟨?_, B1.out⟩
    simp
  · have q1 : (k == 1) = false := by rw [beq_eq_false_iff_ne]; exact h1
    by_cases h2 : k = 2
    · subst h2
      go_enter Try.func33, Try.ntmps33
      go_wp2_with fail
      go_ret
      refine ⟨?_, B1.out⟩
      simp
    · have q2 : (k == 2) = false := by rw [beq_eq_false_iff_ne]; exact h2
      go_enter Try.func33, Try.ntmps33
      go_wp2_with fail
      go_ret
      refine ⟨?_, B1.out⟩
      simp [h1, h2]
/-- A net or none, its row as told: a nil one's is empty. -/
structure NAsk (w : World) (p : Option Addr) (l : List Nt.M) (se lo : Int) : Prop where
  no : p = none → l = [] ∧ se = 0 ∧ lo = 0
  yes : ∀ a, p = some a → ∃ r c A k, a = ⟨r, 0, none⟩ ∧ NtCell w r c (.slice A l.length k) se lo ∧ SlF Nt.mC w A l.length k l
theorem NAsk.nil (w : World) : NAsk w none [] 0 0 := ⟨fun _ => ⟨rfl, rfl, rfl⟩, fun a h => (by cases h)⟩
theorem NP.ask {w : World} {G : Nat → Prop} {r : Nat} {s : Nt.St} (h : NP w G r s) : NAsk w (some ⟨r, 0, none⟩) s.l s.sent s.lost := by
  obtain ⟨c, V, h1, _⟩ := h
  obtain ⟨A, k, hV⟩ := h1.own.form
  subst hV
  exact ⟨fun h => (by cases h), fun a ha => ⟨r, c, A, k, by injection ha with ha; exact ha.symm, h1.cells, h1.own.sl⟩⟩
theorem nlen_any (w : World) (p : Option Addr) (l : List Nt.M) (se lo : Int) (h : NAsk w p l se lo) : Calls Try.prog 25 #[.pointer p] w (fun e w' => e = .returned (.int .i64 (l.length : Nat)) ∧ w' = w) := by
  cases p with
  | none =>
    obtain ⟨rfl, rfl, rfl⟩ := h.no rfl
    go_enter Try.func25, Try.ntmps25
    go_wp2_with fail
    go_ret
    exact ⟨rfl, rfl⟩
  | some a =>
    obtain ⟨r, c, A, k, rfl, ⟨x0, x1, x2, x3, xf, xl⟩, hs⟩ := h.yes a rfl
    clear h hs
    generalize l.length = n at *
    go_enter Try.func25, Try.ntmps25
    go_wp2_with fail
    go_ret
    exact ⟨rfl, rfl⟩
theorem nsent_any (w : World) (p : Option Addr) (l : List Nt.M) (se lo : Int) (h : NAsk w p l se lo) : Calls Try.prog 26 #[.pointer p] w (fun e w' => e = .returned (.int .i64 se) ∧ w' = w) := by
  cases p with
  | none =>
    obtain ⟨rfl, rfl, rfl⟩ := h.no rfl
    go_enter Try.func26, Try.ntmps26
    go_wp2_with fail
    go_ret
    exact ⟨rfl, rfl⟩
  | some a =>
    obtain ⟨r, c, A, k, rfl, ⟨x0, x1, x2, x3, xf, xl⟩, hs⟩ := h.yes a rfl
    clear h hs
    generalize l.length = n at *
    go_enter Try.func26, Try.ntmps26
    go_wp2_with fail
    go_ret
    exact ⟨rfl, rfl⟩
theorem nlost_any (w : World) (p : Option Addr) (l : List Nt.M) (se lo : Int) (h : NAsk w p l se lo) : Calls Try.prog 27 #[.pointer p] w (fun e w' => e = .returned (.int .i64 lo) ∧ w' = w) := by
  cases p with
  | none =>
    obtain ⟨rfl, rfl, rfl⟩ := h.no rfl
    go_enter Try.func27, Try.ntmps27
    go_wp2_with fail
    go_ret
    exact ⟨rfl, rfl⟩
  | some a =>
    obtain ⟨r, c, A, k, rfl, ⟨x0, x1, x2, x3, xf, xl⟩, hs⟩ := h.yes a rfl
    clear h hs
    generalize l.length = n at *
    go_enter Try.func27, Try.ntmps27
    go_wp2_with fail
    go_ret
    exact ⟨rfl, rfl⟩
theorem nfind_no (w : World) (p : Option Addr) (se lo at_ : Int) (h : NAsk w p [] se lo) : Calls Try.prog 36 #[.pointer p, .int .i64 at_] w (fun e w' => e = .returned (.tuple #[.int .i64 0, .bool false]) ∧ w' = w) := by
  have C := Lib.hid (nlen_any w p [] se lo h)
  clear h
  go_enter Try.func36, Try.ntmps36
  go_wp2_with (go_at_call 25; (with_reducible refine C.out.mono ?_); rintro e w1 ⟨rfl, rfl⟩)
  exact bodyPost_ret (v := .tuple #[.int .i64 0, .bool false]) (by simp [results, Try.results36, go_sem]) rfl ⟨rfl, rfl⟩
set_option maxHeartbeats 1600000 in
theorem nfind_yes (w : World) (p : Option Addr) (l : List Nt.M) (se lo at_ : Int) (h : NAsk w p l se lo) (hl : 0 < l.length) (hl2 : l.length ≤ 100000) (ha : Nt.i64 at_) : Calls Try.prog 36 #[.pointer p, .int .i64 at_] w (fun e w' => e = .returned (.tuple #[.int .i64 (Nt.pl l.length at_ : Nat), .bool true]) ∧ w' = w) := by
  have C := Lib.hid (nlen_any w p l se lo h)
  clear h
  generalize l.length = n at *
  have q0 : ((n : Int) == 0) = false := by rw [beq_eq_false_iff_ne]; omega
  have hnz : ¬ ((n : Int) = 0) := by omega
  obtain ⟨a1, a2⟩ := ha
  by_cases hneg : at_ < 0
  · have hw2 : wrap64 (-1 - at_) = -1 - at_ := IntWalk.wrap64_in _ ⟨by omega, by omega⟩
    have E : Hid (Nt.pl n at_ = ((-1 - at_) % (n : Int)).toNat) := by show _ = _; unfold Nt.pl; rw [if_pos hneg, show -(at_ + 1) = -1 - at_ by omega]
    have HW3 : Hid ((-1 - at_) % (n : Int) = (((-1 - at_) % (n : Int)).toNat : Nat)) := by
      show _ = _
      have := Int.emod_nonneg (-1 - at_) (b := (n : Int)) (by omega)
      omega
    rw [E.out]
    clear E
    generalize ((-1 - at_) % (n : Int)).toNat = q at *
    rw [← HW3.out]
    go_enter Try.func36, Try.ntmps36
    go_wp2_with (go_at_call 25; (with_reducible refine C.out.mono ?_); rintro e w1 ⟨rfl, rfl⟩)
    exact bodyPost_ret (v := .tuple #[.int .i64 ((-1 - at_) % (n : Int)), .bool true]) (by simp [results, Try.results36, go_sem]) rfl ⟨rfl, rfl⟩
  · have E : Hid (Nt.pl n at_ = (at_ % (n : Int)).toNat) := by show _ = _; unfold Nt.pl; rw [if_neg hneg]
    have HW3 : Hid (at_ % (n : Int) = ((at_ % (n : Int)).toNat : Nat)) := by
      show _ = _
      have := Int.emod_nonneg at_ (b := (n : Int)) (by omega)
      omega
    rw [E.out]
    clear E
    generalize (at_ % (n : Int)).toNat = q at *
    go_enter Try.func36, Try.ntmps36
    go_wp2_with (go_at_call 25; (with_reducible refine C.out.mono ?_); rintro e w1 ⟨rfl, rfl⟩)
    rw [← HW3.out]
    exact bodyPost_ret (v := .tuple #[.int .i64 (at_ % (n : Int)), .bool true]) (by simp [results, Try.results36, go_sem]) rfl ⟨rfl, rfl⟩
theorem ch_bytes : ∃ i, Try.prog.info? 64 = some i ∧ i.bytes = 0 := by
  have h : (Try.prog.info? 64).map (·.bytes) = some 0 := by kernel_rfl
  obtain ⟨i, hi, hb⟩ := Option.map_eq_some_iff.1 h
  exact ⟨i, hi, hb⟩
theorem mk_toks (w : World) (n : Nat) (hn : n ≤ 1000) : (Instr.makeChan 61 (.int .i64 (n : Int))).run Try.prog w = .ok (.chan (some w.heap.size)) (w.alloc (.chan n #[] false 0 0 false)) := by
  obtain ⟨i, hi, hb⟩ := ch_bytes
  exact run_makeChan (P := Try.prog) (w := w) Try.underlying61 hi .i64 n (by omega) (by rw [hb]; omega)
set_option maxHeartbeats 3200000 in
theorem nnew_any (room : Int) (w : World) : Calls Try.prog 10 #[.int .i64 room] w (fun e w' => ∃ r G, e = .returned (.pointer (some ⟨r, 0, none⟩)) ∧ NP w' G r (Nt.new room) ∧ (∀ i, G i → w.heap.size ≤ i) ∧ Below w.heap.size w w') := by
  obtain ⟨n, hn⟩ : ∃ n, n = (Nt.new room).room := ⟨_, rfl⟩
  have hok := Nt.new_ok room
  have hn1 : n ≤ 64 := by rw [hn]; exact hok.most
  have hmx : max 1 (min room 64) = (n : Int) := by rw [hn]; show _ = ((max 1 (min room 64)).toNat : Int); omega
  have hmk := mk_toks w n (by omega)
  obtain ⟨W, hW⟩ : ∃ W, W = (w.alloc (.chan n #[] false 0 0 false)).alloc (.cells #[.chan (some w.heap.size), .slice none 0 0, .int .i64 0, .int .i64 0] 63) := ⟨_, rfl⟩
  obtain ⟨r1, r2, hb, hz⟩ := two_new hW
  have M0 : Hid (NtMid w (fun _ => False) W (w.heap.size + 1) w.heap.size (.slice none 0 0) (.slice none 0 0) n 0 [] 0 0) := ⟨r2, ⟨0, 0, r1⟩, OwF.none_ _ _ _, .inr (by omega), .inr (Nat.le_refl _), fun b h => (by cases h), Kept.of_below hb⟩
  have E : Hid (Nt.new room = ⟨n, [], 0, 0⟩) := by show _ = _; rw [hn]; rfl
  have OK := Lib.hid hok
  clear hn hok
  go_enter Try.func10, Try.ntmps10
  go_upto_region 3 with fail
  rw [← hW]
  clear hW hmk hmx r1 r2 hb hz
  obtain ⟨c, hc⟩ : ∃ c, c = w.heap.size := ⟨_, rfl⟩
  rw [← hc] at M0 ⊢
  have HC := Lib.hid hc
  clear hc
  go_wp2_with fail
  go_loopw [12] (fun i wr => ∃ j : Nat, j ≤ n ∧ i = .int .i64 j ∧ NtMid w (fun _ => False) wr (c + 1) c (.slice none 0 0) (.slice none 0 0) n j [] 0 0) (fun i _ => n - (intOf i).toNat)
  case atStart => exact ⟨0, by omega, rfl, M0.out⟩
  case round =>
    clear M0
    obtain ⟨j, hj, rfl, hm⟩ := hrel
    have M := Lib.hid hm
    clear hm
    by_cases hlt : j < n
    · obtain ⟨x0, x1, x2, x3, xf, xl⟩ := M.out.cells
      go_upto_region 5 with fail
      obtain ⟨ci, cj, hc⟩ := M.out.ch
      refine ops_region [0, 1, 2, 3, 4, 5] rfl ?_
      refine ops_val (v := .pointer (some ⟨c + 1, 0, none⟩)) (w' := wr) rfl rfl (by simp [execOp, Act.eval, go_sem]) ?_
      simp only [Act.put, List.setIfInBounds_toArray, List.set_cons_zero, List.set_cons_succ]
      refine ops_val (v := .pointer (some ⟨c + 1, 0, none⟩)) (w' := wr) rfl rfl (by simp [execOp, Act.eval, go_sem]) ?_
      simp only [Act.put, List.setIfInBounds_toArray, List.set_cons_zero, List.set_cons_succ]
      refine ops_val (v := .pointer (some ⟨c + 1, 0, none⟩)) (w' := wr) rfl rfl (by simp [execOp, Act.eval, go_sem]) ?_
      simp only [Act.put, List.setIfInBounds_toArray, List.set_cons_zero, List.set_cons_succ]
      refine ops_val (v := .chan (some c)) (w' := wr) rfl rfl (by simp [execOp, Act.eval, go_sem, x0]) ?_
      simp only [Act.put, List.setIfInBounds_toArray, List.set_cons_zero, List.set_cons_succ]
      refine ops_val (v := tok) (w' := wr) rfl rfl (by simp [execOp, Act.eval, go_sem]) ?_
      simp only [Act.put, List.setIfInBounds_toArray, List.set_cons_zero, List.set_cons_succ]
      refine ops_send (c := c) (v := tok) (z := .tuple #[]) rfl rfl (by simp [execOp, scase, Act.eval, go_sem]) hc (by simp [toks]; omega) ?_
      rw [toks_push]
      refine ops_nil ?_
      have M2 := Lib.hid (M.out.chan (j + 1) (ci + 1) cj)
      clear M x0 x1 x2 x3 xf xl hc
      generalize wr.setChan c n (toks (j + 1)) false (ci + 1) cj false = w2 at *
      simp only [Act.put, List.setIfInBounds_toArray, List.set_cons_zero, List.set_cons_succ]
      go_wp2_with fail
      exact ⟨⟨j + 1, by omega, by go_num, M2.out⟩, by simp [intOf]; omega⟩
    · obtain rfl : j = n := by omega
      go_wp2_with fail
      go_ret
      rw [E.out]
      refine ⟨c + 1, _, rfl, M.out.np (s := ⟨j, [], 0, 0⟩) (by rw [← E.out]; exact OK.out) (fun i h => h.elim), fun i hi => ?_, M.out.kept.below (Nat.le_refl _) (fun i h => h.elim)⟩
      rcases hi with h | h
      · exact h.elim
      · exact h.1
end Go.Proofs.Ytmhhjipdbfepiaa
