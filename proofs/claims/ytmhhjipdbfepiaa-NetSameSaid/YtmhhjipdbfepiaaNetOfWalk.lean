/-
  The walk of NetOf. Written by wip/tools/gen/ntof.py. No condition.
-/
import Derived.Test.YtmhhjipdbfepiaaNetRowWalk
namespace Go.Proofs.Ytmhhjipdbfepiaa
open Go.RowKit Go.Deep
set_option maxRecDepth 100000
set_option linter.unusedSimpArgs false
set_option linter.unusedVariables false

namespace Nt
theorem ofU_step {L : List M} {i : Nat} {x : M} {u : Int} (hx : L[i]? = some x) (hu : x.u = u) : ofU (L.take (i + 1)) u = ofU (L.take i) u ++ [x] ∧ (ofU L u)[(ofU (L.take i) u).length]? = some x ∧ (ofU (L.take i) u).length < (ofU L u).length := by
  have hlt := (List.getElem?_eq_some_iff.1 hx).1
  have h1 : ofU (L.take (i + 1)) u = ofU (L.take i) u ++ [x] := by
    rw [List.take_add_one, hx]
    unfold ofU
    rw [List.filter_append]
    simp [hu]
  have h2 : ofU L u = ofU (L.take i) u ++ x :: ofU (L.drop (i + 1)) u := by
    conv => lhs; rw [← List.take_append_drop (i + 1) L]
    have h3 : ofU (L.take (i + 1) ++ L.drop (i + 1)) u = ofU (L.take (i + 1)) u ++ ofU (L.drop (i + 1)) u := by unfold ofU; rw [List.filter_append]
    rw [h3, h1]
    simp
  refine ⟨h1, ?_, ?_⟩
  · rw [h2, List.getElem?_append_right (Nat.le_refl _), Nat.sub_self]
    rfl
  · rw [h2, List.length_append, List.length_cons]
    omega
theorem ofU_skip {L : List M} {i : Nat} {x : M} {u : Int} (hx : L[i]? = some x) (hu : x.u ≠ u) : ofU (L.take (i + 1)) u = ofU (L.take i) u := by
  rw [List.take_add_one, hx]
  unfold ofU
  rw [List.filter_append]
  simp [hu]
theorem ofU_len (L : List M) (u : Int) : (ofU L u).length ≤ L.length := List.length_filter_le _ _
/-- How many are of the first so many units. -/
def cntU (L : List M) : Nat → Nat
  | 0 => 0
  | m + 1 => cntU L m + (ofU L (m : Nat)).length
theorem cntU_cons (x : M) (L : List M) (m : Nat) : cntU (x :: L) m = cntU L m + (if 0 ≤ x.u ∧ x.u < (m : Int) then 1 else 0) := by
  induction m with
  | zero =>
    show 0 = 0 + _
    rw [if_neg (by omega)]
  | succ m ih =>
    show cntU (x :: L) m + (ofU (x :: L) (m : Nat)).length = cntU L m + (ofU L (m : Nat)).length + _
    rw [ih]
    unfold ofU
    rw [List.filter_cons]
    by_cases h : x.u = (m : Int)
    · rw [if_neg (show ¬ (0 ≤ x.u ∧ x.u < (m : Int)) by omega), if_pos (show 0 ≤ x.u ∧ x.u < ((m + 1 : Nat) : Int) by omega), if_pos (decide_eq_true h), List.length_cons]
      omega
    · rw [if_neg (show ¬ (decide (x.u = (m : Int)) = true) by rw [decide_eq_true_eq]; exact h)]
      by_cases h2 : 0 ≤ x.u ∧ x.u < (m : Int)
      · rw [if_pos h2, if_pos (show 0 ≤ x.u ∧ x.u < ((m + 1 : Nat) : Int) by omega)]
        omega
      · rw [if_neg h2, if_neg (show ¬ (0 ≤ x.u ∧ x.u < ((m + 1 : Nat) : Int)) by omega)]
        omega
theorem cntU_all {L : List M} (h : ∀ x ∈ L, 0 ≤ x.u ∧ x.u < 8) : cntU L 8 = L.length := by
  induction L with
  | nil => rfl
  | cons x L ih =>
    rw [cntU_cons, ih fun y hy => h y (List.mem_cons_of_mem _ hy), if_pos (show 0 ≤ x.u ∧ x.u < ((8 : Nat) : Int) from h x List.mem_cons_self), List.length_cons]
theorem cntU_le (L : List M) (m : Nat) : cntU L m ≤ m * L.length := by
  induction m with
  | zero => simp [cntU]
  | succ m ih =>
    have := ofU_len L (m : Nat)
    show cntU L m + _ ≤ _
    rw [Nat.succ_mul]
    omega
theorem ofU_none {L : List M} (h : ∀ x ∈ L, 0 ≤ x.u ∧ x.u < 8) : ofU L (-1) = [] := by
  unfold ofU
  rw [List.filter_eq_nil_iff]
  intro x hx
  have := h x hx
  simp
  omega
end Nt
theorem cnt_wrap {L : List Nt.M} {u : Nat} (hu : u ≤ 8) (hL : L.length ≤ 60) : wrap64 ((Nt.cntU L u : Int) + ((Nt.ofU L (u : Nat)).length : Int)) = ((Nt.cntU L u : Int) + ((Nt.ofU L (u : Nat)).length : Int)) := by
  have h1 := Nt.cntU_le L u
  have h2 := Nt.ofU_len L (u : Nat)
  have h3 : u * L.length ≤ 8 * 60 := Nat.mul_le_mul hu hL
  exact IntWalk.wrap64_in _ ⟨by omega, by omega⟩
/-- A row cut at the most that the law looks at. -/
theorem mlow_run {A : Option Addr} {k c n : Nat} {l : List Nt.M} {w : World} (hs : SlF Nt.mC w A k c l) (hn : n ≤ k) (W : World) : (Instr.slice 26 (.slice A k c) none (some (.int .i64 (n : Int))) none).run Try.prog W = .ok (.slice A n c) W := by
  have hkc := hs.cap
  cases A with
  | none =>
    have := hs.nil rfl
    have hn0 : n = 0 := by omega
    have hk0 : k = 0 := by omega
    have hc0 : c = 0 := this
    subst hn0 hk0 hc0
    rw [run_slice_h _ 26 none 0 0 (by kernel_rfl) IntKind.i64 ((0 : Nat) : Int) (by omega) (by omega), mElem]
    simp [Result.andThen, sliced]
  | some ad =>
    obtain ⟨b, o, f⟩ := ad
    rw [run_slice_h _ 26 (some ⟨b, o, f⟩) k c (by kernel_rfl) IntKind.i64 (n : Int) (by omega) (by omega), mElem]
    cases f <;> simp [Result.andThen, sliced, Addr.add]
theorem nof0 {w0 W : World} {F : Nat → Prop} {r : Nat} {s : Nt.St} {u : Int} {m : Nat} (h : NAt w0 F r s W) (hm : (Nt.ofU s.l u).length = m) : Calls Try.prog 28 #[.pointer (some ⟨r, 0, none⟩), .int .i64 u] W (fun e w' => ∃ A c, e = .returned (.slice A m c) ∧ SlF Nt.mC w' A m c (Nt.ofU s.l u) ∧ Below W.heap.size W w') := by
  subst hm
  exact (nof_any _ _ _ _ _ u h.ask (by have := h.ok.fits; have := h.ok.most; omega)).mono fun _ _ ⟨A, c, h1, h2, h3⟩ => ⟨A, c, h1, h2.sl, h3⟩
theorem nall0 {w0 W : World} {F : Nat → Prop} {r : Nat} {s : Nt.St} {m : Nat} (h : NAt w0 F r s W) (hm : s.l.length = m) : Calls Try.prog 24 #[.pointer (some ⟨r, 0, none⟩)] W (fun e w' => ∃ A c, e = .returned (.slice A m c) ∧ SlF Nt.mC w' A m c s.l ∧ Below W.heap.size W w') := by
  subst hm
  exact (nall_any _ _ _ _ _ h.ask (by have := h.ok.fits; have := h.ok.most; omega)).mono fun _ _ ⟨A, c, h1, h2, h3⟩ => ⟨A, c, h1, h2.sl, h3⟩
set_option maxHeartbeats 6400000 in
theorem netof_walk (A : Option Addr) (k c : Nat) (l : List Nt.M) (w : World) (hs : SlM w A k c l) : Calls Try.prog 8 #[.slice A k c] w (NPos w (.bool true)) := by
  have CL := Lib.hid (ntlives_any w)
  obtain ⟨n, hn⟩ : ∃ n, n = min k 60 := ⟨_, rfl⟩
  have hs1 := hs.1.take Nt.mC_len (k := n) (by omega)
  have hkl := hs.1.len
  have hkc := hs.1.cap
  have hcm := hs.1.max
  have hc63 : (c : Int) ≤ 9223372036854775807 := by unfold maxLen at hcm; omega
  obtain ⟨es, hes⟩ : ∃ es, es = l.take n := ⟨_, rfl⟩
  rw [← hes] at hs1
  have S := Lib.hid hs1
  have hmn : min (k : Int) 60 = (n : Int) := by omega
  have hn60 : n ≤ 60 := by omega
  have LN : Hid (es.length = n) := by show _ = _; rw [hes, List.length_take]; omega
  have hcut := fun W => mlow_run (n := n) hs.1 (by omega) W
  clear hs hs1 hes hn hkl hcm
  go_enter Try.func8, Try.ntmps8
  go_upto_region 3 with (go_at_call 9; (with_reducible refine CL.out.mono ?_); rintro e w1 ⟨rfl, hb⟩; have B1 := Lib.hid hb; clear hb)
  have CN := Lib.hid (nat_new (w0 := w) (W := w1) (F := fun _ => False) 64 B1.out (fun b h => h.elim))
  go_upto_region 4 with (go_at_call 10; (with_reducible refine CN.out.mono ?_); rintro e w2 ⟨r, rfl, hn, _⟩; have N2 : Hid (NAt w (fun _ => False) r ⟨64, [], 0, 0⟩ w2) := hn; clear hn)
  clear CN CL B1
  go_wp2_with fail
  go_loopw [4] (fun i wr => ∃ j : Nat, j ≤ n ∧ i = .int .i64 j ∧ NAt w (fun _ => False) r ⟨64, (es.take j).map Nt.good, j, 0⟩ wr) (fun i _ => n - (intOf i).toNat)
  case atStart => exact ⟨0, by omega, rfl, N2.out⟩
  case round =>
    clear N2
    obtain ⟨j, hj, rfl, hm⟩ := hrel
    have N := Lib.hid hm
    clear hm
    by_cases hlt : j < n
    · have hjl : j < es.length := by have := LN.out; omega
      have EX : Hid (es[j]? = some es[j]) := List.getElem?_eq_getElem hjl
      generalize es[j] = x at EX
      obtain ⟨b, o, rfl, hbl, hrg⟩ := nt_range (S.out.on N.out.below) EX.out
      have RG := Lib.hid hrg
      have i1 : (0 : Int) ≤ (j : Int) := by omega
      have i2 : (j : Int) < (n : Int) := by omega
      have RS := Lib.hid (row_send es j x (by omega) EX.out)
      have hj64 : (j : Int) ≤ 64 := by omega
      clear hrg hbl
      go_wp2_with (first
        | ((with_reducible show wpList _ _ _ ({ dst := some 29, op := .load _ _, type := _, pos := _, after := _, guard := _ } :: _) _ _); refine wpList_load_msg rfl (.tmp 28) rfl b (o + j * 6) rfl x RG.out ?_)
        | (go_at_call 30; (with_reducible refine (rtgood_any x _).mono ?_); rintro e w3 ⟨rfl, hb3⟩; have N3 := Lib.hid (N.out.on hb3); clear hb3)
        | (go_at_call 16; (with_reducible refine (nat_send0 N3.out (Nt.good_in x) ⟨by simp, by simp⟩ ⟨by simp, by simp; omega⟩ RS.out.1 RS.out.2).mono ?_); rintro e w4 ⟨rfl, hn4, _⟩; have N4 := Lib.hid hn4; clear hn4))
      exact ⟨⟨j + 1, by omega, by go_num, N4.out⟩, by simp [intOf]; omega⟩
    · obtain rfl : n = j := by omega
      have ET : Hid (es.take n = es) := List.take_of_length_le (by have := LN.out; omega)
      rw [ET.out] at N
      obtain ⟨L, hL⟩ : ∃ L, L = es.map Nt.good := ⟨_, rfl⟩
      rw [← hL] at N
      have LL : Hid (L.length = n) := by show _ = _; rw [hL, List.length_map]; exact LN.out
      have LU : Hid (∀ x ∈ L, 0 ≤ x.u ∧ x.u < 8) := fun x hx => by
        rw [hL] at hx
        obtain ⟨y, _, rfl⟩ := List.mem_map.1 hx
        exact Nt.good_u y
      clear hL ET S LN
      have CA := Lib.hid (nall0 N.out LL.out)
      go_upto_region 10 with (go_at_call 24; (with_reducible refine CA.out.mono ?_); rintro e w5 ⟨A5, c5, rfl, ho5, hb5⟩; have S5 := Lib.hid ho5; have N5 := Lib.hid (N.out.on hb5); clear ho5 hb5)
      clear N CA
      have hc5 := S5.out.cap
      go_wp2_with fail
      go_loopw [6, 7] (fun a q wr => ∃ u : Nat, u ≤ 8 ∧ q = .int .i64 u ∧ a = .int .i64 (Nt.cntU L u : Nat) ∧ NAt w (fun _ => False) r ⟨64, L, n, 0⟩ wr ∧ SlF Nt.mC wr A5 n c5 L) (fun _ q _ => 8 - (intOf q).toNat)
      case atStart => exact ⟨0, by omega, rfl, rfl, N5.out, S5.out⟩
      case round =>
        clear N5 S5
        obtain ⟨u, hu, rfl, rfl, hm, hs5⟩ := hrel
        have N := Lib.hid hm
        have S5 := Lib.hid hs5
        clear hm hs5
        by_cases hlt : u < 8
        · have i1 : (u : Int) < 8 := by omega
          have hcu := Nt.cntU_le L u
          have hou := Nt.ofU_len L (u : Nat)
          have hw : wrap64 ((Nt.cntU L u : Int) + ((Nt.ofU L (u : Nat)).length : Int)) = ((Nt.cntU L u : Int) + ((Nt.ofU L (u : Nat)).length : Int)) := cnt_wrap (by omega) (by have := LL.out; omega)
          have EC : Hid (Nt.cntU L (u + 1) = Nt.cntU L u + (Nt.ofU L (u : Nat)).length) := rfl
          obtain ⟨nu, hnu⟩ : ∃ nu, (Nt.ofU L (u : Nat)).length = nu := ⟨_, rfl⟩
          have CO := Lib.hid (nof0 (u := (u : Nat)) N.out hnu)
          rw [hnu] at hou hw EC
          have hnu60 : nu ≤ 60 := by have := LL.out; omega
          have HNU := Lib.hid hnu
          clear hnu hcu hou
          generalize Nt.cntU L u = cu at *
          go_upto_region 15 with (go_at_call 28; (with_reducible refine CO.out.mono ?_); rintro e w8 ⟨A8, c8, rfl, ho8, hb8⟩; have S8 := Lib.hid ho8; have N8 := Lib.hid (N.out.on hb8); have T5 := Lib.hid (S5.out.on hb8); clear ho8 hb8)
          have hc8 := S8.out.cap
          clear N S5 CO
          go_wp2_with fail
          go_loopw [9, 10] (fun a q wi => ∃ i : Nat, i ≤ n ∧ q = .int .i64 i ∧ a = .int .i64 ((Nt.ofU (L.take i) (u : Nat)).length : Nat) ∧ NAt w (fun _ => False) r ⟨64, L, n, 0⟩ wi ∧ SlF Nt.mC wi A5 n c5 L ∧ SlF Nt.mC wi A8 nu c8 (Nt.ofU L (u : Nat))) (fun _ q _ => n - (intOf q).toNat)
          case atStart => exact ⟨0, by omega, rfl, rfl, N8.out, T5.out, S8.out⟩
          case round =>
            clear N8 T5 S8
            obtain ⟨i, hi, rfl, rfl, hm, h5, h8⟩ := hrel
            have N := Lib.hid hm
            have S5 := Lib.hid h5
            have S8 := Lib.hid h8
            clear hm h5 h8
            by_cases hlt2 : i < n
            · have hil : i < L.length := by have := S5.out.len; omega
              have EX : Hid (L[i]? = some L[i]) := List.getElem?_eq_getElem hil
              generalize L[i] = x at EX
              obtain ⟨b5, o5, rfl, hb5, hr5⟩ := nt_range S5.out EX.out
              have R5 : Hid (∀ W, Below wr.heap.size wr W → W.rangeAt b5 (o5 + i * 6) (Nt.mC x)) := fun W h => nrange_on hr5 (h.block b5 hb5)
              have i1 : (0 : Int) ≤ (i : Int) := by omega
              have i2 : (i : Int) < (n : Int) := by omega
              have c3 : wr.cell? ⟨b5, o5 + i * 6 + 3, none⟩ = some (.int .i64 x.u) := hr5 3 _ rfl
              clear hb5 hr5
              by_cases hq : x.u = (u : Int)
              · obtain ⟨hst1, hst2, hst3⟩ := Nt.ofU_step EX.out hq
                have OT := Lib.hid (show (Nt.ofU (L.take (i + 1)) (u : Nat)).length = (Nt.ofU (L.take i) (u : Nat)).length + 1 by rw [hst1, List.length_append, List.length_singleton])
                generalize (Nt.ofU (L.take i) (u : Nat)).length = k at *
                obtain ⟨b8, o8, rfl, hb8, hr8⟩ := nt_range S8.out hst2
                have R8 : Hid (∀ W, Below wr.heap.size wr W → W.rangeAt b8 (o8 + k * 6) (Nt.mC x)) := fun W h => nrange_on hr8 (h.block b8 hb8)
                have hkn : k < nu := by have := HNU.out; omega
                have hgd1 : decide (nu ≤ k) = false := by rw [decide_eq_false_iff_not]; omega
                have hgd2 : decide ((nu : Int) ≤ (k : Int)) = false := by rw [decide_eq_false_iff_not]; omega
                have i3 : (0 : Int) ≤ (k : Int) := by omega
                have i4 : (k : Int) < (nu : Int) := by omega
                have hne : ∀ W, (binOp .neq 32 (Nt.val x) (Nt.val x)).run Try.prog W = .ok (.bool false) W := fun W => msg_neq (by simp) W
                clear hst1 hst2 hst3 hb8 hr8
                go_upto_region 21 with fail
                refine wp_region_held_drew (S := fun X => Below wr.heap.size wr X) (by kernel_rfl) (Below.refl wr.heap.size wr).drew (fun hS => ?_)
                refine tkYes 0 (v := ?_) rfl (by kernel_rfl) (fun _ _ _ h => h) rfl ?_ hS ?_
                rotate_left
                · intro W hW; go_simp; (try with_reducible rfl)
                simp only [Act.put, List.setIfInBounds_toArray, List.set_cons_zero, List.set_cons_succ]
                refine tkYes 1 (v := ?_) rfl (by kernel_rfl) (fun _ _ _ h => h) rfl ?_ hS ?_
                rotate_left
                · intro W hW; go_simp; (try with_reducible rfl)
                simp only [Act.put, List.setIfInBounds_toArray, List.set_cons_zero, List.set_cons_succ]
                refine tkYes 2 (v := ?_) rfl (by kernel_rfl) (fun _ _ _ h => h) rfl ?_ hS ?_
                rotate_left
                · intro W hW; go_simp; (try with_reducible rfl)
                simp only [Act.put, List.setIfInBounds_toArray, List.set_cons_zero, List.set_cons_succ]
                refine tkYes 3 (v := ?_) rfl (by kernel_rfl) (fun _ _ _ h => h) rfl ?_ hS ?_
                rotate_left
                · intro W hW; go_simp; (try with_reducible rfl)
                simp only [Act.put, List.setIfInBounds_toArray, List.set_cons_zero, List.set_cons_succ]
                refine tkYes 4 (v := ?_) rfl (by kernel_rfl) (fun _ _ _ h => h) rfl ?_ hS ?_
                rotate_left
                · intro W hW; go_simp; (try with_reducible rfl)
                simp only [Act.put, List.setIfInBounds_toArray, List.set_cons_zero, List.set_cons_succ]
                refine tkYes 5 (v := ?_) rfl (by kernel_rfl) (fun _ _ _ h => h) rfl ?_ hS ?_
                rotate_left
                · intro W hW; go_simp; (try with_reducible rfl)
                simp only [Act.put, List.setIfInBounds_toArray, List.set_cons_zero, List.set_cons_succ]
                refine tkYes 6 (v := ?_) rfl (by kernel_rfl) (fun _ _ _ h => h) rfl ?_ hS ?_
                rotate_left
                · intro W hW; go_simp; (try with_reducible rfl)
                simp only [Act.put, List.setIfInBounds_toArray, List.set_cons_zero, List.set_cons_succ]
                refine tkYes 7 (v := ?_) rfl (by kernel_rfl) (fun _ _ _ h => h) rfl ?_ hS ?_
                rotate_left
                · intro W hW; go_simp; (try with_reducible rfl)
                simp only [Act.put, List.setIfInBounds_toArray, List.set_cons_zero, List.set_cons_succ]
                refine tkYes 8 (v := Nt.val x) rfl (by kernel_rfl) (fun _ _ _ h => h) rfl (fun W hW => take_msg (.tmp 65) rfl b8 (o8 + k * 6) x (by simp [Act.eval, go_sem]) (R8.out W hW)) hS ?_
                simp only [Act.put, List.setIfInBounds_toArray, List.set_cons_zero, List.set_cons_succ]
                refine tkYes 9 (v := ?_) rfl (by kernel_rfl) (fun _ _ _ h => h) rfl ?_ hS ?_
                rotate_left
                · intro W hW; go_simp; (try with_reducible rfl)
                simp only [Act.put, List.setIfInBounds_toArray, List.set_cons_zero, List.set_cons_succ]
                refine tkYes 10 (v := ?_) rfl (by kernel_rfl) (fun _ _ _ h => h) rfl ?_ hS ?_
                rotate_left
                · intro W hW; go_simp; (try with_reducible rfl)
                simp only [Act.put, List.setIfInBounds_toArray, List.set_cons_zero, List.set_cons_succ]
                refine tkYes 11 (v := ?_) rfl (by kernel_rfl) (fun _ _ _ h => h) rfl ?_ hS ?_
                rotate_left
                · intro W hW; go_simp; (try with_reducible rfl)
                simp only [Act.put, List.setIfInBounds_toArray, List.set_cons_zero, List.set_cons_succ]
                refine tkYes 12 (v := Nt.val x) rfl (by kernel_rfl) (fun _ _ _ h => h) rfl (fun W hW => take_msg (.tmp 69) rfl b5 (o5 + i * 6) x (by simp [Act.eval, go_sem]) (R5.out W hW)) hS ?_
                simp only [Act.put, List.setIfInBounds_toArray, List.set_cons_zero, List.set_cons_succ]
                refine tkYes 13 (v := ?_) rfl (by kernel_rfl) (fun _ _ _ h => h) rfl ?_ hS ?_
                rotate_left
                · intro W hW; go_simp; (try with_reducible rfl)
                simp only [Act.put, List.setIfInBounds_toArray, List.set_cons_zero, List.set_cons_succ]
                refine tkYes 14 (v := ?_) rfl (by kernel_rfl) (fun _ _ _ h => h) rfl ?_ hS ?_
                rotate_left
                · intro W hW; go_simp; (try with_reducible rfl)
                simp only [Act.put, List.setIfInBounds_toArray, List.set_cons_zero, List.set_cons_succ]
                refine wpAnyH_done (by kernel_rfl) ?_ _
                go_wp2_with fail
                exact ⟨⟨i + 1, by omega, by go_num, int_eq (by rw [OT.out]; omega), N.out.on (W' := wr.drew) (Below.refl wr.heap.size wr).drew, S5.out.on (w' := wr.drew) (Below.refl wr.heap.size wr).drew, S8.out.on (w' := wr.drew) (Below.refl wr.heap.size wr).drew⟩, by simp [intOf]; omega⟩
              · have OS := Lib.hid (Nt.ofU_skip EX.out hq)
                go_wp2_with fail
                exact ⟨⟨i + 1, by omega, by go_num, by rw [OS.out], N.out, S5.out, S8.out⟩, by simp [intOf]; omega⟩
            · go_wp2_with fail
              exact ⟨⟨u + 1, by omega, by go_num, int_eq (by rw [EC.out]; omega), N.out, S5.out⟩, by simp [intOf]; omega⟩
        · obtain rfl : u = 8 := by omega
          have CA8 : Hid (Nt.cntU L 8 = n) := (Nt.cntU_all LU.out).trans LL.out
          have ON : Hid (Nt.ofU L (-1) = []) := Nt.ofU_none LU.out
          rw [CA8.out]
          have CO := Lib.hid (nof0 (u := -1) (m := 0) N.out (by show (Nt.ofU L (-1)).length = 0; rw [ON.out]; rfl))
          go_wp2_with (go_at_call 28; (with_reducible refine CO.out.mono ?_); rintro e w9 ⟨A9, c9, rfl, _, hb9⟩; have B9 := Lib.hid (N.out.below.trans (hb9.mono N.out.below.size)); clear hb9)
          go_ret
          exact ⟨rfl, B9.out⟩
end Go.Proofs.Ytmhhjipdbfepiaa
