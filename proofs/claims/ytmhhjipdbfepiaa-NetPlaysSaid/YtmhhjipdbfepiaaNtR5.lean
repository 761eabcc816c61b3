/-
  The document's package of layer 14: Same of equal rows; Of. Written by wip/tools/gen/ntr5.py. No condition.
-/
import Derived.Test.YtmhhjipdbfepiaaNtR3
import Derived.Test.YtmhhjipdbfepiaaNd3
namespace Go.Proofs.Ytmhhjipdbfepiaa
open Go.RowKit Go.Deep
set_option linter.unusedSimpArgs false
set_option linter.unusedVariables false
set_option maxRecDepth 100000

set_option maxHeartbeats 3200000 in
theorem rtsame_eq (A1 A2 : Option Addr) (n c1 c2 : Nat) (l : List Nt.M) (w : World) (h1 : SlF Nt.mC w A1 n c1 l) (h2 : SlF Nt.mC w A2 n c2 l) : Calls Try.prog 23 #[.slice A1 n c1, .slice A2 n c2] w (NPos w (.bool true)) := by
  have S1 := Lib.hid h1
  have S2 := Lib.hid h2
  have LN : Hid (l.length = n) := h1.len.symm
  have hc1 := h1.cap
  have hc2 := h2.cap
  have hm := h1.max
  have hn63 : (n : Int) ≤ 9223372036854775807 := by unfold maxLen at hm; omega
  clear h1 h2 hm
  go_enter Try.func23, Try.ntmps23
  go_wp2_with fail
  go_loopw [5] (fun i wr => ∃ j : Nat, j ≤ n ∧ i = .int .i64 j ∧ Below w.heap.size w wr) (fun i _ => n - (intOf i).toNat)
  case atStart => exact ⟨0, by omega, rfl, Below.refl _ _⟩
  case round =>
    obtain ⟨j, hj, rfl, hbr⟩ := hrel
    have B := Lib.hid hbr
    clear hbr
    by_cases hlt : j < n
    · have hx : l[j]? = some (l[j]'(by have := LN.out; omega)) := List.getElem?_eq_getElem _
      generalize l[j]'(by have := LN.out; omega) = x at hx
      obtain ⟨b1, o1, rfl, hl1, hr1⟩ := nt_range S1.out hx
      obtain ⟨b2, o2, rfl, hl2, hr2⟩ := nt_range S2.out hx
      have R1 := Lib.hid hr1
      have R2 := Lib.hid hr2
      have H1 := Lib.hid hl1
      have H2 := Lib.hid hl2
      have i1 : (0 : Int) ≤ (j : Int) := by omega
      have i2 : (j : Int) < (n : Int) := by omega
      have hne : ∀ W, (binOp .neq 32 (Nt.val x) (Nt.val x)).run Try.prog W = .ok (.bool false) W := fun W => msg_neq (by simp) W
      clear hx hr1 hr2 hl1 hl2
      go_upto_region 6 with fail
      refine wp_region_held_drew (S := fun W => Below w.heap.size w W) (by kernel_rfl) B.out.drew (fun hS => ?_)
      refine tkYes 0 (v := ?_) rfl (by kernel_rfl) (fun _ _ _ h => h) rfl ?_ hS ?_
      rotate_left
      · intro W hW; go_simp; (try with_reducible rfl)
      simp only [Act.put, List.setIfInBounds_toArray, List.set_cons_zero, List.set_cons_succ]
      refine tkYes 1 (v := ?_) rfl (by kernel_rfl) (fun _ _ _ h => h) rfl ?_ hS ?_
      rotate_left
      · intro W hW; go_simp; (try with_reducible rfl)
      simp only [Act.put, List.setIfInBounds_toArray, List.set_cons_zero, List.set_cons_succ]
      refine tkYes 2 (v := ?_) rfl (by kernel_rfl) (fun _ _ _ h => h) rfl ?_ hS ?_
      rotate_left
      · intro W hW; go_simp; (try with_reducible rfl)
      simp only [Act.put, List.setIfInBounds_toArray, List.set_cons_zero, List.set_cons_succ]
      refine tkYes 3 (v := Nt.val x) rfl (by kernel_rfl) (fun _ _ _ h => h) rfl (fun W hW => take_msg (.tmp 19) rfl b1 (o1 + j * 6) x (by simp [Act.eval, go_sem]) (nrange_on R1.out (hW.block b1 H1.out))) hS ?_
      simp only [Act.put, List.setIfInBounds_toArray, List.set_cons_zero, List.set_cons_succ]
      refine tkYes 4 (v := ?_) rfl (by kernel_rfl) (fun _ _ _ h => h) rfl ?_ hS ?_
      rotate_left
      · intro W hW; go_simp; (try with_reducible rfl)
      simp only [Act.put, List.setIfInBounds_toArray, List.set_cons_zero, List.set_cons_succ]
      refine tkYes 5 (v := ?_) rfl (by kernel_rfl) (fun _ _ _ h => h) rfl ?_ hS ?_
      rotate_left
      · intro W hW; go_simp; (try with_reducible rfl)
      simp only [Act.put, List.setIfInBounds_toArray, List.set_cons_zero, List.set_cons_succ]
      refine tkYes 6 (v := ?_) rfl (by kernel_rfl) (fun _ _ _ h => h) rfl ?_ hS ?_
      rotate_left
      · intro W hW; go_simp; (try with_reducible rfl)
      simp only [Act.put, List.setIfInBounds_toArray, List.set_cons_zero, List.set_cons_succ]
      refine tkYes 7 (v := Nt.val x) rfl (by kernel_rfl) (fun _ _ _ h => h) rfl (fun W hW => take_msg (.tmp 23) rfl b2 (o2 + j * 6) x (by simp [Act.eval, go_sem]) (nrange_on R2.out (hW.block b2 H2.out))) hS ?_
      simp only [Act.put, List.setIfInBounds_toArray, List.set_cons_zero, List.set_cons_succ]
      refine tkYes 8 (v := ?_) rfl (by kernel_rfl) (fun _ _ _ h => h) rfl ?_ hS ?_
      rotate_left
      · intro W hW; go_simp; (try with_reducible rfl)
      simp only [Act.put, List.setIfInBounds_toArray, List.set_cons_zero, List.set_cons_succ]
      refine wpAnyH_done (by kernel_rfl) ?_ _
      go_wp2_with fail
      exact ⟨⟨j + 1, by omega, by go_num, hS⟩, by simp [intOf]; omega⟩
    · obtain rfl : n = j := by omega
      go_wp2_with fail
      go_ret
      exact ⟨rfl, B.out⟩
theorem ofU_yes {l : List Nt.M} {u : Int} {j : Nat} {x : Nt.M} (hx : l[j]? = some x) (h : x.u = u) : Nt.ofU (l.take (j + 1)) u = Nt.ofU (l.take j) u ++ [x] := by
  unfold Nt.ofU
  rw [List.take_add_one, hx, List.filter_append]
  simp [h]
theorem ofU_no {l : List Nt.M} {u : Int} {j : Nat} {x : Nt.M} (hx : l[j]? = some x) (h : ¬ x.u = u) : Nt.ofU (l.take (j + 1)) u = Nt.ofU (l.take j) u := by
  unfold Nt.ofU
  rw [List.take_add_one, hx, List.filter_append]
  simp [h]
theorem ofU_le (l : List Nt.M) (u : Int) (j : Nat) : (Nt.ofU (l.take j) u).length ≤ j := by
  unfold Nt.ofU
  have h1 := List.length_filter_le (fun m : Nt.M => decide (m.u = u)) (l.take j)
  rw [List.length_take] at h1
  omega
set_option maxHeartbeats 3200000 in
theorem rtof_any (rm : Int) (A : Option Addr) (n c : Nat) (l : List Nt.M) (se lo u : Int) (w : World) (hs : SlF Nt.mC w A n c l) (hl : n ≤ 1000) :
    Calls Try.prog 29 #[nrV rm (.slice A n c) se lo, .int .i64 u] w (fun e w' => ∃ A' c', e = .returned (.slice A' (Nt.ofU l u).length c') ∧ SlF Nt.mC w' A' (Nt.ofU l u).length c' (Nt.ofU l u) ∧ Below w.heap.size w w') := by
  have LN : Hid (l.length = n) := hs.len.symm
  have hkc := hs.cap
  have hb1 : Below w.heap.size w (w.alloc (.cells #[.int .i64 rm, .slice A n c, .int .i64 se, .int .i64 lo] 28)) := (Below.refl _ _).alloc (Nat.le_refl _) _
  have SH := Lib.hid (hs.on hb1)
  have X1 := Lib.hid (NrAt.new w rm (.slice A n c) se lo)
  have HL := Lib.hid hl
  have hn63 : (n : Int) ≤ 1000 := by omega
  have B1 := Lib.hid hb1
  clear hs hb1 hl
  go_enter Try.func29, Try.ntmps29
  go_upto_region 1 with fail
  generalize w.alloc (.cells #[.int .i64 rm, .slice A n c, .int .i64 se, .int .i64 lo] 28) = W at *
  obtain ⟨g, hg⟩ : ∃ g, g = w.heap.size := ⟨_, rfl⟩
  rw [← hg] at X1 ⊢
  clear hg
  have hov : OwF Nt.mC 6 32 W W.heap.size (.slice none 0 0) (Nt.ofU (l.take 0) u) := OwF.none_ _ _ _
  go_upto_region 2 with fail
  generalize Value.slice none 0 0 = v0 at hov ⊢
  have OV := Lib.hid hov
  clear hov
  go_wp2_with fail
  go_loopw [5, 6] (fun v i wr => ∃ j : Nat, j ≤ n ∧ i = .int .i64 j ∧ OwF Nt.mC 6 32 wr W.heap.size v (Nt.ofU (l.take j) u) ∧ Below W.heap.size W wr) (fun _ i _ => n - (intOf i).toNat)
  case atStart => exact ⟨0, by omega, rfl, OV.out, Below.refl _ _⟩
  case round =>
    obtain ⟨j, hj, rfl, ho, hbr⟩ := hrel
    have O := Lib.hid ho
    have B := Lib.hid hbr
    clear ho hbr OV
    obtain ⟨x0, x1, x2, x3, xf, xl⟩ := (X1.out.on B.out).cs
    by_cases hlt : j < n
    · have hx : l[j]? = some (l[j]'(by have := LN.out; omega)) := List.getElem?_eq_getElem _
      generalize l[j]'(by have := LN.out; omega) = x at hx
      obtain ⟨b, o, rfl, hl1, hr1⟩ := nt_range (SH.out.on B.out) hx
      have hcu : wr.cell? ⟨b, o + j * 6 + 3, none⟩ = some (.int .i64 x.u) := hr1 3 _ rfl
      have RG := Lib.hid hr1
      have i1 : (0 : Int) ≤ (j : Int) := by omega
      have i2 : (j : Int) < (n : Int) := by omega
      by_cases hu : x.u = u
      · have EU := Lib.hid (ofU_yes hx hu)
        have LE := Lib.hid (ofU_le l u j)
        have hueq : (x.u == u) = true := by rw [beq_iff_eq]; exact hu
        clear hx hr1 hl1 hu
        generalize Nt.ofU (l.take j) u = L at *
        generalize x.u = xu at *
        go_wp2_with (first
          | ((with_reducible show wpList _ _ _ ({ dst := some 27, op := .load _ _, type := _, pos := _, after := _, guard := _ } :: _) _ _); refine wpList_load_msg rfl (.tmp 26) rfl b (o + j * 6) rfl x RG.out ?_)
          | ((with_reducible show wpList _ _ _ ({ dst := some 28, op := .buildSlice _ _ _, type := _, pos := _, after := _, guard := _ } :: _) _ _); refine wpList_build_msg rfl (.tmp 27) rfl x rfl ?_)
          | (at_builtin; refine wpList_append_one Nt.mC_len Nt.mC_one Try.underlying26 msg_info rfl (by omega) rfl (.tmp 22) (.tmp 28) rfl W.heap.size u5 L rfl O.out x rfl (by have := HL.out; have := LE.out; unfold maxLen; omega) (by have := HL.out; have := LE.out; omega) B.out.size ?_; intro v4 w4 ho4 hb4 hg4 _; have O4 := Lib.hid ho4; have B4 := Lib.hid (B.out.trans hb4); clear ho4 hb4 hg4))
        exact ⟨⟨j + 1, by omega, by go_num, by rw [EU.out]; exact O4.out, B4.out⟩, by simp [intOf]; omega⟩
      · have EU := Lib.hid (ofU_no hx hu)
        have hueq : (x.u == u) = false := by rw [beq_eq_false_iff_ne]; exact hu
        clear hx hr1 hl1 hu
        generalize x.u = xu at *
        go_wp2_with fail
        exact ⟨⟨j + 1, by omega, by go_num, by rw [EU.out]; exact O.out, B.out⟩, by simp [intOf]; omega⟩
    · obtain rfl : n = j := by omega
      have EL : l.take n = l := List.take_of_length_le (by have := LN.out; omega)
      rw [EL] at O
      clear EL
      obtain ⟨A4, c4, rfl⟩ := O.out.form
      go_wp2_with fail
      go_ret
      exact ⟨A4, c4, rfl, O.out.sl, B1.out.trans (B.out.mono B1.out.size)⟩
end Go.Proofs.Ytmhhjipdbfepiaa
