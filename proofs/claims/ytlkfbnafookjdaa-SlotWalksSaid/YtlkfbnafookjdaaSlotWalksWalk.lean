/-
  SlotWalks of layer 15, walked. Written by wip/tools/gen/suwalks.py. No condition.
-/
import Derived.Test.YtlkfbnafookjdaaSlotFallsWalk
import Derived.Test.YtlkfbnafookjdaaSuStep
import Derived.Test.YtlkfbnafookjdaaInts
import Derived.Test.YtlkfbnafookjdaaRowsG
namespace Go.Proofs.Ytlkfbnafookjdaa
open Go.RowKit Go.Deep
set_option linter.unusedSimpArgs false
set_option linter.unusedVariables false

section
variable {P : Program} {ops : Array Oper} {Q : Exit → Act → World → Prop} {S : World → Prop} {fuel : Nat} {listed : Array Bool} {a : Act} {w : World}
theorem rnThree (i j k : Nat) {oi oj ok : Oper} (hi : ops.toList[i]? = some oi) (hj : ops.toList[j]? = some oj) (hk : ops.toList[k]? = some ok) (hr : Region.ready .any ops listed = [i, j, k])
    (hw : Region.wanted oi (yielded ops a.tmps) = true) (hwj : Region.wanted oj (yielded ops a.tmps) = true) (hwk : Region.wanted ok (yielded ops a.tmps) = true)
    (h : ∀ K : Act → World → Prop, Shut (∀ a w, S w → (S w → wpAnyH P .any ops Q S fuel (listed.setIfInBounds i true) a w) → K a w) → Oper.wp P oi a w K Q)
    (h2 : ∀ K : Act → World → Prop, Shut (∀ a w, S w → (S w → wpAnyH P .any ops Q S fuel (listed.setIfInBounds j true) a w) → K a w) → Oper.wp P oj a w K Q)
    (h3 : ∀ K : Act → World → Prop, Shut (∀ a w, S w → (S w → wpAnyH P .any ops Q S fuel (listed.setIfInBounds k true) a w) → K a w) → Oper.wp P ok a w K Q) :
    wpAnyH P .any ops Q S (fuel + 1) listed a w :=
  wpAnyH_ready hr (by simp) (AllReadyH.cons (o := oi) (by simpa using hi) (fun K hK => by rw [if_pos hw]; exact h K hK) (AllReadyH.cons (o := oj) (by simpa using hj) (fun K hK => by rw [if_pos hwj]; exact h2 K hK) (AllReadyH.cons (o := ok) (by simpa using hk) (fun K hK => by rw [if_pos hwk]; exact h3 K hK) AllReadyH.nil)))
end
/-- What the cells of two numbers read as. -/
def EA2 (_ : World) (cs : List Value) (t : Int × Int) : Prop := cs = [.int .i64 t.1, .int .i64 t.2]
abbrev SlA (w : World) (A : Option Addr) (n c : Nat) (l : List (Int × Int)) : Prop := SlR 2 EA2 w A n c l
theorem EA2.on : ∀ w w' cs t, Below w.heap.size w w' → EA2 w cs t → EA2 w' cs t := fun _ _ _ _ _ h => h
theorem sla_cells {w : World} {A : Option Addr} {n c : Nat} {l : List (Int × Int)} (h : SlA w A n c l) {j : Nat} (hj : j < l.length) : ∃ b o x y, A = some ⟨b, o, none⟩ ∧ b < w.heap.size ∧ w.cell? ⟨b, o + j * 2, none⟩ = some (.int .i64 x) ∧ w.cell? ⟨b, o + j * 2 + 1, none⟩ = some (.int .i64 y) := by
  obtain ⟨b, o, cs, e, hb, _, hc, he⟩ := h.rd j _ (List.getElem?_eq_getElem hj)
  unfold EA2 at he
  subst he
  exact ⟨b, o, _, _, e, hb, hc 0 (by omega), hc 1 (by omega)⟩
/-- One step, of any kind. -/
theorem sustep_any (x : Su.S) (hr : Su.Right x) (kd a b : Int) : ∃ y, Su.Right y ∧ ∀ W, Calls Try.prog 9 #[suV x, suV x, .int .i64 kd, .agg #[.int .i64 a, .int .i64 b]] W (StepPost W y) := by
  have h0 : 0 ≤ (IntKind.u64.wrap kd).tmod 5 := by rw [IntKind.wrap_u64]; exact Int.tmod_nonneg _ (Int.emod_nonneg _ (by omega))
  have h1 : (IntKind.u64.wrap kd).tmod 5 < 5 := Int.tmod_lt_of_pos _ (by omega)
  rcases (by omega : (IntKind.u64.wrap kd).tmod 5 = 0 ∨ (IntKind.u64.wrap kd).tmod 5 = 1 ∨ (IntKind.u64.wrap kd).tmod 5 = 2 ∨ (IntKind.u64.wrap kd).tmod 5 = 3 ∨ (IntKind.u64.wrap kd).tmod 5 = 4) with h | h | h | h | h
  · exact ⟨_, Su.want_right a b hr, fun W => sustep_0 x kd a b h W⟩
  · exact ⟨_, Su.go_right hr, fun W => sustep_1 x kd a b h W⟩
  · exact ⟨_, Su.turn_right (by omega) (by omega) hr, fun W => sustep_2 x kd a b h W⟩
  · exact ⟨_, Su.turn_right (by omega) (by omega) hr, fun W => sustep_3 x kd a b h W⟩
  · exact ⟨_, Su.fall_right hr, fun W => sustep_4 x kd a b h W⟩
set_option maxHeartbeats 6400000 in
theorem slotwalks_walk (s0 : Su.S) (n1 c1 n2 c2 : Nat) (A1 A2 : Option Addr) (l1 : List Int) (l2 : List (Int × Int)) (W : World) (h1 : SlI W A1 n1 c1 l1) (h2 : SlA W A2 n2 c2 l2) :
    Calls Try.prog 3 #[suV s0, .slice A1 n1 c1, .slice A2 n2 c2] W (fun e w' => e = .returned (.bool true) ∧ Below W.heap.size W w') := by
  have CL := Lib.hid (fun W => sulives_any W)
  have CG := Lib.hid (fun W => rsgood_any s0 W)
  have RX := Lib.hid (Su.goodOf_right s0)
  generalize Su.goodOf s0 = x at *
  have L1 := Lib.hid h1
  have L2 := Lib.hid h2
  have N1 := Lib.hid h1.len
  have N2 := Lib.hid h2.len
  have M1 : Hid (n1 ≤ 9223372036854775807) := by have := h1.cap; have := h1.max; unfold maxLen at this; show _ ≤ _; omega
  have M2 : Hid (n2 ≤ 9223372036854775807) := by have := h2.cap; have := h2.max; unfold maxLen at this; show _ ≤ _; omega
  have O1 : Hid (0 < l1.length → ∃ b o, A1 = some ⟨b, o, none⟩) := fun h => by obtain ⟨b, o, e, _⟩ := h1.rd h; exact ⟨b, o, e⟩
  have O2 : Hid (0 < l2.length → ∃ b o, A2 = some ⟨b, o, none⟩) := fun h => by obtain ⟨b, o, _, _, e, _⟩ := sla_cells h2 (j := 0) h; exact ⟨b, o, e⟩
  clear h1 h2
  unfold suV at *
  have B := Lib.hid ((Below.refl W.heap.size W).alloc (Nat.le_refl _) (.cells (suC s0) 23))
  have T0 := Lib.hid (SuAt.new 23 W s0)
  obtain ⟨g0, hg0⟩ : ∃ g, g = W.heap.size := ⟨_, rfl⟩
  rw [← hg0] at T0
  have HG0 := Lib.hid hg0
  clear hg0
  unfold suC at *
  go_enter Try.func3, Try.ntmps3
  go_upto_region 1 with fail
  rw [← HG0.out]
  generalize W.alloc (.cells #[.int .i64 s0.st, .int .i64 s0.v, .int .i64 s0.wa, .int .i64 s0.sq] 23) = W1 at *
  go_upto_region 3 with (go_at_call 7; (with_reducible refine (CL.out _).mono ?_); rintro e w1 ⟨rfl, hb⟩; replace T0 := Lib.hid (T0.out.on hb); replace B := Lib.hid (B.out.trans (hb.mono B.out.size)); clear hb)
  obtain ⟨c0, c1, c2, c3, cl⟩ := T0.out.cells
  go_upto_region 4 with (go_at_call 8; (with_reducible refine (CG.out _).mono ?_); rintro e w2 ⟨rfl, hb⟩; replace T0 := Lib.hid (T0.out.on hb); replace B := Lib.hid (B.out.trans (hb.mono B.out.size)); clear hb c0 c1 c2 c3 cl)
  have BW := Lib.hid B.out.size
  have R := Lib.hid (SuAt.new 23 w2 x)
  have hb := (Below.refl w2.heap.size w2).alloc (Nat.le_refl _) (.cells (suC x) 23)
  replace T0 := Lib.hid (T0.out.on hb); replace B := Lib.hid (B.out.trans (hb.mono B.out.size))
  clear hb
  obtain ⟨gr, hgr⟩ : ∃ gr, gr = w2.heap.size := ⟨_, rfl⟩
  rw [← hgr] at R ⊢
  have HGR := Lib.hid hgr
  clear hgr
  unfold suC at *
  generalize w2.alloc (.cells #[.int .i64 x.st, .int .i64 x.v, .int .i64 x.wa, .int .i64 x.sq] 23) = w2x at *
  obtain ⟨c0, c1, c2, c3, cl⟩ := R.out.cells
  have GR : Hid (W.heap.size ≤ gr) := by have h1 := HGR.out; have h2 := BW.out; show _ ≤ _; omega
  go_upto_region 5 with fail
  have X := Lib.hid (SuAt.new 28 w2x x)
  have hb := (Below.refl w2x.heap.size w2x).alloc (Nat.le_refl _) (.cells (suC x) 28)
  replace T0 := Lib.hid (T0.out.on hb); replace R := Lib.hid (R.out.on hb); replace B := Lib.hid (B.out.trans (hb.mono B.out.size))
  clear hb
  obtain ⟨gx, hgx⟩ : ∃ gx, gx = w2x.heap.size := ⟨_, rfl⟩
  rw [← hgx] at X ⊢
  have HGX := Lib.hid hgx
  clear hgx
  unfold suC at *
  generalize w2x.alloc (.cells #[.int .i64 x.st, .int .i64 x.v, .int .i64 x.wa, .int .i64 x.sq] 28) = w2xx at *
  have GX : Hid (gr < gx) := by have h1 := HGX.out; have h2 : gr < w2x.heap.size := cl; show _ < _; omega
  clear c0 c1 c2 c3 cl
  go_wp2_with fail
  go_loopw [9] (fun i wr => ∃ (j : Nat) (y : Su.S), i = .int .i64 j ∧ j ≤ n1 ∧ j ≤ 80 ∧ SuAt 23 wr gr y ∧ SuAt 28 wr gx y ∧ Su.Right y ∧ Below W.heap.size W wr) (fun i _ => 80 - (intOf i).toNat)
  case atStart => exact ⟨0, x, rfl, by omega, by omega, R.out, X.out, RX.out, B.out⟩
  case round =>
    obtain ⟨j, y, rfl, hj, hj8, hr, hx, hry, hby⟩ := hrel
    clear CL CG RX T0 R X B HG0 BW HGR HGX
    have R := Lib.hid hr
    have X := Lib.hid hx
    have RY := Lib.hid hry
    have B := Lib.hid hby
    clear hr hx hry hby
    have hn1 := M1.out
    have hn2 := M2.out
    by_cases ha : j < n1
    · by_cases hb8 : j < 80
      · have XL := Lib.hid X.out.cells.2.2.2.2
        have RL := Lib.hid R.out.cells.2.2.2.2
        have GB := Lib.hid B.out.size
        have hw : wrap64 ((j : Int) + 1) = (j : Int) + 1 := IntWalk.wrap64_in _ ⟨by omega, by omega⟩
        obtain ⟨b1, o1, rfl⟩ := O1.out (by have := N1.out; omega)
        obtain ⟨kd, KD⟩ : ∃ kd, Hid (wr.cell? ⟨b1, o1 + j, none⟩ = some (.int .i64 kd) ∧ b1 < wr.heap.size) := by
          obtain ⟨b, o, e, hlt, hc⟩ := (L1.out.on B.out).rd (by have := N1.out; omega)
          injection e with e; injection e with e1 e2; subst e1 e2
          exact ⟨_, hc j (by have := N1.out; omega), hlt⟩
        go_upto_region 9 with fail
        have hb := (Below.refl wr.heap.size wr).alloc (Nat.le_refl _) (.cells #[.int .i64 0, .int .i64 0] 29)
        have N := Lib.hid (heap_alloc_new wr (.cells #[.int .i64 0, .int .i64 0] 29))
        have hkd : (wr.alloc (.cells #[.int .i64 0, .int .i64 0] 29)).cell? ⟨b1, o1 + j, none⟩ = some (.int .i64 kd) := (hb.cell (p := ⟨b1, o1 + j, none⟩) KD.out.2).trans KD.out.1
        replace R := Lib.hid (R.out.on hb)
        replace X := Lib.hid (X.out.on hb)
        replace B := Lib.hid (B.out.trans (hb.mono B.out.size))
        obtain ⟨gn, hgn⟩ : ∃ g, g = wr.heap.size := ⟨_, rfl⟩
        have GN : Hid (W.heap.size ≤ gn ∧ gx < gn ∧ gr < gn ∧ b1 < gn) := by have h1 := KD.out.2; have h2 := GB.out; have h3 := XL.out; have h4 := RL.out; show _ ∧ _; omega
        rw [← hgn] at N ⊢
        clear hgn hb
        have HKD := Lib.hid hkd
        clear hkd KD
        generalize wr.alloc (.cells #[.int .i64 0, .int .i64 0] 29) = w3 at *
        have e0 : w3.cell? ⟨gn, 0, none⟩ = some (.int .i64 0) := by rw [cell_of_row w3 gn 0 _ _ _ N.out]; rfl
        have e1 : w3.cell? ⟨gn, 1, none⟩ = some (.int .i64 0) := by rw [cell_of_row w3 gn 1 _ _ _ N.out]; rfl
        have f0 : w3.frozen? ⟨gn, 0, none⟩ = false := frozen_of_row _ _ _ _ _ N.out
        have f1 : w3.frozen? ⟨gn, 1, none⟩ = false := frozen_of_row _ _ _ _ _ N.out
        have el : gn < w3.heap.size := (Array.getElem?_eq_some_iff.1 N.out).1
        obtain ⟨pa, pb, w5, PW, hcut⟩ : ∃ pa pb w5, w5 = w5 ∧ True := ⟨(0 : Int), (0 : Int), w3, rfl, trivial⟩
        clear hcut PW w5 pa pb
        by_cases h2 : j < n2
        · skip
          obtain ⟨b2, o2, pa, pb, hA2, hbl, q0, q1⟩ := sla_cells (L2.out.on EA2.on B.out) (j := j) (by have := N2.out; omega)
          subst hA2
          go_upto_region 11 with fail
          have hrow : ((w3.setCell ⟨gn, 0, none⟩ (.int .i64 pa)).setCell ⟨gn, 1, none⟩ (.int .i64 pb)).heap[gn]? = some (.cells #[.int .i64 pa, .int .i64 pb] 29 (0, 0)) := heap_setCell_same _ gn 1 _ _ _ (heap_setCell_same w3 gn 0 _ _ _ N.out)
          have hbn : gn ≠ b1 := by have := GN.out.2.2.2; omega
          have hb1 : (w3.setCell ⟨gn, 0, none⟩ (.int .i64 pa)).heap[b1]? = w3.heap[b1]? := Below.heap_setCell _ _ _ _ (by simpa using hbn.symm)
          have hb2 : ((w3.setCell ⟨gn, 0, none⟩ (.int .i64 pa)).setCell ⟨gn, 1, none⟩ (.int .i64 pb)).heap[b1]? = (w3.setCell ⟨gn, 0, none⟩ (.int .i64 pa)).heap[b1]? := Below.heap_setCell _ _ _ _ (by simpa using hbn.symm)
          replace HKD : Hid (((w3.setCell ⟨gn, 0, none⟩ (.int .i64 pa)).setCell ⟨gn, 1, none⟩ (.int .i64 pb)).cell? ⟨b1, o1 + j, none⟩ = some (.int .i64 kd)) := (World.cell?_of_block (hb2.trans hb1)).trans HKD.out
          clear hb1 hb2 hbn
          replace R := Lib.hid (set_apart (q := gn) (set_apart (q := gn) R.out (by have := GN.out.2.2.1; omega) 0 (.int .i64 pa)) (by have := GN.out.2.2.1; omega) 1 (.int .i64 pb))
          replace X := Lib.hid (set_apart (q := gn) (set_apart (q := gn) X.out (by have := GN.out.2.1; omega) 0 (.int .i64 pa)) (by have := GN.out.2.1; omega) 1 (.int .i64 pb))
          replace B := Lib.hid ((B.out.setCell (p := ⟨gn, 0, none⟩) GN.out.1 (.int .i64 pa)).setCell (p := ⟨gn, 1, none⟩) GN.out.1 (.int .i64 pb))
          clear e0 e1 f0 f1 el q0 q1 hbl
          replace N := Lib.hid hrow
          clear hrow
          generalize (w3.setCell ⟨gn, 0, none⟩ (.int .i64 pa)).setCell ⟨gn, 1, none⟩ (.int .i64 pb) = W5 at *
          obtain ⟨yy, hyy, ct⟩ := sustep_any y RY.out kd pa pb
          have CT := Lib.hid ct
          have RYY := Lib.hid hyy
          clear hyy ct
          unfold suV suC at CT
          have hj1 : (j : Int) < n1 := by omega
          have XL5 := Lib.hid X.out.cells.2.2.2.2
          go_cut [11, 12, 13] (fun s11 s12 s13 wx => ∃ ga gz, s11 = .pointer (some ⟨ga, 0, none⟩) ∧ s12 = .pointer (some ⟨gz, 0, none⟩) ∧ s13 = .bool true ∧ SuAt 28 wx ga yy ∧ SuAt 23 wx gz yy ∧ W5.heap.size ≤ gz ∧ Below W5.heap.size W5 wx)
          case first =>
            refine wp_region_held_drew (S := fun V => Below W5.heap.size W5 V) (by kernel_rfl) (Below.refl W5.heap.size W5).drew (fun hS => ?_)
            refine tkYes 0 (v := ?_) rfl (by kernel_rfl) (fun _ _ _ h => h) rfl ?_ hS ?_
            rotate_left
            · intro W hW; obtain ⟨c0, c1, c2, c3, cl⟩ := (X.out.on hW).cells; go_simp; (try with_reducible rfl)
            simp only [Act.put, List.setIfInBounds_toArray, List.set_cons_zero, List.set_cons_succ]
            refine tkYes 1 (v := ?_) rfl (by kernel_rfl) (fun _ _ _ h => h) rfl ?_ hS ?_
            rotate_left
            · intro W hW; obtain ⟨c0, c1, c2, c3, cl⟩ := (R.out.on hW).cells; go_simp; (try with_reducible rfl)
            simp only [Act.put, List.setIfInBounds_toArray, List.set_cons_zero, List.set_cons_succ]
            refine tkYes 2 (v := ?_) rfl (by kernel_rfl) (fun _ _ _ h => h) rfl ?_ hS ?_
            rotate_left
            · intro W hW; go_simp; (try with_reducible rfl)
            simp only [Act.put, List.setIfInBounds_toArray, List.set_cons_zero, List.set_cons_succ]
            refine tkYes 3 (v := ?_) rfl (by kernel_rfl) (fun _ _ _ h => h) rfl ?_ hS ?_
            rotate_left
            · intro W hW; go_simp; (try with_reducible rfl)
            simp only [Act.put, List.setIfInBounds_toArray, List.set_cons_zero, List.set_cons_succ]
            refine tkYes 4 (v := ?_) rfl (by kernel_rfl) (fun _ _ _ h => h) rfl ?_ hS ?_
            rotate_left
            · intro W hW; go_simp; (try with_reducible rfl)
            simp only [Act.put, List.setIfInBounds_toArray, List.set_cons_zero, List.set_cons_succ]
            refine tkYes 5 (v := ?_) rfl (by kernel_rfl) (fun _ _ _ h => h) rfl ?_ hS ?_
            rotate_left
            · intro W hW; have c0 := (hW.cell (p := ⟨b1, o1 + j, none⟩) (by have := GN.out.2.2.2; have := (Array.getElem?_eq_some_iff.1 N.out).1; show b1 < _; omega)).trans HKD.out; go_simp; (try with_reducible rfl)
            simp only [Act.put, List.setIfInBounds_toArray, List.set_cons_zero, List.set_cons_succ]
            refine tkYes 6 (v := ?_) rfl (by kernel_rfl) (fun _ _ _ h => h) rfl ?_ hS ?_
            rotate_left
            · intro W hW; have nn := (hW.block gn (Array.getElem?_eq_some_iff.1 N.out).1).trans N.out; have c0 : W.cell? ⟨gn, 0, none⟩ = some (.int .i64 pa) := (by rw [cell_of_row W gn 0 _ _ _ nn]; rfl); have c1 : W.cell? ⟨gn, 1, none⟩ = some (.int .i64 pb) := (by rw [cell_of_row W gn 1 _ _ _ nn]; rfl); go_simp; (try with_reducible rfl)
            simp only [Act.put, List.setIfInBounds_toArray, List.set_cons_zero, List.set_cons_succ]
            obtain ⟨w, hw0⟩ : ∃ w, w = W5.drew := ⟨_, rfl⟩
            rw [← hw0] at hS ⊢
            clear hw0
            refine rnThree 7 12 13 rfl rfl rfl (by kernel_rfl) rfl rfl rfl (fun K hK => ?_) (fun K hK => ?_) (fun K hK => ?_)
            · skip
              go_simp
              with_reducible refine (CT.out _).mono ?_
              rintro e wx ⟨rfl, hb⟩
              replace hS := hS.trans (hb.mono hS.size)
              clear hb
              try go_simp
              refine hK.out _ _ hS (fun _ => ?_)
              clear hK K
              try simp only [Act.put, List.setIfInBounds_toArray, List.set_cons_zero, List.set_cons_succ]
              refine tkYes 8 (v := ?_) rfl (by kernel_rfl) (fun _ _ _ h => h) rfl ?_ hS ?_
              rotate_left
              · intro W hW; go_simp; (try with_reducible rfl)
              simp only [Act.put, List.setIfInBounds_toArray, List.set_cons_zero, List.set_cons_succ]
              refine tkYes 9 (v := ?_) rfl (by kernel_rfl) (fun _ _ _ h => h) rfl ?_ hS ?_
              rotate_left
              · intro W hW; go_simp; (try with_reducible rfl)
              simp only [Act.put, List.setIfInBounds_toArray, List.set_cons_zero, List.set_cons_succ]
              refine tkYes 10 (v := ?_) rfl (by kernel_rfl) (fun _ _ _ h => h) rfl ?_ hS ?_
              rotate_left
              · intro W hW; go_simp; (try with_reducible rfl)
              simp only [Act.put, List.setIfInBounds_toArray, List.set_cons_zero, List.set_cons_succ]
              refine tkYes 11 (v := ?_) rfl (by kernel_rfl) (fun _ _ _ h => h) rfl ?_ hS ?_
              rotate_left
              · intro W hW; go_simp; (try with_reducible rfl)
              simp only [Act.put, List.setIfInBounds_toArray, List.set_cons_zero, List.set_cons_succ]
              refine rnTwo 12 13 rfl rfl (by kernel_rfl) rfl rfl (fun K hK => ?_) (fun K hK => ?_)
              · skip
                go_simp
                have hb := (Below.refl wx.heap.size wx).alloc (Nat.le_refl _) (.cells #[.int .i64 0, .int .i64 0, .int .i64 0, .int .i64 0] 28)
                have A : Hid (SuAt 28 (wx.alloc (.cells #[.int .i64 0, .int .i64 0, .int .i64 0, .int .i64 0] 28)) wx.heap.size Su.zero) := SuAt.new 28 wx Su.zero
                have QL := Lib.hid hS.size
                obtain ⟨ga, hga⟩ : ∃ g, g = wx.heap.size := ⟨_, rfl⟩
                rw [← hga] at A ⊢
                have Gga : Hid (W5.heap.size ≤ ga) := by have h1 := QL.out; show _ ≤ _; omega
                replace hS := hS.trans (hb.mono hS.size)
                clear hb hga QL 
                generalize wx.alloc (.cells #[.int .i64 0, .int .i64 0, .int .i64 0, .int .i64 0] 28) = wxx at *
                refine hK.out _ _ hS (fun _ => ?_)
                clear hK K
                try simp only [Act.put, List.setIfInBounds_toArray, List.set_cons_zero, List.set_cons_succ]
                refine rnOne 13 rfl (by kernel_rfl) rfl (fun K hK => ?_)
                go_simp
                have hb := (Below.refl wxx.heap.size wxx).alloc (Nat.le_refl _) (.cells #[.int .i64 0, .int .i64 0, .int .i64 0, .int .i64 0] 23)
                have Z : Hid (SuAt 23 (wxx.alloc (.cells #[.int .i64 0, .int .i64 0, .int .i64 0, .int .i64 0] 23)) wxx.heap.size Su.zero) := SuAt.new 23 wxx Su.zero
                have QL := Lib.hid hS.size
                have QA := Lib.hid A.out.cells.2.2.2.2
                obtain ⟨gz, hgz⟩ : ∃ g, g = wxx.heap.size := ⟨_, rfl⟩
                rw [← hgz] at Z ⊢
                have Ggz : Hid (W5.heap.size ≤ gz ∧ ga < gz) := by have h1 := QL.out; have h12 := QA.out; show _ ∧ _; omega
                replace hS := hS.trans (hb.mono hS.size)
                replace A := Lib.hid (A.out.on hb)
                clear hb hgz QL QA
                generalize wxx.alloc (.cells #[.int .i64 0, .int .i64 0, .int .i64 0, .int .i64 0] 23) = wxxx at *
                refine hK.out _ _ hS (fun _ => ?_)
                clear hK K
                try simp only [Act.put, List.setIfInBounds_toArray, List.set_cons_zero, List.set_cons_succ]
                have GD : Hid (ga ≠ gz) := by have h := Ggz.out.2; show _ ≠ _; omega
                have GA : Hid (W5.heap.size ≤ ga) := Gga.out
                have GZ : Hid (W5.heap.size ≤ gz) := Ggz.out.1
                obtain ⟨d0, d1, d2, d3, dl⟩ := A.out.cells
                obtain ⟨o0, o1', o2, o3, ol⟩ := Z.out.cells
                obtain ⟨f0, f1, f2, f3⟩ := A.out.fz
                obtain ⟨k0, k1, k2, k3⟩ := Z.out.fz
                have hag := GD.out
                have hag2 := GD.out.symm
                refine rnOne 14 rfl (by kernel_rfl) rfl (fun K hK => ?_)
                go_simp
                replace hS : Below W5.heap.size W5 ((((wxxx.setCell ⟨ga, 0, none⟩ (.int .i64 yy.st)).setCell ⟨ga, 1, none⟩ (.int .i64 yy.v)).setCell ⟨ga, 2, none⟩ (.int .i64 yy.wa)).setCell ⟨ga, 3, none⟩ (.int .i64 yy.sq)) := (((hS.setCell (p := ⟨ga, 0, none⟩) GA.out _).setCell (p := ⟨ga, 1, none⟩) GA.out _).setCell (p := ⟨ga, 2, none⟩) GA.out _).setCell (p := ⟨ga, 3, none⟩) GA.out _
                refine hK.out _ _ hS (fun _ => ?_)
                clear hK K
                try simp only [Act.put, List.setIfInBounds_toArray, List.set_cons_zero, List.set_cons_succ]
                refine rnOne 15 rfl (by kernel_rfl) rfl (fun K hK => ?_)
                go_simp
                replace hS : Below W5.heap.size W5 ((((((((wxxx.setCell ⟨ga, 0, none⟩ (.int .i64 yy.st)).setCell ⟨ga, 1, none⟩ (.int .i64 yy.v)).setCell ⟨ga, 2, none⟩ (.int .i64 yy.wa)).setCell ⟨ga, 3, none⟩ (.int .i64 yy.sq)).setCell ⟨gz, 0, none⟩ (.int .i64 yy.st)).setCell ⟨gz, 1, none⟩ (.int .i64 yy.v)).setCell ⟨gz, 2, none⟩ (.int .i64 yy.wa)).setCell ⟨gz, 3, none⟩ (.int .i64 yy.sq)) := (((hS.setCell (p := ⟨gz, 0, none⟩) GZ.out _).setCell (p := ⟨gz, 1, none⟩) GZ.out _).setCell (p := ⟨gz, 2, none⟩) GZ.out _).setCell (p := ⟨gz, 3, none⟩) GZ.out _
                refine hK.out _ _ hS (fun _ => ?_)
                clear hK K
                try simp only [Act.put, List.setIfInBounds_toArray, List.set_cons_zero, List.set_cons_succ]
                refine tkYes 16 (v := ?_) rfl (by kernel_rfl) (fun _ _ _ h => h) rfl ?_ hS ?_
                rotate_left
                · intro W hW; go_simp; (try with_reducible rfl)
                simp only [Act.put, List.setIfInBounds_toArray, List.set_cons_zero, List.set_cons_succ]
                refine wpAnyH_done (by kernel_rfl) ?_ _
                have A1 : SuAt 28 ((((wxxx.setCell ⟨ga, 0, none⟩ (.int .i64 yy.st)).setCell ⟨ga, 1, none⟩ (.int .i64 yy.v)).setCell ⟨ga, 2, none⟩ (.int .i64 yy.wa)).setCell ⟨ga, 3, none⟩ (.int .i64 yy.sq)) ga yy := (((A.out.set0 yy.st).set1 yy.v).set2 yy.wa).set3 yy.sq
                have Z1 : SuAt 23 ((((wxxx.setCell ⟨ga, 0, none⟩ (.int .i64 yy.st)).setCell ⟨ga, 1, none⟩ (.int .i64 yy.v)).setCell ⟨ga, 2, none⟩ (.int .i64 yy.wa)).setCell ⟨ga, 3, none⟩ (.int .i64 yy.sq)) gz Su.zero := set_apart (set_apart (set_apart (set_apart Z.out GD.out 0 _) GD.out 1 _) GD.out 2 _) GD.out 3 _
                have A2 : Hid (SuAt 28 ((((((((wxxx.setCell ⟨ga, 0, none⟩ (.int .i64 yy.st)).setCell ⟨ga, 1, none⟩ (.int .i64 yy.v)).setCell ⟨ga, 2, none⟩ (.int .i64 yy.wa)).setCell ⟨ga, 3, none⟩ (.int .i64 yy.sq)).setCell ⟨gz, 0, none⟩ (.int .i64 yy.st)).setCell ⟨gz, 1, none⟩ (.int .i64 yy.v)).setCell ⟨gz, 2, none⟩ (.int .i64 yy.wa)).setCell ⟨gz, 3, none⟩ (.int .i64 yy.sq)) ga yy) := set_apart (set_apart (set_apart (set_apart A1 GD.out.symm 0 _) GD.out.symm 1 _) GD.out.symm 2 _) GD.out.symm 3 _
                have Z2 : Hid (SuAt 23 ((((((((wxxx.setCell ⟨ga, 0, none⟩ (.int .i64 yy.st)).setCell ⟨ga, 1, none⟩ (.int .i64 yy.v)).setCell ⟨ga, 2, none⟩ (.int .i64 yy.wa)).setCell ⟨ga, 3, none⟩ (.int .i64 yy.sq)).setCell ⟨gz, 0, none⟩ (.int .i64 yy.st)).setCell ⟨gz, 1, none⟩ (.int .i64 yy.v)).setCell ⟨gz, 2, none⟩ (.int .i64 yy.wa)).setCell ⟨gz, 3, none⟩ (.int .i64 yy.sq)) gz yy) := (((Z1.set0 yy.st).set1 yy.v).set2 yy.wa).set3 yy.sq
                have H6 := Lib.hid hS
                clear hS A1 Z1 A Z d0 d1 d2 d3 dl o0 o1' o2 o3 ol f0 f1 f2 f3 k0 k1 k2 k3 hag hag2
                generalize ((((((((wxxx.setCell ⟨ga, 0, none⟩ (.int .i64 yy.st)).setCell ⟨ga, 1, none⟩ (.int .i64 yy.v)).setCell ⟨ga, 2, none⟩ (.int .i64 yy.wa)).setCell ⟨ga, 3, none⟩ (.int .i64 yy.sq)).setCell ⟨gz, 0, none⟩ (.int .i64 yy.st)).setCell ⟨gz, 1, none⟩ (.int .i64 yy.v)).setCell ⟨gz, 2, none⟩ (.int .i64 yy.wa)).setCell ⟨gz, 3, none⟩ (.int .i64 yy.sq)) = W6 at *
                go_wp2_with fail
                go_meet
                case rel => exact ⟨ga, gz, rfl, rfl, rfl, A2.out, Z2.out, GZ, H6.out⟩
              · skip
                go_simp
                have hb := (Below.refl wx.heap.size wx).alloc (Nat.le_refl _) (.cells #[.int .i64 0, .int .i64 0, .int .i64 0, .int .i64 0] 23)
                have Z : Hid (SuAt 23 (wx.alloc (.cells #[.int .i64 0, .int .i64 0, .int .i64 0, .int .i64 0] 23)) wx.heap.size Su.zero) := SuAt.new 23 wx Su.zero
                have QL := Lib.hid hS.size
                obtain ⟨gz, hgz⟩ : ∃ g, g = wx.heap.size := ⟨_, rfl⟩
                rw [← hgz] at Z ⊢
                have Ggz : Hid (W5.heap.size ≤ gz) := by have h1 := QL.out; show _ ≤ _; omega
                replace hS := hS.trans (hb.mono hS.size)
                clear hb hgz QL 
                generalize wx.alloc (.cells #[.int .i64 0, .int .i64 0, .int .i64 0, .int .i64 0] 23) = wxx at *
                refine hK.out _ _ hS (fun _ => ?_)
                clear hK K
                try simp only [Act.put, List.setIfInBounds_toArray, List.set_cons_zero, List.set_cons_succ]
                refine rnOne 12 rfl (by kernel_rfl) rfl (fun K hK => ?_)
                go_simp
                have hb := (Below.refl wxx.heap.size wxx).alloc (Nat.le_refl _) (.cells #[.int .i64 0, .int .i64 0, .int .i64 0, .int .i64 0] 28)
                have A : Hid (SuAt 28 (wxx.alloc (.cells #[.int .i64 0, .int .i64 0, .int .i64 0, .int .i64 0] 28)) wxx.heap.size Su.zero) := SuAt.new 28 wxx Su.zero
                have QL := Lib.hid hS.size
                have QZ := Lib.hid Z.out.cells.2.2.2.2
                obtain ⟨ga, hga⟩ : ∃ g, g = wxx.heap.size := ⟨_, rfl⟩
                rw [← hga] at A ⊢
                have Gga : Hid (W5.heap.size ≤ ga ∧ gz < ga) := by have h1 := QL.out; have h13 := QZ.out; show _ ∧ _; omega
                replace hS := hS.trans (hb.mono hS.size)
                replace Z := Lib.hid (Z.out.on hb)
                clear hb hga QL QZ
                generalize wxx.alloc (.cells #[.int .i64 0, .int .i64 0, .int .i64 0, .int .i64 0] 28) = wxxx at *
                refine hK.out _ _ hS (fun _ => ?_)
                clear hK K
                try simp only [Act.put, List.setIfInBounds_toArray, List.set_cons_zero, List.set_cons_succ]
                have GD : Hid (ga ≠ gz) := by have h := Gga.out.2; show _ ≠ _; omega
                have GA : Hid (W5.heap.size ≤ ga) := Gga.out.1
                have GZ : Hid (W5.heap.size ≤ gz) := Ggz.out
                obtain ⟨d0, d1, d2, d3, dl⟩ := A.out.cells
                obtain ⟨o0, o1', o2, o3, ol⟩ := Z.out.cells
                obtain ⟨f0, f1, f2, f3⟩ := A.out.fz
                obtain ⟨k0, k1, k2, k3⟩ := Z.out.fz
                have hag := GD.out
                have hag2 := GD.out.symm
                refine rnOne 14 rfl (by kernel_rfl) rfl (fun K hK => ?_)
                go_simp
                replace hS : Below W5.heap.size W5 ((((wxxx.setCell ⟨ga, 0, none⟩ (.int .i64 yy.st)).setCell ⟨ga, 1, none⟩ (.int .i64 yy.v)).setCell ⟨ga, 2, none⟩ (.int .i64 yy.wa)).setCell ⟨ga, 3, none⟩ (.int .i64 yy.sq)) := (((hS.setCell (p := ⟨ga, 0, none⟩) GA.out _).setCell (p := ⟨ga, 1, none⟩) GA.out _).setCell (p := ⟨ga, 2, none⟩) GA.out _).setCell (p := ⟨ga, 3, none⟩) GA.out _
                refine hK.out _ _ hS (fun _ => ?_)
                clear hK K
                try simp only [Act.put, List.setIfInBounds_toArray, List.set_cons_zero, List.set_cons_succ]
                refine rnOne 15 rfl (by kernel_rfl) rfl (fun K hK => ?_)
                go_simp
                replace hS : Below W5.heap.size W5 ((((((((wxxx.setCell ⟨ga, 0, none⟩ (.int .i64 yy.st)).setCell ⟨ga, 1, none⟩ (.int .i64 yy.v)).setCell ⟨ga, 2, none⟩ (.int .i64 yy.wa)).setCell ⟨ga, 3, none⟩ (.int .i64 yy.sq)).setCell ⟨gz, 0, none⟩ (.int .i64 yy.st)).setCell ⟨gz, 1, none⟩ (.int .i64 yy.v)).setCell ⟨gz, 2, none⟩ (.int .i64 yy.wa)).setCell ⟨gz, 3, none⟩ (.int .i64 yy.sq)) := (((hS.setCell (p := ⟨gz, 0, none⟩) GZ.out _).setCell (p := ⟨gz, 1, none⟩) GZ.out _).setCell (p := ⟨gz, 2, none⟩) GZ.out _).setCell (p := ⟨gz, 3, none⟩) GZ.out _
                refine hK.out _ _ hS (fun _ => ?_)
                clear hK K
                try simp only [Act.put, List.setIfInBounds_toArray, List.set_cons_zero, List.set_cons_succ]
                refine tkYes 16 (v := ?_) rfl (by kernel_rfl) (fun _ _ _ h => h) rfl ?_ hS ?_
                rotate_left
                · intro W hW; go_simp; (try with_reducible rfl)
                simp only [Act.put, List.setIfInBounds_toArray, List.set_cons_zero, List.set_cons_succ]
                refine wpAnyH_done (by kernel_rfl) ?_ _
                have A1 : SuAt 28 ((((wxxx.setCell ⟨ga, 0, none⟩ (.int .i64 yy.st)).setCell ⟨ga, 1, none⟩ (.int .i64 yy.v)).setCell ⟨ga, 2, none⟩ (.int .i64 yy.wa)).setCell ⟨ga, 3, none⟩ (.int .i64 yy.sq)) ga yy := (((A.out.set0 yy.st).set1 yy.v).set2 yy.wa).set3 yy.sq
                have Z1 : SuAt 23 ((((wxxx.setCell ⟨ga, 0, none⟩ (.int .i64 yy.st)).setCell ⟨ga, 1, none⟩ (.int .i64 yy.v)).setCell ⟨ga, 2, none⟩ (.int .i64 yy.wa)).setCell ⟨ga, 3, none⟩ (.int .i64 yy.sq)) gz Su.zero := set_apart (set_apart (set_apart (set_apart Z.out GD.out 0 _) GD.out 1 _) GD.out 2 _) GD.out 3 _
                have A2 : Hid (SuAt 28 ((((((((wxxx.setCell ⟨ga, 0, none⟩ (.int .i64 yy.st)).setCell ⟨ga, 1, none⟩ (.int .i64 yy.v)).setCell ⟨ga, 2, none⟩ (.int .i64 yy.wa)).setCell ⟨ga, 3, none⟩ (.int .i64 yy.sq)).setCell ⟨gz, 0, none⟩ (.int .i64 yy.st)).setCell ⟨gz, 1, none⟩ (.int .i64 yy.v)).setCell ⟨gz, 2, none⟩ (.int .i64 yy.wa)).setCell ⟨gz, 3, none⟩ (.int .i64 yy.sq)) ga yy) := set_apart (set_apart (set_apart (set_apart A1 GD.out.symm 0 _) GD.out.symm 1 _) GD.out.symm 2 _) GD.out.symm 3 _
                have Z2 : Hid (SuAt 23 ((((((((wxxx.setCell ⟨ga, 0, none⟩ (.int .i64 yy.st)).setCell ⟨ga, 1, none⟩ (.int .i64 yy.v)).setCell ⟨ga, 2, none⟩ (.int .i64 yy.wa)).setCell ⟨ga, 3, none⟩ (.int .i64 yy.sq)).setCell ⟨gz, 0, none⟩ (.int .i64 yy.st)).setCell ⟨gz, 1, none⟩ (.int .i64 yy.v)).setCell ⟨gz, 2, none⟩ (.int .i64 yy.wa)).setCell ⟨gz, 3, none⟩ (.int .i64 yy.sq)) gz yy) := (((Z1.set0 yy.st).set1 yy.v).set2 yy.wa).set3 yy.sq
                have H6 := Lib.hid hS
                clear hS A1 Z1 A Z d0 d1 d2 d3 dl o0 o1' o2 o3 ol f0 f1 f2 f3 k0 k1 k2 k3 hag hag2
                generalize ((((((((wxxx.setCell ⟨ga, 0, none⟩ (.int .i64 yy.st)).setCell ⟨ga, 1, none⟩ (.int .i64 yy.v)).setCell ⟨ga, 2, none⟩ (.int .i64 yy.wa)).setCell ⟨ga, 3, none⟩ (.int .i64 yy.sq)).setCell ⟨gz, 0, none⟩ (.int .i64 yy.st)).setCell ⟨gz, 1, none⟩ (.int .i64 yy.v)).setCell ⟨gz, 2, none⟩ (.int .i64 yy.wa)).setCell ⟨gz, 3, none⟩ (.int .i64 yy.sq)) = W6 at *
                go_wp2_with fail
                go_meet
                case rel => exact ⟨ga, gz, rfl, rfl, rfl, A2.out, Z2.out, GZ, H6.out⟩
            · skip
              go_simp
              have hb := (Below.refl w.heap.size w).alloc (Nat.le_refl _) (.cells #[.int .i64 0, .int .i64 0, .int .i64 0, .int .i64 0] 28)
              have A : Hid (SuAt 28 (w.alloc (.cells #[.int .i64 0, .int .i64 0, .int .i64 0, .int .i64 0] 28)) w.heap.size Su.zero) := SuAt.new 28 w Su.zero
              have QL := Lib.hid hS.size
              obtain ⟨ga, hga⟩ : ∃ g, g = w.heap.size := ⟨_, rfl⟩
              rw [← hga] at A ⊢
              have Gga : Hid (W5.heap.size ≤ ga) := by have h1 := QL.out; show _ ≤ _; omega
              replace hS := hS.trans (hb.mono hS.size)
              clear hb hga QL 
              generalize w.alloc (.cells #[.int .i64 0, .int .i64 0, .int .i64 0, .int .i64 0] 28) = wx at *
              refine hK.out _ _ hS (fun _ => ?_)
              clear hK K
              try simp only [Act.put, List.setIfInBounds_toArray, List.set_cons_zero, List.set_cons_succ]
              refine rnTwo 7 13 rfl rfl (by kernel_rfl) rfl rfl (fun K hK => ?_) (fun K hK => ?_)
              · skip
                go_simp
                with_reducible refine (CT.out _).mono ?_
                rintro e wxx ⟨rfl, hb⟩
                replace hS := hS.trans (hb.mono hS.size)
                replace A := Lib.hid (A.out.on hb)
                clear hb
                try go_simp
                refine hK.out _ _ hS (fun _ => ?_)
                clear hK K
                try simp only [Act.put, List.setIfInBounds_toArray, List.set_cons_zero, List.set_cons_succ]
                refine tkYes 8 (v := ?_) rfl (by kernel_rfl) (fun _ _ _ h => h) rfl ?_ hS ?_
                rotate_left
                · intro W hW; go_simp; (try with_reducible rfl)
                simp only [Act.put, List.setIfInBounds_toArray, List.set_cons_zero, List.set_cons_succ]
                refine tkYes 9 (v := ?_) rfl (by kernel_rfl) (fun _ _ _ h => h) rfl ?_ hS ?_
                rotate_left
                · intro W hW; go_simp; (try with_reducible rfl)
                simp only [Act.put, List.setIfInBounds_toArray, List.set_cons_zero, List.set_cons_succ]
                refine tkYes 10 (v := ?_) rfl (by kernel_rfl) (fun _ _ _ h => h) rfl ?_ hS ?_
                rotate_left
                · intro W hW; go_simp; (try with_reducible rfl)
                simp only [Act.put, List.setIfInBounds_toArray, List.set_cons_zero, List.set_cons_succ]
                refine tkYes 11 (v := ?_) rfl (by kernel_rfl) (fun _ _ _ h => h) rfl ?_ hS ?_
                rotate_left
                · intro W hW; go_simp; (try with_reducible rfl)
                simp only [Act.put, List.setIfInBounds_toArray, List.set_cons_zero, List.set_cons_succ]
                refine rnOne 13 rfl (by kernel_rfl) rfl (fun K hK => ?_)
                go_simp
                have hb := (Below.refl wxx.heap.size wxx).alloc (Nat.le_refl _) (.cells #[.int .i64 0, .int .i64 0, .int .i64 0, .int .i64 0] 23)
                have Z : Hid (SuAt 23 (wxx.alloc (.cells #[.int .i64 0, .int .i64 0, .int .i64 0, .int .i64 0] 23)) wxx.heap.size Su.zero) := SuAt.new 23 wxx Su.zero
                have QL := Lib.hid hS.size
                have QA := Lib.hid A.out.cells.2.2.2.2
                obtain ⟨gz, hgz⟩ : ∃ g, g = wxx.heap.size := ⟨_, rfl⟩
                rw [← hgz] at Z ⊢
                have Ggz : Hid (W5.heap.size ≤ gz ∧ ga < gz) := by have h1 := QL.out; have h12 := QA.out; show _ ∧ _; omega
                replace hS := hS.trans (hb.mono hS.size)
                replace A := Lib.hid (A.out.on hb)
                clear hb hgz QL QA
                generalize wxx.alloc (.cells #[.int .i64 0, .int .i64 0, .int .i64 0, .int .i64 0] 23) = wxxx at *
                refine hK.out _ _ hS (fun _ => ?_)
                clear hK K
                try simp only [Act.put, List.setIfInBounds_toArray, List.set_cons_zero, List.set_cons_succ]
                have GD : Hid (ga ≠ gz) := by have h := Ggz.out.2; show _ ≠ _; omega
                have GA : Hid (W5.heap.size ≤ ga) := Gga.out
                have GZ : Hid (W5.heap.size ≤ gz) := Ggz.out.1
                obtain ⟨d0, d1, d2, d3, dl⟩ := A.out.cells
                obtain ⟨o0, o1', o2, o3, ol⟩ := Z.out.cells
                obtain ⟨f0, f1, f2, f3⟩ := A.out.fz
                obtain ⟨k0, k1, k2, k3⟩ := Z.out.fz
                have hag := GD.out
                have hag2 := GD.out.symm
                refine rnOne 14 rfl (by kernel_rfl) rfl (fun K hK => ?_)
                go_simp
                replace hS : Below W5.heap.size W5 ((((wxxx.setCell ⟨ga, 0, none⟩ (.int .i64 yy.st)).setCell ⟨ga, 1, none⟩ (.int .i64 yy.v)).setCell ⟨ga, 2, none⟩ (.int .i64 yy.wa)).setCell ⟨ga, 3, none⟩ (.int .i64 yy.sq)) := (((hS.setCell (p := ⟨ga, 0, none⟩) GA.out _).setCell (p := ⟨ga, 1, none⟩) GA.out _).setCell (p := ⟨ga, 2, none⟩) GA.out _).setCell (p := ⟨ga, 3, none⟩) GA.out _
                refine hK.out _ _ hS (fun _ => ?_)
                clear hK K
                try simp only [Act.put, List.setIfInBounds_toArray, List.set_cons_zero, List.set_cons_succ]
                refine rnOne 15 rfl (by kernel_rfl) rfl (fun K hK => ?_)
                go_simp
                replace hS : Below W5.heap.size W5 ((((((((wxxx.setCell ⟨ga, 0, none⟩ (.int .i64 yy.st)).setCell ⟨ga, 1, none⟩ (.int .i64 yy.v)).setCell ⟨ga, 2, none⟩ (.int .i64 yy.wa)).setCell ⟨ga, 3, none⟩ (.int .i64 yy.sq)).setCell ⟨gz, 0, none⟩ (.int .i64 yy.st)).setCell ⟨gz, 1, none⟩ (.int .i64 yy.v)).setCell ⟨gz, 2, none⟩ (.int .i64 yy.wa)).setCell ⟨gz, 3, none⟩ (.int .i64 yy.sq)) := (((hS.setCell (p := ⟨gz, 0, none⟩) GZ.out _).setCell (p := ⟨gz, 1, none⟩) GZ.out _).setCell (p := ⟨gz, 2, none⟩) GZ.out _).setCell (p := ⟨gz, 3, none⟩) GZ.out _
                refine hK.out _ _ hS (fun _ => ?_)
                clear hK K
                try simp only [Act.put, List.setIfInBounds_toArray, List.set_cons_zero, List.set_cons_succ]
                refine tkYes 16 (v := ?_) rfl (by kernel_rfl) (fun _ _ _ h => h) rfl ?_ hS ?_
                rotate_left
                · intro W hW; go_simp; (try with_reducible rfl)
                simp only [Act.put, List.setIfInBounds_toArray, List.set_cons_zero, List.set_cons_succ]
                refine wpAnyH_done (by kernel_rfl) ?_ _
                have A1 : SuAt 28 ((((wxxx.setCell ⟨ga, 0, none⟩ (.int .i64 yy.st)).setCell ⟨ga, 1, none⟩ (.int .i64 yy.v)).setCell ⟨ga, 2, none⟩ (.int .i64 yy.wa)).setCell ⟨ga, 3, none⟩ (.int .i64 yy.sq)) ga yy := (((A.out.set0 yy.st).set1 yy.v).set2 yy.wa).set3 yy.sq
                have Z1 : SuAt 23 ((((wxxx.setCell ⟨ga, 0, none⟩ (.int .i64 yy.st)).setCell ⟨ga, 1, none⟩ (.int .i64 yy.v)).setCell ⟨ga, 2, none⟩ (.int .i64 yy.wa)).setCell ⟨ga, 3, none⟩ (.int .i64 yy.sq)) gz Su.zero := set_apart (set_apart (set_apart (set_apart Z.out GD.out 0 _) GD.out 1 _) GD.out 2 _) GD.out 3 _
                have A2 : Hid (SuAt 28 ((((((((wxxx.setCell ⟨ga, 0, none⟩ (.int .i64 yy.st)).setCell ⟨ga, 1, none⟩ (.int .i64 yy.v)).setCell ⟨ga, 2, none⟩ (.int .i64 yy.wa)).setCell ⟨ga, 3, none⟩ (.int .i64 yy.sq)).setCell ⟨gz, 0, none⟩ (.int .i64 yy.st)).setCell ⟨gz, 1, none⟩ (.int .i64 yy.v)).setCell ⟨gz, 2, none⟩ (.int .i64 yy.wa)).setCell ⟨gz, 3, none⟩ (.int .i64 yy.sq)) ga yy) := set_apart (set_apart (set_apart (set_apart A1 GD.out.symm 0 _) GD.out.symm 1 _) GD.out.symm 2 _) GD.out.symm 3 _
                have Z2 : Hid (SuAt 23 ((((((((wxxx.setCell ⟨ga, 0, none⟩ (.int .i64 yy.st)).setCell ⟨ga, 1, none⟩ (.int .i64 yy.v)).setCell ⟨ga, 2, none⟩ (.int .i64 yy.wa)).setCell ⟨ga, 3, none⟩ (.int .i64 yy.sq)).setCell ⟨gz, 0, none⟩ (.int .i64 yy.st)).setCell ⟨gz, 1, none⟩ (.int .i64 yy.v)).setCell ⟨gz, 2, none⟩ (.int .i64 yy.wa)).setCell ⟨gz, 3, none⟩ (.int .i64 yy.sq)) gz yy) := (((Z1.set0 yy.st).set1 yy.v).set2 yy.wa).set3 yy.sq
                have H6 := Lib.hid hS
                clear hS A1 Z1 A Z d0 d1 d2 d3 dl o0 o1' o2 o3 ol f0 f1 f2 f3 k0 k1 k2 k3 hag hag2
                generalize ((((((((wxxx.setCell ⟨ga, 0, none⟩ (.int .i64 yy.st)).setCell ⟨ga, 1, none⟩ (.int .i64 yy.v)).setCell ⟨ga, 2, none⟩ (.int .i64 yy.wa)).setCell ⟨ga, 3, none⟩ (.int .i64 yy.sq)).setCell ⟨gz, 0, none⟩ (.int .i64 yy.st)).setCell ⟨gz, 1, none⟩ (.int .i64 yy.v)).setCell ⟨gz, 2, none⟩ (.int .i64 yy.wa)).setCell ⟨gz, 3, none⟩ (.int .i64 yy.sq)) = W6 at *
                go_wp2_with fail
                go_meet
                case rel => exact ⟨ga, gz, rfl, rfl, rfl, A2.out, Z2.out, GZ, H6.out⟩
              · skip
                go_simp
                have hb := (Below.refl wx.heap.size wx).alloc (Nat.le_refl _) (.cells #[.int .i64 0, .int .i64 0, .int .i64 0, .int .i64 0] 23)
                have Z : Hid (SuAt 23 (wx.alloc (.cells #[.int .i64 0, .int .i64 0, .int .i64 0, .int .i64 0] 23)) wx.heap.size Su.zero) := SuAt.new 23 wx Su.zero
                have QL := Lib.hid hS.size
                have QA := Lib.hid A.out.cells.2.2.2.2
                obtain ⟨gz, hgz⟩ : ∃ g, g = wx.heap.size := ⟨_, rfl⟩
                rw [← hgz] at Z ⊢
                have Ggz : Hid (W5.heap.size ≤ gz ∧ ga < gz) := by have h1 := QL.out; have h12 := QA.out; show _ ∧ _; omega
                replace hS := hS.trans (hb.mono hS.size)
                replace A := Lib.hid (A.out.on hb)
                clear hb hgz QL QA
                generalize wx.alloc (.cells #[.int .i64 0, .int .i64 0, .int .i64 0, .int .i64 0] 23) = wxx at *
                refine hK.out _ _ hS (fun _ => ?_)
                clear hK K
                try simp only [Act.put, List.setIfInBounds_toArray, List.set_cons_zero, List.set_cons_succ]
                refine rnOne 7 rfl (by kernel_rfl) rfl (fun K hK => ?_)
                go_simp
                with_reducible refine (CT.out _).mono ?_
                rintro e wxxx ⟨rfl, hb⟩
                replace hS := hS.trans (hb.mono hS.size)
                replace A := Lib.hid (A.out.on hb)
                replace Z := Lib.hid (Z.out.on hb)
                clear hb
                try go_simp
                refine hK.out _ _ hS (fun _ => ?_)
                clear hK K
                try simp only [Act.put, List.setIfInBounds_toArray, List.set_cons_zero, List.set_cons_succ]
                refine tkYes 8 (v := ?_) rfl (by kernel_rfl) (fun _ _ _ h => h) rfl ?_ hS ?_
                rotate_left
                · intro W hW; go_simp; (try with_reducible rfl)
                simp only [Act.put, List.setIfInBounds_toArray, List.set_cons_zero, List.set_cons_succ]
                refine tkYes 9 (v := ?_) rfl (by kernel_rfl) (fun _ _ _ h => h) rfl ?_ hS ?_
                rotate_left
                · intro W hW; go_simp; (try with_reducible rfl)
                simp only [Act.put, List.setIfInBounds_toArray, List.set_cons_zero, List.set_cons_succ]
                refine tkYes 10 (v := ?_) rfl (by kernel_rfl) (fun _ _ _ h => h) rfl ?_ hS ?_
                rotate_left
                · intro W hW; go_simp; (try with_reducible rfl)
                simp only [Act.put, List.setIfInBounds_toArray, List.set_cons_zero, List.set_cons_succ]
                refine tkYes 11 (v := ?_) rfl (by kernel_rfl) (fun _ _ _ h => h) rfl ?_ hS ?_
                rotate_left
                · intro W hW; go_simp; (try with_reducible rfl)
                simp only [Act.put, List.setIfInBounds_toArray, List.set_cons_zero, List.set_cons_succ]
                have GD : Hid (ga ≠ gz) := by have h := Ggz.out.2; show _ ≠ _; omega
                have GA : Hid (W5.heap.size ≤ ga) := Gga.out
                have GZ : Hid (W5.heap.size ≤ gz) := Ggz.out.1
                obtain ⟨d0, d1, d2, d3, dl⟩ := A.out.cells
                obtain ⟨o0, o1', o2, o3, ol⟩ := Z.out.cells
                obtain ⟨f0, f1, f2, f3⟩ := A.out.fz
                obtain ⟨k0, k1, k2, k3⟩ := Z.out.fz
                have hag := GD.out
                have hag2 := GD.out.symm
                refine rnOne 14 rfl (by kernel_rfl) rfl (fun K hK => ?_)
                go_simp
                replace hS : Below W5.heap.size W5 ((((wxxx.setCell ⟨ga, 0, none⟩ (.int .i64 yy.st)).setCell ⟨ga, 1, none⟩ (.int .i64 yy.v)).setCell ⟨ga, 2, none⟩ (.int .i64 yy.wa)).setCell ⟨ga, 3, none⟩ (.int .i64 yy.sq)) := (((hS.setCell (p := ⟨ga, 0, none⟩) GA.out _).setCell (p := ⟨ga, 1, none⟩) GA.out _).setCell (p := ⟨ga, 2, none⟩) GA.out _).setCell (p := ⟨ga, 3, none⟩) GA.out _
                refine hK.out _ _ hS (fun _ => ?_)
                clear hK K
                try simp only [Act.put, List.setIfInBounds_toArray, List.set_cons_zero, List.set_cons_succ]
                refine rnOne 15 rfl (by kernel_rfl) rfl (fun K hK => ?_)
                go_simp
                replace hS : Below W5.heap.size W5 ((((((((wxxx.setCell ⟨ga, 0, none⟩ (.int .i64 yy.st)).setCell ⟨ga, 1, none⟩ (.int .i64 yy.v)).setCell ⟨ga, 2, none⟩ (.int .i64 yy.wa)).setCell ⟨ga, 3, none⟩ (.int .i64 yy.sq)).setCell ⟨gz, 0, none⟩ (.int .i64 yy.st)).setCell ⟨gz, 1, none⟩ (.int .i64 yy.v)).setCell ⟨gz, 2, none⟩ (.int .i64 yy.wa)).setCell ⟨gz, 3, none⟩ (.int .i64 yy.sq)) := (((hS.setCell (p := ⟨gz, 0, none⟩) GZ.out _).setCell (p := ⟨gz, 1, none⟩) GZ.out _).setCell (p := ⟨gz, 2, none⟩) GZ.out _).setCell (p := ⟨gz, 3, none⟩) GZ.out _
                refine hK.out _ _ hS (fun _ => ?_)
                clear hK K
                try simp only [Act.put, List.setIfInBounds_toArray, List.set_cons_zero, List.set_cons_succ]
                refine tkYes 16 (v := ?_) rfl (by kernel_rfl) (fun _ _ _ h => h) rfl ?_ hS ?_
                rotate_left
                · intro W hW; go_simp; (try with_reducible rfl)
                simp only [Act.put, List.setIfInBounds_toArray, List.set_cons_zero, List.set_cons_succ]
                refine wpAnyH_done (by kernel_rfl) ?_ _
                have A1 : SuAt 28 ((((wxxx.setCell ⟨ga, 0, none⟩ (.int .i64 yy.st)).setCell ⟨ga, 1, none⟩ (.int .i64 yy.v)).setCell ⟨ga, 2, none⟩ (.int .i64 yy.wa)).setCell ⟨ga, 3, none⟩ (.int .i64 yy.sq)) ga yy := (((A.out.set0 yy.st).set1 yy.v).set2 yy.wa).set3 yy.sq
                have Z1 : SuAt 23 ((((wxxx.setCell ⟨ga, 0, none⟩ (.int .i64 yy.st)).setCell ⟨ga, 1, none⟩ (.int .i64 yy.v)).setCell ⟨ga, 2, none⟩ (.int .i64 yy.wa)).setCell ⟨ga, 3, none⟩ (.int .i64 yy.sq)) gz Su.zero := set_apart (set_apart (set_apart (set_apart Z.out GD.out 0 _) GD.out 1 _) GD.out 2 _) GD.out 3 _
                have A2 : Hid (SuAt 28 ((((((((wxxx.setCell ⟨ga, 0, none⟩ (.int .i64 yy.st)).setCell ⟨ga, 1, none⟩ (.int .i64 yy.v)).setCell ⟨ga, 2, none⟩ (.int .i64 yy.wa)).setCell ⟨ga, 3, none⟩ (.int .i64 yy.sq)).setCell ⟨gz, 0, none⟩ (.int .i64 yy.st)).setCell ⟨gz, 1, none⟩ (.int .i64 yy.v)).setCell ⟨gz, 2, none⟩ (.int .i64 yy.wa)).setCell ⟨gz, 3, none⟩ (.int .i64 yy.sq)) ga yy) := set_apart (set_apart (set_apart (set_apart A1 GD.out.symm 0 _) GD.out.symm 1 _) GD.out.symm 2 _) GD.out.symm 3 _
                have Z2 : Hid (SuAt 23 ((((((((wxxx.setCell ⟨ga, 0, none⟩ (.int .i64 yy.st)).setCell ⟨ga, 1, none⟩ (.int .i64 yy.v)).setCell ⟨ga, 2, none⟩ (.int .i64 yy.wa)).setCell ⟨ga, 3, none⟩ (.int .i64 yy.sq)).setCell ⟨gz, 0, none⟩ (.int .i64 yy.st)).setCell ⟨gz, 1, none⟩ (.int .i64 yy.v)).setCell ⟨gz, 2, none⟩ (.int .i64 yy.wa)).setCell ⟨gz, 3, none⟩ (.int .i64 yy.sq)) gz yy) := (((Z1.set0 yy.st).set1 yy.v).set2 yy.wa).set3 yy.sq
                have H6 := Lib.hid hS
                clear hS A1 Z1 A Z d0 d1 d2 d3 dl o0 o1' o2 o3 ol f0 f1 f2 f3 k0 k1 k2 k3 hag hag2
                generalize ((((((((wxxx.setCell ⟨ga, 0, none⟩ (.int .i64 yy.st)).setCell ⟨ga, 1, none⟩ (.int .i64 yy.v)).setCell ⟨ga, 2, none⟩ (.int .i64 yy.wa)).setCell ⟨ga, 3, none⟩ (.int .i64 yy.sq)).setCell ⟨gz, 0, none⟩ (.int .i64 yy.st)).setCell ⟨gz, 1, none⟩ (.int .i64 yy.v)).setCell ⟨gz, 2, none⟩ (.int .i64 yy.wa)).setCell ⟨gz, 3, none⟩ (.int .i64 yy.sq)) = W6 at *
                go_wp2_with fail
                go_meet
                case rel => exact ⟨ga, gz, rfl, rfl, rfl, A2.out, Z2.out, GZ, H6.out⟩
            · skip
              go_simp
              have hb := (Below.refl w.heap.size w).alloc (Nat.le_refl _) (.cells #[.int .i64 0, .int .i64 0, .int .i64 0, .int .i64 0] 23)
              have Z : Hid (SuAt 23 (w.alloc (.cells #[.int .i64 0, .int .i64 0, .int .i64 0, .int .i64 0] 23)) w.heap.size Su.zero) := SuAt.new 23 w Su.zero
              have QL := Lib.hid hS.size
              obtain ⟨gz, hgz⟩ : ∃ g, g = w.heap.size := ⟨_, rfl⟩
              rw [← hgz] at Z ⊢
              have Ggz : Hid (W5.heap.size ≤ gz) := by have h1 := QL.out; show _ ≤ _; omega
              replace hS := hS.trans (hb.mono hS.size)
              clear hb hgz QL 
              generalize w.alloc (.cells #[.int .i64 0, .int .i64 0, .int .i64 0, .int .i64 0] 23) = wx at *
              refine hK.out _ _ hS (fun _ => ?_)
              clear hK K
              try simp only [Act.put, List.setIfInBounds_toArray, List.set_cons_zero, List.set_cons_succ]
              refine rnTwo 7 12 rfl rfl (by kernel_rfl) rfl rfl (fun K hK => ?_) (fun K hK => ?_)
              · skip
                go_simp
                with_reducible refine (CT.out _).mono ?_
                rintro e wxx ⟨rfl, hb⟩
                replace hS := hS.trans (hb.mono hS.size)
                replace Z := Lib.hid (Z.out.on hb)
                clear hb
                try go_simp
                refine hK.out _ _ hS (fun _ => ?_)
                clear hK K
                try simp only [Act.put, List.setIfInBounds_toArray, List.set_cons_zero, List.set_cons_succ]
                refine tkYes 8 (v := ?_) rfl (by kernel_rfl) (fun _ _ _ h => h) rfl ?_ hS ?_
                rotate_left
                · intro W hW; go_simp; (try with_reducible rfl)
                simp only [Act.put, List.setIfInBounds_toArray, List.set_cons_zero, List.set_cons_succ]
                refine tkYes 9 (v := ?_) rfl (by kernel_rfl) (fun _ _ _ h => h) rfl ?_ hS ?_
                rotate_left
                · intro W hW; go_simp; (try with_reducible rfl)
                simp only [Act.put, List.setIfInBounds_toArray, List.set_cons_zero, List.set_cons_succ]
                refine tkYes 10 (v := ?_) rfl (by kernel_rfl) (fun _ _ _ h => h) rfl ?_ hS ?_
                rotate_left
                · intro W hW; go_simp; (try with_reducible rfl)
                simp only [Act.put, List.setIfInBounds_toArray, List.set_cons_zero, List.set_cons_succ]
                refine tkYes 11 (v := ?_) rfl (by kernel_rfl) (fun _ _ _ h => h) rfl ?_ hS ?_
                rotate_left
                · intro W hW; go_simp; (try with_reducible rfl)
                simp only [Act.put, List.setIfInBounds_toArray, List.set_cons_zero, List.set_cons_succ]
                refine rnOne 12 rfl (by kernel_rfl) rfl (fun K hK => ?_)
                go_simp
                have hb := (Below.refl wxx.heap.size wxx).alloc (Nat.le_refl _) (.cells #[.int .i64 0, .int .i64 0, .int .i64 0, .int .i64 0] 28)
                have A : Hid (SuAt 28 (wxx.alloc (.cells #[.int .i64 0, .int .i64 0, .int .i64 0, .int .i64 0] 28)) wxx.heap.size Su.zero) := SuAt.new 28 wxx Su.zero
                have QL := Lib.hid hS.size
                have QZ := Lib.hid Z.out.cells.2.2.2.2
                obtain ⟨ga, hga⟩ : ∃ g, g = wxx.heap.size := ⟨_, rfl⟩
                rw [← hga] at A ⊢
                have Gga : Hid (W5.heap.size ≤ ga ∧ gz < ga) := by have h1 := QL.out; have h13 := QZ.out; show _ ∧ _; omega
                replace hS := hS.trans (hb.mono hS.size)
                replace Z := Lib.hid (Z.out.on hb)
                clear hb hga QL QZ
                generalize wxx.alloc (.cells #[.int .i64 0, .int .i64 0, .int .i64 0, .int .i64 0] 28) = wxxx at *
                refine hK.out _ _ hS (fun _ => ?_)
                clear hK K
                try simp only [Act.put, List.setIfInBounds_toArray, List.set_cons_zero, List.set_cons_succ]
                have GD : Hid (ga ≠ gz) := by have h := Gga.out.2; show _ ≠ _; omega
                have GA : Hid (W5.heap.size ≤ ga) := Gga.out.1
                have GZ : Hid (W5.heap.size ≤ gz) := Ggz.out
                obtain ⟨d0, d1, d2, d3, dl⟩ := A.out.cells
                obtain ⟨o0, o1', o2, o3, ol⟩ := Z.out.cells
                obtain ⟨f0, f1, f2, f3⟩ := A.out.fz
                obtain ⟨k0, k1, k2, k3⟩ := Z.out.fz
                have hag := GD.out
                have hag2 := GD.out.symm
                refine rnOne 14 rfl (by kernel_rfl) rfl (fun K hK => ?_)
                go_simp
                replace hS : Below W5.heap.size W5 ((((wxxx.setCell ⟨ga, 0, none⟩ (.int .i64 yy.st)).setCell ⟨ga, 1, none⟩ (.int .i64 yy.v)).setCell ⟨ga, 2, none⟩ (.int .i64 yy.wa)).setCell ⟨ga, 3, none⟩ (.int .i64 yy.sq)) := (((hS.setCell (p := ⟨ga, 0, none⟩) GA.out _).setCell (p := ⟨ga, 1, none⟩) GA.out _).setCell (p := ⟨ga, 2, none⟩) GA.out _).setCell (p := ⟨ga, 3, none⟩) GA.out _
                refine hK.out _ _ hS (fun _ => ?_)
                clear hK K
                try simp only [Act.put, List.setIfInBounds_toArray, List.set_cons_zero, List.set_cons_succ]
                refine rnOne 15 rfl (by kernel_rfl) rfl (fun K hK => ?_)
                go_simp
                replace hS : Below W5.heap.size W5 ((((((((wxxx.setCell ⟨ga, 0, none⟩ (.int .i64 yy.st)).setCell ⟨ga, 1, none⟩ (.int .i64 yy.v)).setCell ⟨ga, 2, none⟩ (.int .i64 yy.wa)).setCell ⟨ga, 3, none⟩ (.int .i64 yy.sq)).setCell ⟨gz, 0, none⟩ (.int .i64 yy.st)).setCell ⟨gz, 1, none⟩ (.int .i64 yy.v)).setCell ⟨gz, 2, none⟩ (.int .i64 yy.wa)).setCell ⟨gz, 3, none⟩ (.int .i64 yy.sq)) := (((hS.setCell (p := ⟨gz, 0, none⟩) GZ.out _).setCell (p := ⟨gz, 1, none⟩) GZ.out _).setCell (p := ⟨gz, 2, none⟩) GZ.out _).setCell (p := ⟨gz, 3, none⟩) GZ.out _
                refine hK.out _ _ hS (fun _ => ?_)
                clear hK K
                try simp only [Act.put, List.setIfInBounds_toArray, List.set_cons_zero, List.set_cons_succ]
                refine tkYes 16 (v := ?_) rfl (by kernel_rfl) (fun _ _ _ h => h) rfl ?_ hS ?_
                rotate_left
                · intro W hW; go_simp; (try with_reducible rfl)
                simp only [Act.put, List.setIfInBounds_toArray, List.set_cons_zero, List.set_cons_succ]
                refine wpAnyH_done (by kernel_rfl) ?_ _
                have A1 : SuAt 28 ((((wxxx.setCell ⟨ga, 0, none⟩ (.int .i64 yy.st)).setCell ⟨ga, 1, none⟩ (.int .i64 yy.v)).setCell ⟨ga, 2, none⟩ (.int .i64 yy.wa)).setCell ⟨ga, 3, none⟩ (.int .i64 yy.sq)) ga yy := (((A.out.set0 yy.st).set1 yy.v).set2 yy.wa).set3 yy.sq
                have Z1 : SuAt 23 ((((wxxx.setCell ⟨ga, 0, none⟩ (.int .i64 yy.st)).setCell ⟨ga, 1, none⟩ (.int .i64 yy.v)).setCell ⟨ga, 2, none⟩ (.int .i64 yy.wa)).setCell ⟨ga, 3, none⟩ (.int .i64 yy.sq)) gz Su.zero := set_apart (set_apart (set_apart (set_apart Z.out GD.out 0 _) GD.out 1 _) GD.out 2 _) GD.out 3 _
                have A2 : Hid (SuAt 28 ((((((((wxxx.setCell ⟨ga, 0, none⟩ (.int .i64 yy.st)).setCell ⟨ga, 1, none⟩ (.int .i64 yy.v)).setCell ⟨ga, 2, none⟩ (.int .i64 yy.wa)).setCell ⟨ga, 3, none⟩ (.int .i64 yy.sq)).setCell ⟨gz, 0, none⟩ (.int .i64 yy.st)).setCell ⟨gz, 1, none⟩ (.int .i64 yy.v)).setCell ⟨gz, 2, none⟩ (.int .i64 yy.wa)).setCell ⟨gz, 3, none⟩ (.int .i64 yy.sq)) ga yy) := set_apart (set_apart (set_apart (set_apart A1 GD.out.symm 0 _) GD.out.symm 1 _) GD.out.symm 2 _) GD.out.symm 3 _
                have Z2 : Hid (SuAt 23 ((((((((wxxx.setCell ⟨ga, 0, none⟩ (.int .i64 yy.st)).setCell ⟨ga, 1, none⟩ (.int .i64 yy.v)).setCell ⟨ga, 2, none⟩ (.int .i64 yy.wa)).setCell ⟨ga, 3, none⟩ (.int .i64 yy.sq)).setCell ⟨gz, 0, none⟩ (.int .i64 yy.st)).setCell ⟨gz, 1, none⟩ (.int .i64 yy.v)).setCell ⟨gz, 2, none⟩ (.int .i64 yy.wa)).setCell ⟨gz, 3, none⟩ (.int .i64 yy.sq)) gz yy) := (((Z1.set0 yy.st).set1 yy.v).set2 yy.wa).set3 yy.sq
                have H6 := Lib.hid hS
                clear hS A1 Z1 A Z d0 d1 d2 d3 dl o0 o1' o2 o3 ol f0 f1 f2 f3 k0 k1 k2 k3 hag hag2
                generalize ((((((((wxxx.setCell ⟨ga, 0, none⟩ (.int .i64 yy.st)).setCell ⟨ga, 1, none⟩ (.int .i64 yy.v)).setCell ⟨ga, 2, none⟩ (.int .i64 yy.wa)).setCell ⟨ga, 3, none⟩ (.int .i64 yy.sq)).setCell ⟨gz, 0, none⟩ (.int .i64 yy.st)).setCell ⟨gz, 1, none⟩ (.int .i64 yy.v)).setCell ⟨gz, 2, none⟩ (.int .i64 yy.wa)).setCell ⟨gz, 3, none⟩ (.int .i64 yy.sq)) = W6 at *
                go_wp2_with fail
                go_meet
                case rel => exact ⟨ga, gz, rfl, rfl, rfl, A2.out, Z2.out, GZ, H6.out⟩
              · skip
                go_simp
                have hb := (Below.refl wx.heap.size wx).alloc (Nat.le_refl _) (.cells #[.int .i64 0, .int .i64 0, .int .i64 0, .int .i64 0] 28)
                have A : Hid (SuAt 28 (wx.alloc (.cells #[.int .i64 0, .int .i64 0, .int .i64 0, .int .i64 0] 28)) wx.heap.size Su.zero) := SuAt.new 28 wx Su.zero
                have QL := Lib.hid hS.size
                have QZ := Lib.hid Z.out.cells.2.2.2.2
                obtain ⟨ga, hga⟩ : ∃ g, g = wx.heap.size := ⟨_, rfl⟩
                rw [← hga] at A ⊢
                have Gga : Hid (W5.heap.size ≤ ga ∧ gz < ga) := by have h1 := QL.out; have h13 := QZ.out; show _ ∧ _; omega
                replace hS := hS.trans (hb.mono hS.size)
                replace Z := Lib.hid (Z.out.on hb)
                clear hb hga QL QZ
                generalize wx.alloc (.cells #[.int .i64 0, .int .i64 0, .int .i64 0, .int .i64 0] 28) = wxx at *
                refine hK.out _ _ hS (fun _ => ?_)
                clear hK K
                try simp only [Act.put, List.setIfInBounds_toArray, List.set_cons_zero, List.set_cons_succ]
                refine rnOne 7 rfl (by kernel_rfl) rfl (fun K hK => ?_)
                go_simp
                with_reducible refine (CT.out _).mono ?_
                rintro e wxxx ⟨rfl, hb⟩
                replace hS := hS.trans (hb.mono hS.size)
                replace Z := Lib.hid (Z.out.on hb)
                replace A := Lib.hid (A.out.on hb)
                clear hb
                try go_simp
                refine hK.out _ _ hS (fun _ => ?_)
                clear hK K
                try simp only [Act.put, List.setIfInBounds_toArray, List.set_cons_zero, List.set_cons_succ]
                refine tkYes 8 (v := ?_) rfl (by kernel_rfl) (fun _ _ _ h => h) rfl ?_ hS ?_
                rotate_left
                · intro W hW; go_simp; (try with_reducible rfl)
                simp only [Act.put, List.setIfInBounds_toArray, List.set_cons_zero, List.set_cons_succ]
                refine tkYes 9 (v := ?_) rfl (by kernel_rfl) (fun _ _ _ h => h) rfl ?_ hS ?_
                rotate_left
                · intro W hW; go_simp; (try with_reducible rfl)
                simp only [Act.put, List.setIfInBounds_toArray, List.set_cons_zero, List.set_cons_succ]
                refine tkYes 10 (v := ?_) rfl (by kernel_rfl) (fun _ _ _ h => h) rfl ?_ hS ?_
                rotate_left
                · intro W hW; go_simp; (try with_reducible rfl)
                simp only [Act.put, List.setIfInBounds_toArray, List.set_cons_zero, List.set_cons_succ]
                refine tkYes 11 (v := ?_) rfl (by kernel_rfl) (fun _ _ _ h => h) rfl ?_ hS ?_
                rotate_left
                · intro W hW; go_simp; (try with_reducible rfl)
                simp only [Act.put, List.setIfInBounds_toArray, List.set_cons_zero, List.set_cons_succ]
                have GD : Hid (ga ≠ gz) := by have h := Gga.out.2; show _ ≠ _; omega
                have GA : Hid (W5.heap.size ≤ ga) := Gga.out.1
                have GZ : Hid (W5.heap.size ≤ gz) := Ggz.out
                obtain ⟨d0, d1, d2, d3, dl⟩ := A.out.cells
                obtain ⟨o0, o1', o2, o3, ol⟩ := Z.out.cells
                obtain ⟨f0, f1, f2, f3⟩ := A.out.fz
                obtain ⟨k0, k1, k2, k3⟩ := Z.out.fz
                have hag := GD.out
                have hag2 := GD.out.symm
                refine rnOne 14 rfl (by kernel_rfl) rfl (fun K hK => ?_)
                go_simp
                replace hS : Below W5.heap.size W5 ((((wxxx.setCell ⟨ga, 0, none⟩ (.int .i64 yy.st)).setCell ⟨ga, 1, none⟩ (.int .i64 yy.v)).setCell ⟨ga, 2, none⟩ (.int .i64 yy.wa)).setCell ⟨ga, 3, none⟩ (.int .i64 yy.sq)) := (((hS.setCell (p := ⟨ga, 0, none⟩) GA.out _).setCell (p := ⟨ga, 1, none⟩) GA.out _).setCell (p := ⟨ga, 2, none⟩) GA.out _).setCell (p := ⟨ga, 3, none⟩) GA.out _
                refine hK.out _ _ hS (fun _ => ?_)
                clear hK K
                try simp only [Act.put, List.setIfInBounds_toArray, List.set_cons_zero, List.set_cons_succ]
                refine rnOne 15 rfl (by kernel_rfl) rfl (fun K hK => ?_)
                go_simp
                replace hS : Below W5.heap.size W5 ((((((((wxxx.setCell ⟨ga, 0, none⟩ (.int .i64 yy.st)).setCell ⟨ga, 1, none⟩ (.int .i64 yy.v)).setCell ⟨ga, 2, none⟩ (.int .i64 yy.wa)).setCell ⟨ga, 3, none⟩ (.int .i64 yy.sq)).setCell ⟨gz, 0, none⟩ (.int .i64 yy.st)).setCell ⟨gz, 1, none⟩ (.int .i64 yy.v)).setCell ⟨gz, 2, none⟩ (.int .i64 yy.wa)).setCell ⟨gz, 3, none⟩ (.int .i64 yy.sq)) := (((hS.setCell (p := ⟨gz, 0, none⟩) GZ.out _).setCell (p := ⟨gz, 1, none⟩) GZ.out _).setCell (p := ⟨gz, 2, none⟩) GZ.out _).setCell (p := ⟨gz, 3, none⟩) GZ.out _
                refine hK.out _ _ hS (fun _ => ?_)
                clear hK K
                try simp only [Act.put, List.setIfInBounds_toArray, List.set_cons_zero, List.set_cons_succ]
                refine tkYes 16 (v := ?_) rfl (by kernel_rfl) (fun _ _ _ h => h) rfl ?_ hS ?_
                rotate_left
                · intro W hW; go_simp; (try with_reducible rfl)
                simp only [Act.put, List.setIfInBounds_toArray, List.set_cons_zero, List.set_cons_succ]
                refine wpAnyH_done (by kernel_rfl) ?_ _
                have A1 : SuAt 28 ((((wxxx.setCell ⟨ga, 0, none⟩ (.int .i64 yy.st)).setCell ⟨ga, 1, none⟩ (.int .i64 yy.v)).setCell ⟨ga, 2, none⟩ (.int .i64 yy.wa)).setCell ⟨ga, 3, none⟩ (.int .i64 yy.sq)) ga yy := (((A.out.set0 yy.st).set1 yy.v).set2 yy.wa).set3 yy.sq
                have Z1 : SuAt 23 ((((wxxx.setCell ⟨ga, 0, none⟩ (.int .i64 yy.st)).setCell ⟨ga, 1, none⟩ (.int .i64 yy.v)).setCell ⟨ga, 2, none⟩ (.int .i64 yy.wa)).setCell ⟨ga, 3, none⟩ (.int .i64 yy.sq)) gz Su.zero := set_apart (set_apart (set_apart (set_apart Z.out GD.out 0 _) GD.out 1 _) GD.out 2 _) GD.out 3 _
                have A2 : Hid (SuAt 28 ((((((((wxxx.setCell ⟨ga, 0, none⟩ (.int .i64 yy.st)).setCell ⟨ga, 1, none⟩ (.int .i64 yy.v)).setCell ⟨ga, 2, none⟩ (.int .i64 yy.wa)).setCell ⟨ga, 3, none⟩ (.int .i64 yy.sq)).setCell ⟨gz, 0, none⟩ (.int .i64 yy.st)).setCell ⟨gz, 1, none⟩ (.int .i64 yy.v)).setCell ⟨gz, 2, none⟩ (.int .i64 yy.wa)).setCell ⟨gz, 3, none⟩ (.int .i64 yy.sq)) ga yy) := set_apart (set_apart (set_apart (set_apart A1 GD.out.symm 0 _) GD.out.symm 1 _) GD.out.symm 2 _) GD.out.symm 3 _
                have Z2 : Hid (SuAt 23 ((((((((wxxx.setCell ⟨ga, 0, none⟩ (.int .i64 yy.st)).setCell ⟨ga, 1, none⟩ (.int .i64 yy.v)).setCell ⟨ga, 2, none⟩ (.int .i64 yy.wa)).setCell ⟨ga, 3, none⟩ (.int .i64 yy.sq)).setCell ⟨gz, 0, none⟩ (.int .i64 yy.st)).setCell ⟨gz, 1, none⟩ (.int .i64 yy.v)).setCell ⟨gz, 2, none⟩ (.int .i64 yy.wa)).setCell ⟨gz, 3, none⟩ (.int .i64 yy.sq)) gz yy) := (((Z1.set0 yy.st).set1 yy.v).set2 yy.wa).set3 yy.sq
                have H6 := Lib.hid hS
                clear hS A1 Z1 A Z d0 d1 d2 d3 dl o0 o1' o2 o3 ol f0 f1 f2 f3 k0 k1 k2 k3 hag hag2
                generalize ((((((((wxxx.setCell ⟨ga, 0, none⟩ (.int .i64 yy.st)).setCell ⟨ga, 1, none⟩ (.int .i64 yy.v)).setCell ⟨ga, 2, none⟩ (.int .i64 yy.wa)).setCell ⟨ga, 3, none⟩ (.int .i64 yy.sq)).setCell ⟨gz, 0, none⟩ (.int .i64 yy.st)).setCell ⟨gz, 1, none⟩ (.int .i64 yy.v)).setCell ⟨gz, 2, none⟩ (.int .i64 yy.wa)).setCell ⟨gz, 3, none⟩ (.int .i64 yy.sq)) = W6 at *
                go_wp2_with fail
                go_meet
                case rel => exact ⟨ga, gz, rfl, rfl, rfl, A2.out, Z2.out, GZ, H6.out⟩
          case rest =>
            obtain ⟨ga, gz, rfl, rfl, rfl, a2, z2, GZ, h6⟩ := hcut
            have A2 := Lib.hid a2
            have Z2 := Lib.hid z2
            have H6 := Lib.hid h6
            clear a2 z2 h6
            replace X := Lib.hid (X.out.on H6.out)
            replace R := Lib.hid (R.out.on H6.out)
            replace B := Lib.hid (B.out.trans (H6.out.mono B.out.size))
            clear H6 N HKD CT
            obtain ⟨d0, d1, d2, d3, dl⟩ := A2.out.cells
            obtain ⟨o0, o1', o2', o3, ol⟩ := Z2.out.cells
            have NE := fun W => slot_neq (a := yy) (b := yy) (x := false) (by simp) W
            have CR := Lib.hid (fun W => sdright_is (s := yy) (b := true) (by simp [RYY.out]) W)
            unfold suV suC at NE CR
            go_upto_region 14 with (go_at_call 10; (with_reducible refine (CR.out _).mono ?_); rintro e w9 ⟨rfl, hb⟩; replace X := Lib.hid (X.out.on hb); replace R := Lib.hid (R.out.on hb); replace A2 := Lib.hid (A2.out.on hb); replace Z2 := Lib.hid (Z2.out.on hb); replace B := Lib.hid (B.out.trans (hb.mono B.out.size)); clear hb d0 d1 d2 d3 dl o0 o1' o2' o3 ol NE CR)
            obtain ⟨d0, d1, d2, d3, dl⟩ := A2.out.cells
            obtain ⟨o0, o1', o2', o3, ol⟩ := Z2.out.cells
            obtain ⟨x0, x1, x2, x3, xl⟩ := X.out.cells
            obtain ⟨r0, r1, r2, r3, rl⟩ := R.out.cells
            obtain ⟨f0, f1, f2, f3⟩ := X.out.fz
            obtain ⟨k0, k1, k2, k3⟩ := R.out.fz
            have hxr : gx ≠ gr := by have := GX.out; omega
            have hxz : gx ≠ gz := by have h1 := GZ; have h2 := XL5.out; omega
            have X1 : SuAt 28 ((((w9.setCell ⟨gx, 0, none⟩ (.int .i64 yy.st)).setCell ⟨gx, 1, none⟩ (.int .i64 yy.v)).setCell ⟨gx, 2, none⟩ (.int .i64 yy.wa)).setCell ⟨gx, 3, none⟩ (.int .i64 yy.sq)) gx yy := (((X.out.set0 yy.st).set1 yy.v).set2 yy.wa).set3 yy.sq
            have X2 : Hid (SuAt 28 ((((((((w9.setCell ⟨gx, 0, none⟩ (.int .i64 yy.st)).setCell ⟨gx, 1, none⟩ (.int .i64 yy.v)).setCell ⟨gx, 2, none⟩ (.int .i64 yy.wa)).setCell ⟨gx, 3, none⟩ (.int .i64 yy.sq)).setCell ⟨gr, 0, none⟩ (.int .i64 yy.st)).setCell ⟨gr, 1, none⟩ (.int .i64 yy.v)).setCell ⟨gr, 2, none⟩ (.int .i64 yy.wa)).setCell ⟨gr, 3, none⟩ (.int .i64 yy.sq)) gx yy) := (set_apart (q := gr) (set_apart (q := gr) (set_apart (q := gr) (set_apart (q := gr) X1 (by have := GN.out; have := GX.out; omega) 0 _) (by have := GN.out; have := GX.out; omega) 1 _) (by have := GN.out; have := GX.out; omega) 2 _) (by have := GN.out; have := GX.out; omega) 3 _)
            have R1 : SuAt 23 ((((w9.setCell ⟨gx, 0, none⟩ (.int .i64 yy.st)).setCell ⟨gx, 1, none⟩ (.int .i64 yy.v)).setCell ⟨gx, 2, none⟩ (.int .i64 yy.wa)).setCell ⟨gx, 3, none⟩ (.int .i64 yy.sq)) gr Su.zero ∨ True := .inr trivial
            have R2 : Hid (SuAt 23 ((((((((w9.setCell ⟨gx, 0, none⟩ (.int .i64 yy.st)).setCell ⟨gx, 1, none⟩ (.int .i64 yy.v)).setCell ⟨gx, 2, none⟩ (.int .i64 yy.wa)).setCell ⟨gx, 3, none⟩ (.int .i64 yy.sq)).setCell ⟨gr, 0, none⟩ (.int .i64 yy.st)).setCell ⟨gr, 1, none⟩ (.int .i64 yy.v)).setCell ⟨gr, 2, none⟩ (.int .i64 yy.wa)).setCell ⟨gr, 3, none⟩ (.int .i64 yy.sq)) gr yy) := ((((set_apart (q := gx) (set_apart (q := gx) (set_apart (q := gx) (set_apart (q := gx) R.out (by have := GN.out; have := GX.out; omega) 0 _) (by have := GN.out; have := GX.out; omega) 1 _) (by have := GN.out; have := GX.out; omega) 2 _) (by have := GN.out; have := GX.out; omega) 3 _).set0 yy.st).set1 yy.v).set2 yy.wa).set3 yy.sq
            have B2 : Hid (Below W.heap.size W ((((((((w9.setCell ⟨gx, 0, none⟩ (.int .i64 yy.st)).setCell ⟨gx, 1, none⟩ (.int .i64 yy.v)).setCell ⟨gx, 2, none⟩ (.int .i64 yy.wa)).setCell ⟨gx, 3, none⟩ (.int .i64 yy.sq)).setCell ⟨gr, 0, none⟩ (.int .i64 yy.st)).setCell ⟨gr, 1, none⟩ (.int .i64 yy.v)).setCell ⟨gr, 2, none⟩ (.int .i64 yy.wa)).setCell ⟨gr, 3, none⟩ (.int .i64 yy.sq))) := ((((((((B.out.setCell (p := ⟨gx, 0, none⟩) (by have := GR.out; have := GX.out; show _ ≤ gx; omega) _).setCell (p := ⟨gx, 1, none⟩) (by have := GR.out; have := GX.out; show _ ≤ gx; omega) _).setCell (p := ⟨gx, 2, none⟩) (by have := GR.out; have := GX.out; show _ ≤ gx; omega) _).setCell (p := ⟨gx, 3, none⟩) (by have := GR.out; have := GX.out; show _ ≤ gx; omega) _).setCell (p := ⟨gr, 0, none⟩) GR.out _).setCell (p := ⟨gr, 1, none⟩) GR.out _).setCell (p := ⟨gr, 2, none⟩) GR.out _).setCell (p := ⟨gr, 3, none⟩) GR.out _)
            clear X1 R1
            go_wp2_with fail
            exact ⟨⟨j + 1, yy, by go_num, by omega, by omega, R2.out, X2.out, RYY.out, B2.out⟩, by simp [intOf]; omega⟩
        · skip
          go_upto_region 11 with fail
          clear e0 e1 f0 f1 el
          obtain ⟨pa, hpa⟩ : ∃ p : Int, p = 0 := ⟨_, rfl⟩
          obtain ⟨pb, hpb⟩ : ∃ p : Int, p = 0 := ⟨_, rfl⟩
          replace N : Hid (w3.heap[gn]? = some (.cells #[.int .i64 pa, .int .i64 pb] 29 (0, 0))) := by rw [hpa, hpb]; exact N.out
          clear hpa hpb
          generalize w3 = W5 at *
          obtain ⟨yy, hyy, ct⟩ := sustep_any y RY.out kd pa pb
          have CT := Lib.hid ct
          have RYY := Lib.hid hyy
          clear hyy ct
          unfold suV suC at CT
          have hj1 : (j : Int) < n1 := by omega
          have XL5 := Lib.hid X.out.cells.2.2.2.2
          go_cut [11, 12, 13] (fun s11 s12 s13 wx => ∃ ga gz, s11 = .pointer (some ⟨ga, 0, none⟩) ∧ s12 = .pointer (some ⟨gz, 0, none⟩) ∧ s13 = .bool true ∧ SuAt 28 wx ga yy ∧ SuAt 23 wx gz yy ∧ W5.heap.size ≤ gz ∧ Below W5.heap.size W5 wx)
          case first =>
            refine wp_region_held_drew (S := fun V => Below W5.heap.size W5 V) (by kernel_rfl) (Below.refl W5.heap.size W5).drew (fun hS => ?_)
            refine tkYes 0 (v := ?_) rfl (by kernel_rfl) (fun _ _ _ h => h) rfl ?_ hS ?_
            rotate_left
            · intro W hW; obtain ⟨c0, c1, c2, c3, cl⟩ := (X.out.on hW).cells; go_simp; (try with_reducible rfl)
            simp only [Act.put, List.setIfInBounds_toArray, List.set_cons_zero, List.set_cons_succ]
            refine tkYes 1 (v := ?_) rfl (by kernel_rfl) (fun _ _ _ h => h) rfl ?_ hS ?_
            rotate_left
            · intro W hW; obtain ⟨c0, c1, c2, c3, cl⟩ := (R.out.on hW).cells; go_simp; (try with_reducible rfl)
            simp only [Act.put, List.setIfInBounds_toArray, List.set_cons_zero, List.set_cons_succ]
            refine tkYes 2 (v := ?_) rfl (by kernel_rfl) (fun _ _ _ h => h) rfl ?_ hS ?_
            rotate_left
            · intro W hW; go_simp; (try with_reducible rfl)
            simp only [Act.put, List.setIfInBounds_toArray, List.set_cons_zero, List.set_cons_succ]
            refine tkYes 3 (v := ?_) rfl (by kernel_rfl) (fun _ _ _ h => h) rfl ?_ hS ?_
            rotate_left
            · intro W hW; go_simp; (try with_reducible rfl)
            simp only [Act.put, List.setIfInBounds_toArray, List.set_cons_zero, List.set_cons_succ]
            refine tkYes 4 (v := ?_) rfl (by kernel_rfl) (fun _ _ _ h => h) rfl ?_ hS ?_
            rotate_left
            · intro W hW; go_simp; (try with_reducible rfl)
            simp only [Act.put, List.setIfInBounds_toArray, List.set_cons_zero, List.set_cons_succ]
            refine tkYes 5 (v := ?_) rfl (by kernel_rfl) (fun _ _ _ h => h) rfl ?_ hS ?_
            rotate_left
            · intro W hW; have c0 := (hW.cell (p := ⟨b1, o1 + j, none⟩) (by have := GN.out.2.2.2; have := (Array.getElem?_eq_some_iff.1 N.out).1; show b1 < _; omega)).trans HKD.out; go_simp; (try with_reducible rfl)
            simp only [Act.put, List.setIfInBounds_toArray, List.set_cons_zero, List.set_cons_succ]
            refine tkYes 6 (v := ?_) rfl (by kernel_rfl) (fun _ _ _ h => h) rfl ?_ hS ?_
            rotate_left
            · intro W hW; have nn := (hW.block gn (Array.getElem?_eq_some_iff.1 N.out).1).trans N.out; have c0 : W.cell? ⟨gn, 0, none⟩ = some (.int .i64 pa) := (by rw [cell_of_row W gn 0 _ _ _ nn]; rfl); have c1 : W.cell? ⟨gn, 1, none⟩ = some (.int .i64 pb) := (by rw [cell_of_row W gn 1 _ _ _ nn]; rfl); go_simp; (try with_reducible rfl)
            simp only [Act.put, List.setIfInBounds_toArray, List.set_cons_zero, List.set_cons_succ]
            obtain ⟨w, hw0⟩ : ∃ w, w = W5.drew := ⟨_, rfl⟩
            rw [← hw0] at hS ⊢
            clear hw0
            refine rnThree 7 12 13 rfl rfl rfl (by kernel_rfl) rfl rfl rfl (fun K hK => ?_) (fun K hK => ?_) (fun K hK => ?_)
            · skip
              go_simp
              with_reducible refine (CT.out _).mono ?_
              rintro e wx ⟨rfl, hb⟩
              replace hS := hS.trans (hb.mono hS.size)
              clear hb
              try go_simp
              refine hK.out _ _ hS (fun _ => ?_)
              clear hK K
              try simp only [Act.put, List.setIfInBounds_toArray, List.set_cons_zero, List.set_cons_succ]
              refine tkYes 8 (v := ?_) rfl (by kernel_rfl) (fun _ _ _ h => h) rfl ?_ hS ?_
              rotate_left
              · intro W hW; go_simp; (try with_reducible rfl)
              simp only [Act.put, List.setIfInBounds_toArray, List.set_cons_zero, List.set_cons_succ]
              refine tkYes 9 (v := ?_) rfl (by kernel_rfl) (fun _ _ _ h => h) rfl ?_ hS ?_
              rotate_left
              · intro W hW; go_simp; (try with_reducible rfl)
              simp only [Act.put, List.setIfInBounds_toArray, List.set_cons_zero, List.set_cons_succ]
              refine tkYes 10 (v := ?_) rfl (by kernel_rfl) (fun _ _ _ h => h) rfl ?_ hS ?_
              rotate_left
              · intro W hW; go_simp; (try with_reducible rfl)
              simp only [Act.put, List.setIfInBounds_toArray, List.set_cons_zero, List.set_cons_succ]
              refine tkYes 11 (v := ?_) rfl (by kernel_rfl) (fun _ _ _ h => h) rfl ?_ hS ?_
              rotate_left
              · intro W hW; go_simp; (try with_reducible rfl)
              simp only [Act.put, List.setIfInBounds_toArray, List.set_cons_zero, List.set_cons_succ]
              refine rnTwo 12 13 rfl rfl (by kernel_rfl) rfl rfl (fun K hK => ?_) (fun K hK => ?_)
              · skip
                go_simp
                have hb := (Below.refl wx.heap.size wx).alloc (Nat.le_refl _) (.cells #[.int .i64 0, .int .i64 0, .int .i64 0, .int .i64 0] 28)
                have A : Hid (SuAt 28 (wx.alloc (.cells #[.int .i64 0, .int .i64 0, .int .i64 0, .int .i64 0] 28)) wx.heap.size Su.zero) := SuAt.new 28 wx Su.zero
                have QL := Lib.hid hS.size
                obtain ⟨ga, hga⟩ : ∃ g, g = wx.heap.size := ⟨_, rfl⟩
                rw [← hga] at A ⊢
                have Gga : Hid (W5.heap.size ≤ ga) := by have h1 := QL.out; show _ ≤ _; omega
                replace hS := hS.trans (hb.mono hS.size)
                clear hb hga QL 
                generalize wx.alloc (.cells #[.int .i64 0, .int .i64 0, .int .i64 0, .int .i64 0] 28) = wxx at *
                refine hK.out _ _ hS (fun _ => ?_)
                clear hK K
                try simp only [Act.put, List.setIfInBounds_toArray, List.set_cons_zero, List.set_cons_succ]
                refine rnOne 13 rfl (by kernel_rfl) rfl (fun K hK => ?_)
                go_simp
                have hb := (Below.refl wxx.heap.size wxx).alloc (Nat.le_refl _) (.cells #[.int .i64 0, .int .i64 0, .int .i64 0, .int .i64 0] 23)
                have Z : Hid (SuAt 23 (wxx.alloc (.cells #[.int .i64 0, .int .i64 0, .int .i64 0, .int .i64 0] 23)) wxx.heap.size Su.zero) := SuAt.new 23 wxx Su.zero
                have QL := Lib.hid hS.size
                have QA := Lib.hid A.out.cells.2.2.2.2
                obtain ⟨gz, hgz⟩ : ∃ g, g = wxx.heap.size := ⟨_, rfl⟩
                rw [← hgz] at Z ⊢
                have Ggz : Hid (W5.heap.size ≤ gz ∧ ga < gz) := by have h1 := QL.out; have h12 := QA.out; show _ ∧ _; omega
                replace hS := hS.trans (hb.mono hS.size)
                replace A := Lib.hid (A.out.on hb)
                clear hb hgz QL QA
                generalize wxx.alloc (.cells #[.int .i64 0, .int .i64 0, .int .i64 0, .int .i64 0] 23) = wxxx at *
                refine hK.out _ _ hS (fun _ => ?_)
                clear hK K
                try simp only [Act.put, List.setIfInBounds_toArray, List.set_cons_zero, List.set_cons_succ]
                have GD : Hid (ga ≠ gz) := by have h := Ggz.out.2; show _ ≠ _; omega
                have GA : Hid (W5.heap.size ≤ ga) := Gga.out
                have GZ : Hid (W5.heap.size ≤ gz) := Ggz.out.1
                obtain ⟨d0, d1, d2, d3, dl⟩ := A.out.cells
                obtain ⟨o0, o1', o2, o3, ol⟩ := Z.out.cells
                obtain ⟨f0, f1, f2, f3⟩ := A.out.fz
                obtain ⟨k0, k1, k2, k3⟩ := Z.out.fz
                have hag := GD.out
                have hag2 := GD.out.symm
                refine rnOne 14 rfl (by kernel_rfl) rfl (fun K hK => ?_)
                go_simp
                replace hS : Below W5.heap.size W5 ((((wxxx.setCell ⟨ga, 0, none⟩ (.int .i64 yy.st)).setCell ⟨ga, 1, none⟩ (.int .i64 yy.v)).setCell ⟨ga, 2, none⟩ (.int .i64 yy.wa)).setCell ⟨ga, 3, none⟩ (.int .i64 yy.sq)) := (((hS.setCell (p := ⟨ga, 0, none⟩) GA.out _).setCell (p := ⟨ga, 1, none⟩) GA.out _).setCell (p := ⟨ga, 2, none⟩) GA.out _).setCell (p := ⟨ga, 3, none⟩) GA.out _
                refine hK.out _ _ hS (fun _ => ?_)
                clear hK K
                try simp only [Act.put, List.setIfInBounds_toArray, List.set_cons_zero, List.set_cons_succ]
                refine rnOne 15 rfl (by kernel_rfl) rfl (fun K hK => ?_)
                go_simp
                replace hS : Below W5.heap.size W5 ((((((((wxxx.setCell ⟨ga, 0, none⟩ (.int .i64 yy.st)).setCell ⟨ga, 1, none⟩ (.int .i64 yy.v)).setCell ⟨ga, 2, none⟩ (.int .i64 yy.wa)).setCell ⟨ga, 3, none⟩ (.int .i64 yy.sq)).setCell ⟨gz, 0, none⟩ (.int .i64 yy.st)).setCell ⟨gz, 1, none⟩ (.int .i64 yy.v)).setCell ⟨gz, 2, none⟩ (.int .i64 yy.wa)).setCell ⟨gz, 3, none⟩ (.int .i64 yy.sq)) := (((hS.setCell (p := ⟨gz, 0, none⟩) GZ.out _).setCell (p := ⟨gz, 1, none⟩) GZ.out _).setCell (p := ⟨gz, 2, none⟩) GZ.out _).setCell (p := ⟨gz, 3, none⟩) GZ.out _
                refine hK.out _ _ hS (fun _ => ?_)
                clear hK K
                try simp only [Act.put, List.setIfInBounds_toArray, List.set_cons_zero, List.set_cons_succ]
                refine tkYes 16 (v := ?_) rfl (by kernel_rfl) (fun _ _ _ h => h) rfl ?_ hS ?_
                rotate_left
                · intro W hW; go_simp; (try with_reducible rfl)
                simp only [Act.put, List.setIfInBounds_toArray, List.set_cons_zero, List.set_cons_succ]
                refine wpAnyH_done (by kernel_rfl) ?_ _
                have A1 : SuAt 28 ((((wxxx.setCell ⟨ga, 0, none⟩ (.int .i64 yy.st)).setCell ⟨ga, 1, none⟩ (.int .i64 yy.v)).setCell ⟨ga, 2, none⟩ (.int .i64 yy.wa)).setCell ⟨ga, 3, none⟩ (.int .i64 yy.sq)) ga yy := (((A.out.set0 yy.st).set1 yy.v).set2 yy.wa).set3 yy.sq
                have Z1 : SuAt 23 ((((wxxx.setCell ⟨ga, 0, none⟩ (.int .i64 yy.st)).setCell ⟨ga, 1, none⟩ (.int .i64 yy.v)).setCell ⟨ga, 2, none⟩ (.int .i64 yy.wa)).setCell ⟨ga, 3, none⟩ (.int .i64 yy.sq)) gz Su.zero := set_apart (set_apart (set_apart (set_apart Z.out GD.out 0 _) GD.out 1 _) GD.out 2 _) GD.out 3 _
                have A2 : Hid (SuAt 28 ((((((((wxxx.setCell ⟨ga, 0, none⟩ (.int .i64 yy.st)).setCell ⟨ga, 1, none⟩ (.int .i64 yy.v)).setCell ⟨ga, 2, none⟩ (.int .i64 yy.wa)).setCell ⟨ga, 3, none⟩ (.int .i64 yy.sq)).setCell ⟨gz, 0, none⟩ (.int .i64 yy.st)).setCell ⟨gz, 1, none⟩ (.int .i64 yy.v)).setCell ⟨gz, 2, none⟩ (.int .i64 yy.wa)).setCell ⟨gz, 3, none⟩ (.int .i64 yy.sq)) ga yy) := set_apart (set_apart (set_apart (set_apart A1 GD.out.symm 0 _) GD.out.symm 1 _) GD.out.symm 2 _) GD.out.symm 3 _
                have Z2 : Hid (SuAt 23 ((((((((wxxx.setCell ⟨ga, 0, none⟩ (.int .i64 yy.st)).setCell ⟨ga, 1, none⟩ (.int .i64 yy.v)).setCell ⟨ga, 2, none⟩ (.int .i64 yy.wa)).setCell ⟨ga, 3, none⟩ (.int .i64 yy.sq)).setCell ⟨gz, 0, none⟩ (.int .i64 yy.st)).setCell ⟨gz, 1, none⟩ (.int .i64 yy.v)).setCell ⟨gz, 2, none⟩ (.int .i64 yy.wa)).setCell ⟨gz, 3, none⟩ (.int .i64 yy.sq)) gz yy) := (((Z1.set0 yy.st).set1 yy.v).set2 yy.wa).set3 yy.sq
                have H6 := Lib.hid hS
                clear hS A1 Z1 A Z d0 d1 d2 d3 dl o0 o1' o2 o3 ol f0 f1 f2 f3 k0 k1 k2 k3 hag hag2
                generalize ((((((((wxxx.setCell ⟨ga, 0, none⟩ (.int .i64 yy.st)).setCell ⟨ga, 1, none⟩ (.int .i64 yy.v)).setCell ⟨ga, 2, none⟩ (.int .i64 yy.wa)).setCell ⟨ga, 3, none⟩ (.int .i64 yy.sq)).setCell ⟨gz, 0, none⟩ (.int .i64 yy.st)).setCell ⟨gz, 1, none⟩ (.int .i64 yy.v)).setCell ⟨gz, 2, none⟩ (.int .i64 yy.wa)).setCell ⟨gz, 3, none⟩ (.int .i64 yy.sq)) = W6 at *
                go_wp2_with fail
                go_meet
                case rel => exact ⟨ga, gz, rfl, rfl, rfl, A2.out, Z2.out, GZ, H6.out⟩
              · skip
                go_simp
                have hb := (Below.refl wx.heap.size wx).alloc (Nat.le_refl _) (.cells #[.int .i64 0, .int .i64 0, .int .i64 0, .int .i64 0] 23)
                have Z : Hid (SuAt 23 (wx.alloc (.cells #[.int .i64 0, .int .i64 0, .int .i64 0, .int .i64 0] 23)) wx.heap.size Su.zero) := SuAt.new 23 wx Su.zero
                have QL := Lib.hid hS.size
                obtain ⟨gz, hgz⟩ : ∃ g, g = wx.heap.size := ⟨_, rfl⟩
                rw [← hgz] at Z ⊢
                have Ggz : Hid (W5.heap.size ≤ gz) := by have h1 := QL.out; show _ ≤ _; omega
                replace hS := hS.trans (hb.mono hS.size)
                clear hb hgz QL 
                generalize wx.alloc (.cells #[.int .i64 0, .int .i64 0, .int .i64 0, .int .i64 0] 23) = wxx at *
                refine hK.out _ _ hS (fun _ => ?_)
                clear hK K
                try simp only [Act.put, List.setIfInBounds_toArray, List.set_cons_zero, List.set_cons_succ]
                refine rnOne 12 rfl (by kernel_rfl) rfl (fun K hK => ?_)
                go_simp
                have hb := (Below.refl wxx.heap.size wxx).alloc (Nat.le_refl _) (.cells #[.int .i64 0, .int .i64 0, .int .i64 0, .int .i64 0] 28)
                have A : Hid (SuAt 28 (wxx.alloc (.cells #[.int .i64 0, .int .i64 0, .int .i64 0, .int .i64 0] 28)) wxx.heap.size Su.zero) := SuAt.new 28 wxx Su.zero
                have QL := Lib.hid hS.size
                have QZ := Lib.hid Z.out.cells.2.2.2.2
                obtain ⟨ga, hga⟩ : ∃ g, g = wxx.heap.size := ⟨_, rfl⟩
                rw [← hga] at A ⊢
                have Gga : Hid (W5.heap.size ≤ ga ∧ gz < ga) := by have h1 := QL.out; have h13 := QZ.out; show _ ∧ _; omega
                replace hS := hS.trans (hb.mono hS.size)
                replace Z := Lib.hid (Z.out.on hb)
                clear hb hga QL QZ
                generalize wxx.alloc (.cells #[.int .i64 0, .int .i64 0, .int .i64 0, .int .i64 0] 28) = wxxx at *
                refine hK.out _ _ hS (fun _ => ?_)
                clear hK K
                try simp only [Act.put, List.setIfInBounds_toArray, List.set_cons_zero, List.set_cons_succ]
                have GD : Hid (ga ≠ gz) := by have h := Gga.out.2; show _ ≠ _; omega
                have GA : Hid (W5.heap.size ≤ ga) := Gga.out.1
                have GZ : Hid (W5.heap.size ≤ gz) := Ggz.out
                obtain ⟨d0, d1, d2, d3, dl⟩ := A.out.cells
                obtain ⟨o0, o1', o2, o3, ol⟩ := Z.out.cells
                obtain ⟨f0, f1, f2, f3⟩ := A.out.fz
                obtain ⟨k0, k1, k2, k3⟩ := Z.out.fz
                have hag := GD.out
                have hag2 := GD.out.symm
                refine rnOne 14 rfl (by kernel_rfl) rfl (fun K hK => ?_)
                go_simp
                replace hS : Below W5.heap.size W5 ((((wxxx.setCell ⟨ga, 0, none⟩ (.int .i64 yy.st)).setCell ⟨ga, 1, none⟩ (.int .i64 yy.v)).setCell ⟨ga, 2, none⟩ (.int .i64 yy.wa)).setCell ⟨ga, 3, none⟩ (.int .i64 yy.sq)) := (((hS.setCell (p := ⟨ga, 0, none⟩) GA.out _).setCell (p := ⟨ga, 1, none⟩) GA.out _).setCell (p := ⟨ga, 2, none⟩) GA.out _).setCell (p := ⟨ga, 3, none⟩) GA.out _
                refine hK.out _ _ hS (fun _ => ?_)
                clear hK K
                try simp only [Act.put, List.setIfInBounds_toArray, List.set_cons_zero, List.set_cons_succ]
                refine rnOne 15 rfl (by kernel_rfl) rfl (fun K hK => ?_)
                go_simp
                replace hS : Below W5.heap.size W5 ((((((((wxxx.setCell ⟨ga, 0, none⟩ (.int .i64 yy.st)).setCell ⟨ga, 1, none⟩ (.int .i64 yy.v)).setCell ⟨ga, 2, none⟩ (.int .i64 yy.wa)).setCell ⟨ga, 3, none⟩ (.int .i64 yy.sq)).setCell ⟨gz, 0, none⟩ (.int .i64 yy.st)).setCell ⟨gz, 1, none⟩ (.int .i64 yy.v)).setCell ⟨gz, 2, none⟩ (.int .i64 yy.wa)).setCell ⟨gz, 3, none⟩ (.int .i64 yy.sq)) := (((hS.setCell (p := ⟨gz, 0, none⟩) GZ.out _).setCell (p := ⟨gz, 1, none⟩) GZ.out _).setCell (p := ⟨gz, 2, none⟩) GZ.out _).setCell (p := ⟨gz, 3, none⟩) GZ.out _
                refine hK.out _ _ hS (fun _ => ?_)
                clear hK K
                try simp only [Act.put, List.setIfInBounds_toArray, List.set_cons_zero, List.set_cons_succ]
                refine tkYes 16 (v := ?_) rfl (by kernel_rfl) (fun _ _ _ h => h) rfl ?_ hS ?_
                rotate_left
                · intro W hW; go_simp; (try with_reducible rfl)
                simp only [Act.put, List.setIfInBounds_toArray, List.set_cons_zero, List.set_cons_succ]
                refine wpAnyH_done (by kernel_rfl) ?_ _
                have A1 : SuAt 28 ((((wxxx.setCell ⟨ga, 0, none⟩ (.int .i64 yy.st)).setCell ⟨ga, 1, none⟩ (.int .i64 yy.v)).setCell ⟨ga, 2, none⟩ (.int .i64 yy.wa)).setCell ⟨ga, 3, none⟩ (.int .i64 yy.sq)) ga yy := (((A.out.set0 yy.st).set1 yy.v).set2 yy.wa).set3 yy.sq
                have Z1 : SuAt 23 ((((wxxx.setCell ⟨ga, 0, none⟩ (.int .i64 yy.st)).setCell ⟨ga, 1, none⟩ (.int .i64 yy.v)).setCell ⟨ga, 2, none⟩ (.int .i64 yy.wa)).setCell ⟨ga, 3, none⟩ (.int .i64 yy.sq)) gz Su.zero := set_apart (set_apart (set_apart (set_apart Z.out GD.out 0 _) GD.out 1 _) GD.out 2 _) GD.out 3 _
                have A2 : Hid (SuAt 28 ((((((((wxxx.setCell ⟨ga, 0, none⟩ (.int .i64 yy.st)).setCell ⟨ga, 1, none⟩ (.int .i64 yy.v)).setCell ⟨ga, 2, none⟩ (.int .i64 yy.wa)).setCell ⟨ga, 3, none⟩ (.int .i64 yy.sq)).setCell ⟨gz, 0, none⟩ (.int .i64 yy.st)).setCell ⟨gz, 1, none⟩ (.int .i64 yy.v)).setCell ⟨gz, 2, none⟩ (.int .i64 yy.wa)).setCell ⟨gz, 3, none⟩ (.int .i64 yy.sq)) ga yy) := set_apart (set_apart (set_apart (set_apart A1 GD.out.symm 0 _) GD.out.symm 1 _) GD.out.symm 2 _) GD.out.symm 3 _
                have Z2 : Hid (SuAt 23 ((((((((wxxx.setCell ⟨ga, 0, none⟩ (.int .i64 yy.st)).setCell ⟨ga, 1, none⟩ (.int .i64 yy.v)).setCell ⟨ga, 2, none⟩ (.int .i64 yy.wa)).setCell ⟨ga, 3, none⟩ (.int .i64 yy.sq)).setCell ⟨gz, 0, none⟩ (.int .i64 yy.st)).setCell ⟨gz, 1, none⟩ (.int .i64 yy.v)).setCell ⟨gz, 2, none⟩ (.int .i64 yy.wa)).setCell ⟨gz, 3, none⟩ (.int .i64 yy.sq)) gz yy) := (((Z1.set0 yy.st).set1 yy.v).set2 yy.wa).set3 yy.sq
                have H6 := Lib.hid hS
                clear hS A1 Z1 A Z d0 d1 d2 d3 dl o0 o1' o2 o3 ol f0 f1 f2 f3 k0 k1 k2 k3 hag hag2
                generalize ((((((((wxxx.setCell ⟨ga, 0, none⟩ (.int .i64 yy.st)).setCell ⟨ga, 1, none⟩ (.int .i64 yy.v)).setCell ⟨ga, 2, none⟩ (.int .i64 yy.wa)).setCell ⟨ga, 3, none⟩ (.int .i64 yy.sq)).setCell ⟨gz, 0, none⟩ (.int .i64 yy.st)).setCell ⟨gz, 1, none⟩ (.int .i64 yy.v)).setCell ⟨gz, 2, none⟩ (.int .i64 yy.wa)).setCell ⟨gz, 3, none⟩ (.int .i64 yy.sq)) = W6 at *
                go_wp2_with fail
                go_meet
                case rel => exact ⟨ga, gz, rfl, rfl, rfl, A2.out, Z2.out, GZ, H6.out⟩
            · skip
              go_simp
              have hb := (Below.refl w.heap.size w).alloc (Nat.le_refl _) (.cells #[.int .i64 0, .int .i64 0, .int .i64 0, .int .i64 0] 28)
              have A : Hid (SuAt 28 (w.alloc (.cells #[.int .i64 0, .int .i64 0, .int .i64 0, .int .i64 0] 28)) w.heap.size Su.zero) := SuAt.new 28 w Su.zero
              have QL := Lib.hid hS.size
              obtain ⟨ga, hga⟩ : ∃ g, g = w.heap.size := ⟨_, rfl⟩
              rw [← hga] at A ⊢
              have Gga : Hid (W5.heap.size ≤ ga) := by have h1 := QL.out; show _ ≤ _; omega
              replace hS := hS.trans (hb.mono hS.size)
              clear hb hga QL 
              generalize w.alloc (.cells #[.int .i64 0, .int .i64 0, .int .i64 0, .int .i64 0] 28) = wx at *
              refine hK.out _ _ hS (fun _ => ?_)
              clear hK K
              try simp only [Act.put, List.setIfInBounds_toArray, List.set_cons_zero, List.set_cons_succ]
              refine rnTwo 7 13 rfl rfl (by kernel_rfl) rfl rfl (fun K hK => ?_) (fun K hK => ?_)
              · skip
                go_simp
                with_reducible refine (CT.out _).mono ?_
                rintro e wxx ⟨rfl, hb⟩
                replace hS := hS.trans (hb.mono hS.size)
                replace A := Lib.hid (A.out.on hb)
                clear hb
                try go_simp
                refine hK.out _ _ hS (fun _ => ?_)
                clear hK K
                try simp only [Act.put, List.setIfInBounds_toArray, List.set_cons_zero, List.set_cons_succ]
                refine tkYes 8 (v := ?_) rfl (by kernel_rfl) (fun _ _ _ h => h) rfl ?_ hS ?_
                rotate_left
                · intro W hW; go_simp; (try with_reducible rfl)
                simp only [Act.put, List.setIfInBounds_toArray, List.set_cons_zero, List.set_cons_succ]
                refine tkYes 9 (v := ?_) rfl (by kernel_rfl) (fun _ _ _ h => h) rfl ?_ hS ?_
                rotate_left
                · intro W hW; go_simp; (try with_reducible rfl)
                simp only [Act.put, List.setIfInBounds_toArray, List.set_cons_zero, List.set_cons_succ]
                refine tkYes 10 (v := ?_) rfl (by kernel_rfl) (fun _ _ _ h => h) rfl ?_ hS ?_
                rotate_left
                · intro W hW; go_simp; (try with_reducible rfl)
                simp only [Act.put, List.setIfInBounds_toArray, List.set_cons_zero, List.set_cons_succ]
                refine tkYes 11 (v := ?_) rfl (by kernel_rfl) (fun _ _ _ h => h) rfl ?_ hS ?_
                rotate_left
                · intro W hW; go_simp; (try with_reducible rfl)
                simp only [Act.put, List.setIfInBounds_toArray, List.set_cons_zero, List.set_cons_succ]
                refine rnOne 13 rfl (by kernel_rfl) rfl (fun K hK => ?_)
                go_simp
                have hb := (Below.refl wxx.heap.size wxx).alloc (Nat.le_refl _) (.cells #[.int .i64 0, .int .i64 0, .int .i64 0, .int .i64 0] 23)
                have Z : Hid (SuAt 23 (wxx.alloc (.cells #[.int .i64 0, .int .i64 0, .int .i64 0, .int .i64 0] 23)) wxx.heap.size Su.zero) := SuAt.new 23 wxx Su.zero
                have QL := Lib.hid hS.size
                have QA := Lib.hid A.out.cells.2.2.2.2
                obtain ⟨gz, hgz⟩ : ∃ g, g = wxx.heap.size := ⟨_, rfl⟩
                rw [← hgz] at Z ⊢
                have Ggz : Hid (W5.heap.size ≤ gz ∧ ga < gz) := by have h1 := QL.out; have h12 := QA.out; show _ ∧ _; omega
                replace hS := hS.trans (hb.mono hS.size)
                replace A := Lib.hid (A.out.on hb)
                clear hb hgz QL QA
                generalize wxx.alloc (.cells #[.int .i64 0, .int .i64 0, .int .i64 0, .int .i64 0] 23) = wxxx at *
                refine hK.out _ _ hS (fun _ => ?_)
                clear hK K
                try simp only [Act.put, List.setIfInBounds_toArray, List.set_cons_zero, List.set_cons_succ]
                have GD : Hid (ga ≠ gz) := by have h := Ggz.out.2; show _ ≠ _; omega
                have GA : Hid (W5.heap.size ≤ ga) := Gga.out
                have GZ : Hid (W5.heap.size ≤ gz) := Ggz.out.1
                obtain ⟨d0, d1, d2, d3, dl⟩ := A.out.cells
                obtain ⟨o0, o1', o2, o3, ol⟩ := Z.out.cells
                obtain ⟨f0, f1, f2, f3⟩ := A.out.fz
                obtain ⟨k0, k1, k2, k3⟩ := Z.out.fz
                have hag := GD.out
                have hag2 := GD.out.symm
                refine rnOne 14 rfl (by kernel_rfl) rfl (fun K hK => ?_)
                go_simp
                replace hS : Below W5.heap.size W5 ((((wxxx.setCell ⟨ga, 0, none⟩ (.int .i64 yy.st)).setCell ⟨ga, 1, none⟩ (.int .i64 yy.v)).setCell ⟨ga, 2, none⟩ (.int .i64 yy.wa)).setCell ⟨ga, 3, none⟩ (.int .i64 yy.sq)) := (((hS.setCell (p := ⟨ga, 0, none⟩) GA.out _).setCell (p := ⟨ga, 1, none⟩) GA.out _).setCell (p := ⟨ga, 2, none⟩) GA.out _).setCell (p := ⟨ga, 3, none⟩) GA.out _
                refine hK.out _ _ hS (fun _ => ?_)
                clear hK K
                try simp only [Act.put, List.setIfInBounds_toArray, List.set_cons_zero, List.set_cons_succ]
                refine rnOne 15 rfl (by kernel_rfl) rfl (fun K hK => ?_)
                go_simp
                replace hS : Below W5.heap.size W5 ((((((((wxxx.setCell ⟨ga, 0, none⟩ (.int .i64 yy.st)).setCell ⟨ga, 1, none⟩ (.int .i64 yy.v)).setCell ⟨ga, 2, none⟩ (.int .i64 yy.wa)).setCell ⟨ga, 3, none⟩ (.int .i64 yy.sq)).setCell ⟨gz, 0, none⟩ (.int .i64 yy.st)).setCell ⟨gz, 1, none⟩ (.int .i64 yy.v)).setCell ⟨gz, 2, none⟩ (.int .i64 yy.wa)).setCell ⟨gz, 3, none⟩ (.int .i64 yy.sq)) := (((hS.setCell (p := ⟨gz, 0, none⟩) GZ.out _).setCell (p := ⟨gz, 1, none⟩) GZ.out _).setCell (p := ⟨gz, 2, none⟩) GZ.out _).setCell (p := ⟨gz, 3, none⟩) GZ.out _
                refine hK.out _ _ hS (fun _ => ?_)
                clear hK K
                try simp only [Act.put, List.setIfInBounds_toArray, List.set_cons_zero, List.set_cons_succ]
                refine tkYes 16 (v := ?_) rfl (by kernel_rfl) (fun _ _ _ h => h) rfl ?_ hS ?_
                rotate_left
                · intro W hW; go_simp; (try with_reducible rfl)
                simp only [Act.put, List.setIfInBounds_toArray, List.set_cons_zero, List.set_cons_succ]
                refine wpAnyH_done (by kernel_rfl) ?_ _
                have A1 : SuAt 28 ((((wxxx.setCell ⟨ga, 0, none⟩ (.int .i64 yy.st)).setCell ⟨ga, 1, none⟩ (.int .i64 yy.v)).setCell ⟨ga, 2, none⟩ (.int .i64 yy.wa)).setCell ⟨ga, 3, none⟩ (.int .i64 yy.sq)) ga yy := (((A.out.set0 yy.st).set1 yy.v).set2 yy.wa).set3 yy.sq
                have Z1 : SuAt 23 ((((wxxx.setCell ⟨ga, 0, none⟩ (.int .i64 yy.st)).setCell ⟨ga, 1, none⟩ (.int .i64 yy.v)).setCell ⟨ga, 2, none⟩ (.int .i64 yy.wa)).setCell ⟨ga, 3, none⟩ (.int .i64 yy.sq)) gz Su.zero := set_apart (set_apart (set_apart (set_apart Z.out GD.out 0 _) GD.out 1 _) GD.out 2 _) GD.out 3 _
                have A2 : Hid (SuAt 28 ((((((((wxxx.setCell ⟨ga, 0, none⟩ (.int .i64 yy.st)).setCell ⟨ga, 1, none⟩ (.int .i64 yy.v)).setCell ⟨ga, 2, none⟩ (.int .i64 yy.wa)).setCell ⟨ga, 3, none⟩ (.int .i64 yy.sq)).setCell ⟨gz, 0, none⟩ (.int .i64 yy.st)).setCell ⟨gz, 1, none⟩ (.int .i64 yy.v)).setCell ⟨gz, 2, none⟩ (.int .i64 yy.wa)).setCell ⟨gz, 3, none⟩ (.int .i64 yy.sq)) ga yy) := set_apart (set_apart (set_apart (set_apart A1 GD.out.symm 0 _) GD.out.symm 1 _) GD.out.symm 2 _) GD.out.symm 3 _
                have Z2 : Hid (SuAt 23 ((((((((wxxx.setCell ⟨ga, 0, none⟩ (.int .i64 yy.st)).setCell ⟨ga, 1, none⟩ (.int .i64 yy.v)).setCell ⟨ga, 2, none⟩ (.int .i64 yy.wa)).setCell ⟨ga, 3, none⟩ (.int .i64 yy.sq)).setCell ⟨gz, 0, none⟩ (.int .i64 yy.st)).setCell ⟨gz, 1, none⟩ (.int .i64 yy.v)).setCell ⟨gz, 2, none⟩ (.int .i64 yy.wa)).setCell ⟨gz, 3, none⟩ (.int .i64 yy.sq)) gz yy) := (((Z1.set0 yy.st).set1 yy.v).set2 yy.wa).set3 yy.sq
                have H6 := Lib.hid hS
                clear hS A1 Z1 A Z d0 d1 d2 d3 dl o0 o1' o2 o3 ol f0 f1 f2 f3 k0 k1 k2 k3 hag hag2
                generalize ((((((((wxxx.setCell ⟨ga, 0, none⟩ (.int .i64 yy.st)).setCell ⟨ga, 1, none⟩ (.int .i64 yy.v)).setCell ⟨ga, 2, none⟩ (.int .i64 yy.wa)).setCell ⟨ga, 3, none⟩ (.int .i64 yy.sq)).setCell ⟨gz, 0, none⟩ (.int .i64 yy.st)).setCell ⟨gz, 1, none⟩ (.int .i64 yy.v)).setCell ⟨gz, 2, none⟩ (.int .i64 yy.wa)).setCell ⟨gz, 3, none⟩ (.int .i64 yy.sq)) = W6 at *
                go_wp2_with fail
                go_meet
                case rel => exact ⟨ga, gz, rfl, rfl, rfl, A2.out, Z2.out, GZ, H6.out⟩
              · skip
                go_simp
                have hb := (Below.refl wx.heap.size wx).alloc (Nat.le_refl _) (.cells #[.int .i64 0, .int .i64 0, .int .i64 0, .int .i64 0] 23)
                have Z : Hid (SuAt 23 (wx.alloc (.cells #[.int .i64 0, .int .i64 0, .int .i64 0, .int .i64 0] 23)) wx.heap.size Su.zero) := SuAt.new 23 wx Su.zero
                have QL := Lib.hid hS.size
                have QA := Lib.hid A.out.cells.2.2.2.2
                obtain ⟨gz, hgz⟩ : ∃ g, g = wx.heap.size := ⟨_, rfl⟩
                rw [← hgz] at Z ⊢
                have Ggz : Hid (W5.heap.size ≤ gz ∧ ga < gz) := by have h1 := QL.out; have h12 := QA.out; show _ ∧ _; omega
                replace hS := hS.trans (hb.mono hS.size)
                replace A := Lib.hid (A.out.on hb)
                clear hb hgz QL QA
                generalize wx.alloc (.cells #[.int .i64 0, .int .i64 0, .int .i64 0, .int .i64 0] 23) = wxx at *
                refine hK.out _ _ hS (fun _ => ?_)
                clear hK K
                try simp only [Act.put, List.setIfInBounds_toArray, List.set_cons_zero, List.set_cons_succ]
                refine rnOne 7 rfl (by kernel_rfl) rfl (fun K hK => ?_)
                go_simp
                with_reducible refine (CT.out _).mono ?_
                rintro e wxxx ⟨rfl, hb⟩
                replace hS := hS.trans (hb.mono hS.size)
                replace A := Lib.hid (A.out.on hb)
                replace Z := Lib.hid (Z.out.on hb)
                clear hb
                try go_simp
                refine hK.out _ _ hS (fun _ => ?_)
                clear hK K
                try simp only [Act.put, List.setIfInBounds_toArray, List.set_cons_zero, List.set_cons_succ]
                refine tkYes 8 (v := ?_) rfl (by kernel_rfl) (fun _ _ _ h => h) rfl ?_ hS ?_
                rotate_left
                · intro W hW; go_simp; (try with_reducible rfl)
                simp only [Act.put, List.setIfInBounds_toArray, List.set_cons_zero, List.set_cons_succ]
                refine tkYes 9 (v := ?_) rfl (by kernel_rfl) (fun _ _ _ h => h) rfl ?_ hS ?_
                rotate_left
                · intro W hW; go_simp; (try with_reducible rfl)
                simp only [Act.put, List.setIfInBounds_toArray, List.set_cons_zero, List.set_cons_succ]
                refine tkYes 10 (v := ?_) rfl (by kernel_rfl) (fun _ _ _ h => h) rfl ?_ hS ?_
                rotate_left
                · intro W hW; go_simp; (try with_reducible rfl)
                simp only [Act.put, List.setIfInBounds_toArray, List.set_cons_zero, List.set_cons_succ]
                refine tkYes 11 (v := ?_) rfl (by kernel_rfl) (fun _ _ _ h => h) rfl ?_ hS ?_
                rotate_left
                · intro W hW; go_simp; (try with_reducible rfl)
                simp only [Act.put, List.setIfInBounds_toArray, List.set_cons_zero, List.set_cons_succ]
                have GD : Hid (ga ≠ gz) := by have h := Ggz.out.2; show _ ≠ _; omega
                have GA : Hid (W5.heap.size ≤ ga) := Gga.out
                have GZ : Hid (W5.heap.size ≤ gz) := Ggz.out.1
                obtain ⟨d0, d1, d2, d3, dl⟩ := A.out.cells
                obtain ⟨o0, o1', o2, o3, ol⟩ := Z.out.cells
                obtain ⟨f0, f1, f2, f3⟩ := A.out.fz
                obtain ⟨k0, k1, k2, k3⟩ := Z.out.fz
                have hag := GD.out
                have hag2 := GD.out.symm
                refine rnOne 14 rfl (by kernel_rfl) rfl (fun K hK => ?_)
                go_simp
                replace hS : Below W5.heap.size W5 ((((wxxx.setCell ⟨ga, 0, none⟩ (.int .i64 yy.st)).setCell ⟨ga, 1, none⟩ (.int .i64 yy.v)).setCell ⟨ga, 2, none⟩ (.int .i64 yy.wa)).setCell ⟨ga, 3, none⟩ (.int .i64 yy.sq)) := (((hS.setCell (p := ⟨ga, 0, none⟩) GA.out _).setCell (p := ⟨ga, 1, none⟩) GA.out _).setCell (p := ⟨ga, 2, none⟩) GA.out _).setCell (p := ⟨ga, 3, none⟩) GA.out _
                refine hK.out _ _ hS (fun _ => ?_)
                clear hK K
                try simp only [Act.put, List.setIfInBounds_toArray, List.set_cons_zero, List.set_cons_succ]
                refine rnOne 15 rfl (by kernel_rfl) rfl (fun K hK => ?_)
                go_simp
                replace hS : Below W5.heap.size W5 ((((((((wxxx.setCell ⟨ga, 0, none⟩ (.int .i64 yy.st)).setCell ⟨ga, 1, none⟩ (.int .i64 yy.v)).setCell ⟨ga, 2, none⟩ (.int .i64 yy.wa)).setCell ⟨ga, 3, none⟩ (.int .i64 yy.sq)).setCell ⟨gz, 0, none⟩ (.int .i64 yy.st)).setCell ⟨gz, 1, none⟩ (.int .i64 yy.v)).setCell ⟨gz, 2, none⟩ (.int .i64 yy.wa)).setCell ⟨gz, 3, none⟩ (.int .i64 yy.sq)) := (((hS.setCell (p := ⟨gz, 0, none⟩) GZ.out _).setCell (p := ⟨gz, 1, none⟩) GZ.out _).setCell (p := ⟨gz, 2, none⟩) GZ.out _).setCell (p := ⟨gz, 3, none⟩) GZ.out _
                refine hK.out _ _ hS (fun _ => ?_)
                clear hK K
                try simp only [Act.put, List.setIfInBounds_toArray, List.set_cons_zero, List.set_cons_succ]
                refine tkYes 16 (v := ?_) rfl (by kernel_rfl) (fun _ _ _ h => h) rfl ?_ hS ?_
                rotate_left
                · intro W hW; go_simp; (try with_reducible rfl)
                simp only [Act.put, List.setIfInBounds_toArray, List.set_cons_zero, List.set_cons_succ]
                refine wpAnyH_done (by kernel_rfl) ?_ _
                have A1 : SuAt 28 ((((wxxx.setCell ⟨ga, 0, none⟩ (.int .i64 yy.st)).setCell ⟨ga, 1, none⟩ (.int .i64 yy.v)).setCell ⟨ga, 2, none⟩ (.int .i64 yy.wa)).setCell ⟨ga, 3, none⟩ (.int .i64 yy.sq)) ga yy := (((A.out.set0 yy.st).set1 yy.v).set2 yy.wa).set3 yy.sq
                have Z1 : SuAt 23 ((((wxxx.setCell ⟨ga, 0, none⟩ (.int .i64 yy.st)).setCell ⟨ga, 1, none⟩ (.int .i64 yy.v)).setCell ⟨ga, 2, none⟩ (.int .i64 yy.wa)).setCell ⟨ga, 3, none⟩ (.int .i64 yy.sq)) gz Su.zero := set_apart (set_apart (set_apart (set_apart Z.out GD.out 0 _) GD.out 1 _) GD.out 2 _) GD.out 3 _
                have A2 : Hid (SuAt 28 ((((((((wxxx.setCell ⟨ga, 0, none⟩ (.int .i64 yy.st)).setCell ⟨ga, 1, none⟩ (.int .i64 yy.v)).setCell ⟨ga, 2, none⟩ (.int .i64 yy.wa)).setCell ⟨ga, 3, none⟩ (.int .i64 yy.sq)).setCell ⟨gz, 0, none⟩ (.int .i64 yy.st)).setCell ⟨gz, 1, none⟩ (.int .i64 yy.v)).setCell ⟨gz, 2, none⟩ (.int .i64 yy.wa)).setCell ⟨gz, 3, none⟩ (.int .i64 yy.sq)) ga yy) := set_apart (set_apart (set_apart (set_apart A1 GD.out.symm 0 _) GD.out.symm 1 _) GD.out.symm 2 _) GD.out.symm 3 _
                have Z2 : Hid (SuAt 23 ((((((((wxxx.setCell ⟨ga, 0, none⟩ (.int .i64 yy.st)).setCell ⟨ga, 1, none⟩ (.int .i64 yy.v)).setCell ⟨ga, 2, none⟩ (.int .i64 yy.wa)).setCell ⟨ga, 3, none⟩ (.int .i64 yy.sq)).setCell ⟨gz, 0, none⟩ (.int .i64 yy.st)).setCell ⟨gz, 1, none⟩ (.int .i64 yy.v)).setCell ⟨gz, 2, none⟩ (.int .i64 yy.wa)).setCell ⟨gz, 3, none⟩ (.int .i64 yy.sq)) gz yy) := (((Z1.set0 yy.st).set1 yy.v).set2 yy.wa).set3 yy.sq
                have H6 := Lib.hid hS
                clear hS A1 Z1 A Z d0 d1 d2 d3 dl o0 o1' o2 o3 ol f0 f1 f2 f3 k0 k1 k2 k3 hag hag2
                generalize ((((((((wxxx.setCell ⟨ga, 0, none⟩ (.int .i64 yy.st)).setCell ⟨ga, 1, none⟩ (.int .i64 yy.v)).setCell ⟨ga, 2, none⟩ (.int .i64 yy.wa)).setCell ⟨ga, 3, none⟩ (.int .i64 yy.sq)).setCell ⟨gz, 0, none⟩ (.int .i64 yy.st)).setCell ⟨gz, 1, none⟩ (.int .i64 yy.v)).setCell ⟨gz, 2, none⟩ (.int .i64 yy.wa)).setCell ⟨gz, 3, none⟩ (.int .i64 yy.sq)) = W6 at *
                go_wp2_with fail
                go_meet
                case rel => exact ⟨ga, gz, rfl, rfl, rfl, A2.out, Z2.out, GZ, H6.out⟩
            · skip
              go_simp
              have hb := (Below.refl w.heap.size w).alloc (Nat.le_refl _) (.cells #[.int .i64 0, .int .i64 0, .int .i64 0, .int .i64 0] 23)
              have Z : Hid (SuAt 23 (w.alloc (.cells #[.int .i64 0, .int .i64 0, .int .i64 0, .int .i64 0] 23)) w.heap.size Su.zero) := SuAt.new 23 w Su.zero
              have QL := Lib.hid hS.size
              obtain ⟨gz, hgz⟩ : ∃ g, g = w.heap.size := ⟨_, rfl⟩
              rw [← hgz] at Z ⊢
              have Ggz : Hid (W5.heap.size ≤ gz) := by have h1 := QL.out; show _ ≤ _; omega
              replace hS := hS.trans (hb.mono hS.size)
              clear hb hgz QL 
              generalize w.alloc (.cells #[.int .i64 0, .int .i64 0, .int .i64 0, .int .i64 0] 23) = wx at *
              refine hK.out _ _ hS (fun _ => ?_)
              clear hK K
              try simp only [Act.put, List.setIfInBounds_toArray, List.set_cons_zero, List.set_cons_succ]
              refine rnTwo 7 12 rfl rfl (by kernel_rfl) rfl rfl (fun K hK => ?_) (fun K hK => ?_)
              · skip
                go_simp
                with_reducible refine (CT.out _).mono ?_
                rintro e wxx ⟨rfl, hb⟩
                replace hS := hS.trans (hb.mono hS.size)
                replace Z := Lib.hid (Z.out.on hb)
                clear hb
                try go_simp
                refine hK.out _ _ hS (fun _ => ?_)
                clear hK K
                try simp only [Act.put, List.setIfInBounds_toArray, List.set_cons_zero, List.set_cons_succ]
                refine tkYes 8 (v := ?_) rfl (by kernel_rfl) (fun _ _ _ h => h) rfl ?_ hS ?_
                rotate_left
                · intro W hW; go_simp; (try with_reducible rfl)
                simp only [Act.put, List.setIfInBounds_toArray, List.set_cons_zero, List.set_cons_succ]
                refine tkYes 9 (v := ?_) rfl (by kernel_rfl) (fun _ _ _ h => h) rfl ?_ hS ?_
                rotate_left
                · intro W hW; go_simp; (try with_reducible rfl)
                simp only [Act.put, List.setIfInBounds_toArray, List.set_cons_zero, List.set_cons_succ]
                refine tkYes 10 (v := ?_) rfl (by kernel_rfl) (fun _ _ _ h => h) rfl ?_ hS ?_
                rotate_left
                · intro W hW; go_simp; (try with_reducible rfl)
                simp only [Act.put, List.setIfInBounds_toArray, List.set_cons_zero, List.set_cons_succ]
                refine tkYes 11 (v := ?_) rfl (by kernel_rfl) (fun _ _ _ h => h) rfl ?_ hS ?_
                rotate_left
                · intro W hW; go_simp; (try with_reducible rfl)
                simp only [Act.put, List.setIfInBounds_toArray, List.set_cons_zero, List.set_cons_succ]
                refine rnOne 12 rfl (by kernel_rfl) rfl (fun K hK => ?_)
                go_simp
                have hb := (Below.refl wxx.heap.size wxx).alloc (Nat.le_refl _) (.cells #[.int .i64 0, .int .i64 0, .int .i64 0, .int .i64 0] 28)
                have A : Hid (SuAt 28 (wxx.alloc (.cells #[.int .i64 0, .int .i64 0, .int .i64 0, .int .i64 0] 28)) wxx.heap.size Su.zero) := SuAt.new 28 wxx Su.zero
                have QL := Lib.hid hS.size
                have QZ := Lib.hid Z.out.cells.2.2.2.2
                obtain ⟨ga, hga⟩ : ∃ g, g = wxx.heap.size := ⟨_, rfl⟩
                rw [← hga] at A ⊢
                have Gga : Hid (W5.heap.size ≤ ga ∧ gz < ga) := by have h1 := QL.out; have h13 := QZ.out; show _ ∧ _; omega
                replace hS := hS.trans (hb.mono hS.size)
                replace Z := Lib.hid (Z.out.on hb)
                clear hb hga QL QZ
                generalize wxx.alloc (.cells #[.int .i64 0, .int .i64 0, .int .i64 0, .int .i64 0] 28) = wxxx at *
                refine hK.out _ _ hS (fun _ => ?_)
                clear hK K
                try simp only [Act.put, List.setIfInBounds_toArray, List.set_cons_zero, List.set_cons_succ]
                have GD : Hid (ga ≠ gz) := by have h := Gga.out.2; show _ ≠ _; omega
                have GA : Hid (W5.heap.size ≤ ga) := Gga.out.1
                have GZ : Hid (W5.heap.size ≤ gz) := Ggz.out
                obtain ⟨d0, d1, d2, d3, dl⟩ := A.out.cells
                obtain ⟨o0, o1', o2, o3, ol⟩ := Z.out.cells
                obtain ⟨f0, f1, f2, f3⟩ := A.out.fz
                obtain ⟨k0, k1, k2, k3⟩ := Z.out.fz
                have hag := GD.out
                have hag2 := GD.out.symm
                refine rnOne 14 rfl (by kernel_rfl) rfl (fun K hK => ?_)
                go_simp
                replace hS : Below W5.heap.size W5 ((((wxxx.setCell ⟨ga, 0, none⟩ (.int .i64 yy.st)).setCell ⟨ga, 1, none⟩ (.int .i64 yy.v)).setCell ⟨ga, 2, none⟩ (.int .i64 yy.wa)).setCell ⟨ga, 3, none⟩ (.int .i64 yy.sq)) := (((hS.setCell (p := ⟨ga, 0, none⟩) GA.out _).setCell (p := ⟨ga, 1, none⟩) GA.out _).setCell (p := ⟨ga, 2, none⟩) GA.out _).setCell (p := ⟨ga, 3, none⟩) GA.out _
                refine hK.out _ _ hS (fun _ => ?_)
                clear hK K
                try simp only [Act.put, List.setIfInBounds_toArray, List.set_cons_zero, List.set_cons_succ]
                refine rnOne 15 rfl (by kernel_rfl) rfl (fun K hK => ?_)
                go_simp
                replace hS : Below W5.heap.size W5 ((((((((wxxx.setCell ⟨ga, 0, none⟩ (.int .i64 yy.st)).setCell ⟨ga, 1, none⟩ (.int .i64 yy.v)).setCell ⟨ga, 2, none⟩ (.int .i64 yy.wa)).setCell ⟨ga, 3, none⟩ (.int .i64 yy.sq)).setCell ⟨gz, 0, none⟩ (.int .i64 yy.st)).setCell ⟨gz, 1, none⟩ (.int .i64 yy.v)).setCell ⟨gz, 2, none⟩ (.int .i64 yy.wa)).setCell ⟨gz, 3, none⟩ (.int .i64 yy.sq)) := (((hS.setCell (p := ⟨gz, 0, none⟩) GZ.out _).setCell (p := ⟨gz, 1, none⟩) GZ.out _).setCell (p := ⟨gz, 2, none⟩) GZ.out _).setCell (p := ⟨gz, 3, none⟩) GZ.out _
                refine hK.out _ _ hS (fun _ => ?_)
                clear hK K
                try simp only [Act.put, List.setIfInBounds_toArray, List.set_cons_zero, List.set_cons_succ]
                refine tkYes 16 (v := ?_) rfl (by kernel_rfl) (fun _ _ _ h => h) rfl ?_ hS ?_
                rotate_left
                · intro W hW; go_simp; (try with_reducible rfl)
                simp only [Act.put, List.setIfInBounds_toArray, List.set_cons_zero, List.set_cons_succ]
                refine wpAnyH_done (by kernel_rfl) ?_ _
                have A1 : SuAt 28 ((((wxxx.setCell ⟨ga, 0, none⟩ (.int .i64 yy.st)).setCell ⟨ga, 1, none⟩ (.int .i64 yy.v)).setCell ⟨ga, 2, none⟩ (.int .i64 yy.wa)).setCell ⟨ga, 3, none⟩ (.int .i64 yy.sq)) ga yy := (((A.out.set0 yy.st).set1 yy.v).set2 yy.wa).set3 yy.sq
                have Z1 : SuAt 23 ((((wxxx.setCell ⟨ga, 0, none⟩ (.int .i64 yy.st)).setCell ⟨ga, 1, none⟩ (.int .i64 yy.v)).setCell ⟨ga, 2, none⟩ (.int .i64 yy.wa)).setCell ⟨ga, 3, none⟩ (.int .i64 yy.sq)) gz Su.zero := set_apart (set_apart (set_apart (set_apart Z.out GD.out 0 _) GD.out 1 _) GD.out 2 _) GD.out 3 _
                have A2 : Hid (SuAt 28 ((((((((wxxx.setCell ⟨ga, 0, none⟩ (.int .i64 yy.st)).setCell ⟨ga, 1, none⟩ (.int .i64 yy.v)).setCell ⟨ga, 2, none⟩ (.int .i64 yy.wa)).setCell ⟨ga, 3, none⟩ (.int .i64 yy.sq)).setCell ⟨gz, 0, none⟩ (.int .i64 yy.st)).setCell ⟨gz, 1, none⟩ (.int .i64 yy.v)).setCell ⟨gz, 2, none⟩ (.int .i64 yy.wa)).setCell ⟨gz, 3, none⟩ (.int .i64 yy.sq)) ga yy) := set_apart (set_apart (set_apart (set_apart A1 GD.out.symm 0 _) GD.out.symm 1 _) GD.out.symm 2 _) GD.out.symm 3 _
                have Z2 : Hid (SuAt 23 ((((((((wxxx.setCell ⟨ga, 0, none⟩ (.int .i64 yy.st)).setCell ⟨ga, 1, none⟩ (.int .i64 yy.v)).setCell ⟨ga, 2, none⟩ (.int .i64 yy.wa)).setCell ⟨ga, 3, none⟩ (.int .i64 yy.sq)).setCell ⟨gz, 0, none⟩ (.int .i64 yy.st)).setCell ⟨gz, 1, none⟩ (.int .i64 yy.v)).setCell ⟨gz, 2, none⟩ (.int .i64 yy.wa)).setCell ⟨gz, 3, none⟩ (.int .i64 yy.sq)) gz yy) := (((Z1.set0 yy.st).set1 yy.v).set2 yy.wa).set3 yy.sq
                have H6 := Lib.hid hS
                clear hS A1 Z1 A Z d0 d1 d2 d3 dl o0 o1' o2 o3 ol f0 f1 f2 f3 k0 k1 k2 k3 hag hag2
                generalize ((((((((wxxx.setCell ⟨ga, 0, none⟩ (.int .i64 yy.st)).setCell ⟨ga, 1, none⟩ (.int .i64 yy.v)).setCell ⟨ga, 2, none⟩ (.int .i64 yy.wa)).setCell ⟨ga, 3, none⟩ (.int .i64 yy.sq)).setCell ⟨gz, 0, none⟩ (.int .i64 yy.st)).setCell ⟨gz, 1, none⟩ (.int .i64 yy.v)).setCell ⟨gz, 2, none⟩ (.int .i64 yy.wa)).setCell ⟨gz, 3, none⟩ (.int .i64 yy.sq)) = W6 at *
                go_wp2_with fail
                go_meet
                case rel => exact ⟨ga, gz, rfl, rfl, rfl, A2.out, Z2.out, GZ, H6.out⟩
              · skip
                go_simp
                have hb := (Below.refl wx.heap.size wx).alloc (Nat.le_refl _) (.cells #[.int .i64 0, .int .i64 0, .int .i64 0, .int .i64 0] 28)
                have A : Hid (SuAt 28 (wx.alloc (.cells #[.int .i64 0, .int .i64 0, .int .i64 0, .int .i64 0] 28)) wx.heap.size Su.zero) := SuAt.new 28 wx Su.zero
                have QL := Lib.hid hS.size
                have QZ := Lib.hid Z.out.cells.2.2.2.2
                obtain ⟨ga, hga⟩ : ∃ g, g = wx.heap.size := ⟨_, rfl⟩
                rw [← hga] at A ⊢
                have Gga : Hid (W5.heap.size ≤ ga ∧ gz < ga) := by have h1 := QL.out; have h13 := QZ.out; show _ ∧ _; omega
                replace hS := hS.trans (hb.mono hS.size)
                replace Z := Lib.hid (Z.out.on hb)
                clear hb hga QL QZ
                generalize wx.alloc (.cells #[.int .i64 0, .int .i64 0, .int .i64 0, .int .i64 0] 28) = wxx at *
                refine hK.out _ _ hS (fun _ => ?_)
                clear hK K
                try simp only [Act.put, List.setIfInBounds_toArray, List.set_cons_zero, List.set_cons_succ]
                refine rnOne 7 rfl (by kernel_rfl) rfl (fun K hK => ?_)
                go_simp
                with_reducible refine (CT.out _).mono ?_
                rintro e wxxx ⟨rfl, hb⟩
                replace hS := hS.trans (hb.mono hS.size)
                replace Z := Lib.hid (Z.out.on hb)
                replace A := Lib.hid (A.out.on hb)
                clear hb
                try go_simp
                refine hK.out _ _ hS (fun _ => ?_)
                clear hK K
                try simp only [Act.put, List.setIfInBounds_toArray, List.set_cons_zero, List.set_cons_succ]
                refine tkYes 8 (v := ?_) rfl (by kernel_rfl) (fun _ _ _ h => h) rfl ?_ hS ?_
                rotate_left
                · intro W hW; go_simp; (try with_reducible rfl)
                simp only [Act.put, List.setIfInBounds_toArray, List.set_cons_zero, List.set_cons_succ]
                refine tkYes 9 (v := ?_) rfl (by kernel_rfl) (fun _ _ _ h => h) rfl ?_ hS ?_
                rotate_left
                · intro W hW; go_simp; (try with_reducible rfl)
                simp only [Act.put, List.setIfInBounds_toArray, List.set_cons_zero, List.set_cons_succ]
                refine tkYes 10 (v := ?_) rfl (by kernel_rfl) (fun _ _ _ h => h) rfl ?_ hS ?_
                rotate_left
                · intro W hW; go_simp; (try with_reducible rfl)
                simp only [Act.put, List.setIfInBounds_toArray, List.set_cons_zero, List.set_cons_succ]
                refine tkYes 11 (v := ?_) rfl (by kernel_rfl) (fun _ _ _ h => h) rfl ?_ hS ?_
                rotate_left
                · intro W hW; go_simp; (try with_reducible rfl)
                simp only [Act.put, List.setIfInBounds_toArray, List.set_cons_zero, List.set_cons_succ]
                have GD : Hid (ga ≠ gz) := by have h := Gga.out.2; show _ ≠ _; omega
                have GA : Hid (W5.heap.size ≤ ga) := Gga.out.1
                have GZ : Hid (W5.heap.size ≤ gz) := Ggz.out
                obtain ⟨d0, d1, d2, d3, dl⟩ := A.out.cells
                obtain ⟨o0, o1', o2, o3, ol⟩ := Z.out.cells
                obtain ⟨f0, f1, f2, f3⟩ := A.out.fz
                obtain ⟨k0, k1, k2, k3⟩ := Z.out.fz
                have hag := GD.out
                have hag2 := GD.out.symm
                refine rnOne 14 rfl (by kernel_rfl) rfl (fun K hK => ?_)
                go_simp
                replace hS : Below W5.heap.size W5 ((((wxxx.setCell ⟨ga, 0, none⟩ (.int .i64 yy.st)).setCell ⟨ga, 1, none⟩ (.int .i64 yy.v)).setCell ⟨ga, 2, none⟩ (.int .i64 yy.wa)).setCell ⟨ga, 3, none⟩ (.int .i64 yy.sq)) := (((hS.setCell (p := ⟨ga, 0, none⟩) GA.out _).setCell (p := ⟨ga, 1, none⟩) GA.out _).setCell (p := ⟨ga, 2, none⟩) GA.out _).setCell (p := ⟨ga, 3, none⟩) GA.out _
                refine hK.out _ _ hS (fun _ => ?_)
                clear hK K
                try simp only [Act.put, List.setIfInBounds_toArray, List.set_cons_zero, List.set_cons_succ]
                refine rnOne 15 rfl (by kernel_rfl) rfl (fun K hK => ?_)
                go_simp
                replace hS : Below W5.heap.size W5 ((((((((wxxx.setCell ⟨ga, 0, none⟩ (.int .i64 yy.st)).setCell ⟨ga, 1, none⟩ (.int .i64 yy.v)).setCell ⟨ga, 2, none⟩ (.int .i64 yy.wa)).setCell ⟨ga, 3, none⟩ (.int .i64 yy.sq)).setCell ⟨gz, 0, none⟩ (.int .i64 yy.st)).setCell ⟨gz, 1, none⟩ (.int .i64 yy.v)).setCell ⟨gz, 2, none⟩ (.int .i64 yy.wa)).setCell ⟨gz, 3, none⟩ (.int .i64 yy.sq)) := (((hS.setCell (p := ⟨gz, 0, none⟩) GZ.out _).setCell (p := ⟨gz, 1, none⟩) GZ.out _).setCell (p := ⟨gz, 2, none⟩) GZ.out _).setCell (p := ⟨gz, 3, none⟩) GZ.out _
                refine hK.out _ _ hS (fun _ => ?_)
                clear hK K
                try simp only [Act.put, List.setIfInBounds_toArray, List.set_cons_zero, List.set_cons_succ]
                refine tkYes 16 (v := ?_) rfl (by kernel_rfl) (fun _ _ _ h => h) rfl ?_ hS ?_
                rotate_left
                · intro W hW; go_simp; (try with_reducible rfl)
                simp only [Act.put, List.setIfInBounds_toArray, List.set_cons_zero, List.set_cons_succ]
                refine wpAnyH_done (by kernel_rfl) ?_ _
                have A1 : SuAt 28 ((((wxxx.setCell ⟨ga, 0, none⟩ (.int .i64 yy.st)).setCell ⟨ga, 1, none⟩ (.int .i64 yy.v)).setCell ⟨ga, 2, none⟩ (.int .i64 yy.wa)).setCell ⟨ga, 3, none⟩ (.int .i64 yy.sq)) ga yy := (((A.out.set0 yy.st).set1 yy.v).set2 yy.wa).set3 yy.sq
                have Z1 : SuAt 23 ((((wxxx.setCell ⟨ga, 0, none⟩ (.int .i64 yy.st)).setCell ⟨ga, 1, none⟩ (.int .i64 yy.v)).setCell ⟨ga, 2, none⟩ (.int .i64 yy.wa)).setCell ⟨ga, 3, none⟩ (.int .i64 yy.sq)) gz Su.zero := set_apart (set_apart (set_apart (set_apart Z.out GD.out 0 _) GD.out 1 _) GD.out 2 _) GD.out 3 _
                have A2 : Hid (SuAt 28 ((((((((wxxx.setCell ⟨ga, 0, none⟩ (.int .i64 yy.st)).setCell ⟨ga, 1, none⟩ (.int .i64 yy.v)).setCell ⟨ga, 2, none⟩ (.int .i64 yy.wa)).setCell ⟨ga, 3, none⟩ (.int .i64 yy.sq)).setCell ⟨gz, 0, none⟩ (.int .i64 yy.st)).setCell ⟨gz, 1, none⟩ (.int .i64 yy.v)).setCell ⟨gz, 2, none⟩ (.int .i64 yy.wa)).setCell ⟨gz, 3, none⟩ (.int .i64 yy.sq)) ga yy) := set_apart (set_apart (set_apart (set_apart A1 GD.out.symm 0 _) GD.out.symm 1 _) GD.out.symm 2 _) GD.out.symm 3 _
                have Z2 : Hid (SuAt 23 ((((((((wxxx.setCell ⟨ga, 0, none⟩ (.int .i64 yy.st)).setCell ⟨ga, 1, none⟩ (.int .i64 yy.v)).setCell ⟨ga, 2, none⟩ (.int .i64 yy.wa)).setCell ⟨ga, 3, none⟩ (.int .i64 yy.sq)).setCell ⟨gz, 0, none⟩ (.int .i64 yy.st)).setCell ⟨gz, 1, none⟩ (.int .i64 yy.v)).setCell ⟨gz, 2, none⟩ (.int .i64 yy.wa)).setCell ⟨gz, 3, none⟩ (.int .i64 yy.sq)) gz yy) := (((Z1.set0 yy.st).set1 yy.v).set2 yy.wa).set3 yy.sq
                have H6 := Lib.hid hS
                clear hS A1 Z1 A Z d0 d1 d2 d3 dl o0 o1' o2 o3 ol f0 f1 f2 f3 k0 k1 k2 k3 hag hag2
                generalize ((((((((wxxx.setCell ⟨ga, 0, none⟩ (.int .i64 yy.st)).setCell ⟨ga, 1, none⟩ (.int .i64 yy.v)).setCell ⟨ga, 2, none⟩ (.int .i64 yy.wa)).setCell ⟨ga, 3, none⟩ (.int .i64 yy.sq)).setCell ⟨gz, 0, none⟩ (.int .i64 yy.st)).setCell ⟨gz, 1, none⟩ (.int .i64 yy.v)).setCell ⟨gz, 2, none⟩ (.int .i64 yy.wa)).setCell ⟨gz, 3, none⟩ (.int .i64 yy.sq)) = W6 at *
                go_wp2_with fail
                go_meet
                case rel => exact ⟨ga, gz, rfl, rfl, rfl, A2.out, Z2.out, GZ, H6.out⟩
          case rest =>
            obtain ⟨ga, gz, rfl, rfl, rfl, a2, z2, GZ, h6⟩ := hcut
            have A2 := Lib.hid a2
            have Z2 := Lib.hid z2
            have H6 := Lib.hid h6
            clear a2 z2 h6
            replace X := Lib.hid (X.out.on H6.out)
            replace R := Lib.hid (R.out.on H6.out)
            replace B := Lib.hid (B.out.trans (H6.out.mono B.out.size))
            clear H6 N HKD CT
            obtain ⟨d0, d1, d2, d3, dl⟩ := A2.out.cells
            obtain ⟨o0, o1', o2', o3, ol⟩ := Z2.out.cells
            have NE := fun W => slot_neq (a := yy) (b := yy) (x := false) (by simp) W
            have CR := Lib.hid (fun W => sdright_is (s := yy) (b := true) (by simp [RYY.out]) W)
            unfold suV suC at NE CR
            go_upto_region 14 with (go_at_call 10; (with_reducible refine (CR.out _).mono ?_); rintro e w9 ⟨rfl, hb⟩; replace X := Lib.hid (X.out.on hb); replace R := Lib.hid (R.out.on hb); replace A2 := Lib.hid (A2.out.on hb); replace Z2 := Lib.hid (Z2.out.on hb); replace B := Lib.hid (B.out.trans (hb.mono B.out.size)); clear hb d0 d1 d2 d3 dl o0 o1' o2' o3 ol NE CR)
            obtain ⟨d0, d1, d2, d3, dl⟩ := A2.out.cells
            obtain ⟨o0, o1', o2', o3, ol⟩ := Z2.out.cells
            obtain ⟨x0, x1, x2, x3, xl⟩ := X.out.cells
            obtain ⟨r0, r1, r2, r3, rl⟩ := R.out.cells
            obtain ⟨f0, f1, f2, f3⟩ := X.out.fz
            obtain ⟨k0, k1, k2, k3⟩ := R.out.fz
            have hxr : gx ≠ gr := by have := GX.out; omega
            have hxz : gx ≠ gz := by have h1 := GZ; have h2 := XL5.out; omega
            have X1 : SuAt 28 ((((w9.setCell ⟨gx, 0, none⟩ (.int .i64 yy.st)).setCell ⟨gx, 1, none⟩ (.int .i64 yy.v)).setCell ⟨gx, 2, none⟩ (.int .i64 yy.wa)).setCell ⟨gx, 3, none⟩ (.int .i64 yy.sq)) gx yy := (((X.out.set0 yy.st).set1 yy.v).set2 yy.wa).set3 yy.sq
            have X2 : Hid (SuAt 28 ((((((((w9.setCell ⟨gx, 0, none⟩ (.int .i64 yy.st)).setCell ⟨gx, 1, none⟩ (.int .i64 yy.v)).setCell ⟨gx, 2, none⟩ (.int .i64 yy.wa)).setCell ⟨gx, 3, none⟩ (.int .i64 yy.sq)).setCell ⟨gr, 0, none⟩ (.int .i64 yy.st)).setCell ⟨gr, 1, none⟩ (.int .i64 yy.v)).setCell ⟨gr, 2, none⟩ (.int .i64 yy.wa)).setCell ⟨gr, 3, none⟩ (.int .i64 yy.sq)) gx yy) := (set_apart (q := gr) (set_apart (q := gr) (set_apart (q := gr) (set_apart (q := gr) X1 (by have := GN.out; have := GX.out; omega) 0 _) (by have := GN.out; have := GX.out; omega) 1 _) (by have := GN.out; have := GX.out; omega) 2 _) (by have := GN.out; have := GX.out; omega) 3 _)
            have R1 : SuAt 23 ((((w9.setCell ⟨gx, 0, none⟩ (.int .i64 yy.st)).setCell ⟨gx, 1, none⟩ (.int .i64 yy.v)).setCell ⟨gx, 2, none⟩ (.int .i64 yy.wa)).setCell ⟨gx, 3, none⟩ (.int .i64 yy.sq)) gr Su.zero ∨ True := .inr trivial
            have R2 : Hid (SuAt 23 ((((((((w9.setCell ⟨gx, 0, none⟩ (.int .i64 yy.st)).setCell ⟨gx, 1, none⟩ (.int .i64 yy.v)).setCell ⟨gx, 2, none⟩ (.int .i64 yy.wa)).setCell ⟨gx, 3, none⟩ (.int .i64 yy.sq)).setCell ⟨gr, 0, none⟩ (.int .i64 yy.st)).setCell ⟨gr, 1, none⟩ (.int .i64 yy.v)).setCell ⟨gr, 2, none⟩ (.int .i64 yy.wa)).setCell ⟨gr, 3, none⟩ (.int .i64 yy.sq)) gr yy) := ((((set_apart (q := gx) (set_apart (q := gx) (set_apart (q := gx) (set_apart (q := gx) R.out (by have := GN.out; have := GX.out; omega) 0 _) (by have := GN.out; have := GX.out; omega) 1 _) (by have := GN.out; have := GX.out; omega) 2 _) (by have := GN.out; have := GX.out; omega) 3 _).set0 yy.st).set1 yy.v).set2 yy.wa).set3 yy.sq
            have B2 : Hid (Below W.heap.size W ((((((((w9.setCell ⟨gx, 0, none⟩ (.int .i64 yy.st)).setCell ⟨gx, 1, none⟩ (.int .i64 yy.v)).setCell ⟨gx, 2, none⟩ (.int .i64 yy.wa)).setCell ⟨gx, 3, none⟩ (.int .i64 yy.sq)).setCell ⟨gr, 0, none⟩ (.int .i64 yy.st)).setCell ⟨gr, 1, none⟩ (.int .i64 yy.v)).setCell ⟨gr, 2, none⟩ (.int .i64 yy.wa)).setCell ⟨gr, 3, none⟩ (.int .i64 yy.sq))) := ((((((((B.out.setCell (p := ⟨gx, 0, none⟩) (by have := GR.out; have := GX.out; show _ ≤ gx; omega) _).setCell (p := ⟨gx, 1, none⟩) (by have := GR.out; have := GX.out; show _ ≤ gx; omega) _).setCell (p := ⟨gx, 2, none⟩) (by have := GR.out; have := GX.out; show _ ≤ gx; omega) _).setCell (p := ⟨gx, 3, none⟩) (by have := GR.out; have := GX.out; show _ ≤ gx; omega) _).setCell (p := ⟨gr, 0, none⟩) GR.out _).setCell (p := ⟨gr, 1, none⟩) GR.out _).setCell (p := ⟨gr, 2, none⟩) GR.out _).setCell (p := ⟨gr, 3, none⟩) GR.out _)
            clear X1 R1
            go_wp2_with fail
            exact ⟨⟨j + 1, yy, by go_num, by omega, by omega, R2.out, X2.out, RYY.out, B2.out⟩, by simp [intOf]; omega⟩
      · go_wp2_with fail
        go_ret
        exact ⟨rfl, B.out⟩
    · go_wp2_with fail
      go_ret
      exact ⟨rfl, B.out⟩
end Go.Proofs.Ytlkfbnafookjdaa
