/-
  The walk of RecordApart. Written by wip/tools/gen/rcapart.py. No condition.
-/
import Derived.Test.YtifokcpkamdkeaaDoorRcWr0
namespace Go.Proofs.YtifokcpkamdkeaaDoor
open Go.RowKit Cdc
set_option linter.unusedSimpArgs false
set_option linter.unusedVariables false

section
variable {P : Program} {ops : Array Oper} {Q : Exit → Act → World → Prop} {S : World → Prop} {fuel : Nat} {listed : Array Bool} {a : Act} {w : World}
theorem rnThree (i j k : Nat) {oi oj ok : Oper} (hi : ops.toList[i]? = some oi) (hj : ops.toList[j]? = some oj) (hk : ops.toList[k]? = some ok) (hr : Region.ready .any ops listed = [i, j, k])
    (hw : Region.wanted oi (yielded ops a.tmps) = true) (hwj : Region.wanted oj (yielded ops a.tmps) = true) (hwk : Region.wanted ok (yielded ops a.tmps) = true)
    (h : ∀ K : Act → World → Prop, Shut (∀ a w, S w → (S w → wpAnyH P .any ops Q S fuel (listed.setIfInBounds i true) a w) → K a w) → Oper.wp P oi a w K Q)
    (h2 : ∀ K : Act → World → Prop, Shut (∀ a w, S w → (S w → wpAnyH P .any ops Q S fuel (listed.setIfInBounds j true) a w) → K a w) → Oper.wp P oj a w K Q)
    (h3 : ∀ K : Act → World → Prop, Shut (∀ a w, S w → (S w → wpAnyH P .any ops Q S fuel (listed.setIfInBounds k true) a w) → K a w) → Oper.wp P ok a w K Q) :
    wpAnyH P .any ops Q S (fuel + 1) listed a w :=
  wpAnyH_ready hr (by simp) (AllReadyH.cons (o := oi) (by simpa using hi) (fun K hK => by rw [if_pos hw]; exact h K hK) (AllReadyH.cons (o := oj) (by simpa using hj) (fun K hK => by rw [if_pos hwj]; exact h2 K hK) (AllReadyH.cons (o := ok) (by simpa using hk) (fun K hK => by rw [if_pos hwk]; exact h3 K hK) AllReadyH.nil)))
end
theorem rc_words_some {r : Rc.R} (h : Rc.right r = true) : ∃ l, Rc.words r = txt l ∧ l ≠ [] ∧ l.length ≤ 2000 := by
  refine ⟨Spc.join (Rc.wl r), by unfold Rc.words; rw [if_pos h], ?_, Rc.wl_len (Rc.ok_in (Rc.ok_of h)) (Rc.ok_of h).text⟩
  have hk := (Rc.ok_of h).kind
  have h1 : Rc.nm r.kind ≠ [] := by
    intro e
    have := congrArg List.length e
    unfold Rc.nm at this
    rw [sb_length] at this
    have hkk : r.kind = 1 ∨ r.kind = 2 ∨ r.kind = 3 ∨ r.kind = 4 ∨ r.kind = 5 ∨ r.kind = 6 ∨ r.kind = 7 := by omega
    rcases hkk with e | e | e | e | e | e | e <;> rw [e] at this <;> revert this <;> decide
  have h2 : ∃ x t, Rc.wl r = Rc.nm r.kind :: t ∧ x = t := by
    unfold Rc.wl Rc.wt Rc.w5
    split <;> split <;> exact ⟨_, _, rfl, rfl⟩
  obtain ⟨_, t, e, _⟩ := h2
  rw [e]
  intro hj
  unfold Spc.join at hj
  exact h1 (List.append_eq_nil_iff.1 hj).1
theorem words_not_empty {l : List Nat} (h : l ≠ []) : (txt l).toList.isEmpty = false := by
  rw [text_empty, txt_size]
  rcases l with _ | ⟨x, t⟩
  · exact absurd rfl h
  · simp
set_option maxRecDepth 100000 in
set_option maxHeartbeats 6400000 in
theorem rcapart_walk (r s : Rc.R) (hr : Rc.In r) (hs : Rc.In s) (w : World) (ht : Tb w) : Calls Tryd.prog 4 #[.agg (Rc.cells r), .agg (Rc.cells s)] w fun e w' => e = .returned (.bool true) ∧ Below w.heap.size w w' := by
  have TB := Lib.hid ht
  have L1 := Lib.hid (fun W => rclives_any rc_any W)
  have G1 := Lib.hid (fun W => rcgood_any W r hr)
  have G2 := Lib.hid (fun W => rcgood_any W s hs)
  obtain ⟨a, ha⟩ : ∃ a, a = Rc.good r := ⟨_, rfl⟩
  obtain ⟨b, hb⟩ : ∃ b, b = Rc.good s := ⟨_, rfl⟩
  have RTA : Hid (Rc.right a = true) := by rw [ha]; exact Rc.good_right r
  have RTB : Hid (Rc.right b = true) := by rw [hb]; exact Rc.good_right s
  rw [← ha] at G1
  rw [← hb] at G2
  obtain ⟨g2, hg2⟩ : ∃ g, g = w.heap.size := ⟨_, rfl⟩
  obtain ⟨g3, hg3⟩ : ∃ g, g = g2 + 1 := ⟨_, rfl⟩
  have BA := (Below.refl w.heap.size w).alloc (Nat.le_refl _) (.cells (Rc.cells r) 26)
  have E1 : (w.alloc (.cells (Rc.cells r) 26)).heap.size = g3 := by rw [hg3, hg2]; exact World.size_alloc _ _
  have BB := (Below.refl (w.alloc (.cells (Rc.cells r) 26)).heap.size (w.alloc (.cells (Rc.cells r) 26))).alloc (Nat.le_refl _) (.cells (Rc.cells s) 26)
  have BX := BA.trans (BB.mono BA.size)
  have R0 : RcAt ((w.alloc (.cells (Rc.cells r) 26)).alloc (.cells (Rc.cells s) 26)) g2 r := by rw [hg2]; exact (RcAt.new w r).on BB
  have S0 : RcAt ((w.alloc (.cells (Rc.cells r) 26)).alloc (.cells (Rc.cells s) 26)) g3 s := by
    have := RcAt.new (w.alloc (.cells (Rc.cells r) 26)) s
    rw [E1] at this
    exact this
  clear ha hb hr hs ht
  go_enter Tryd.func4, Tryd.ntmps4
  go_upto_region 1 with fail
  simp only [World.size_alloc, ← hg2, ← hg3] at ⊢
  clear E1 BA BB hg2 hg3
  generalize (w.alloc (.cells (Rc.cells r) 26)).alloc (.cells (Rc.cells s) 26) = X at *
  have RA := Lib.hid R0
  have RB := Lib.hid S0
  have B1 := Lib.hid BX
  clear R0 S0 BX
  go_upto_region 3 with (go_at_call 5; (with_reducible refine (L1.out _).mono ?_); rintro e w1 ⟨rfl, hb⟩; have RA := Lib.hid (RA.out.on hb); have RB := Lib.hid (RB.out.on hb); have B1 := Lib.hid (B1.out.trans (hb.mono B1.out.size)); clear hb)
  go_cut [5, 6] (fun s5 s6 wx => ∃ ga gb, s5 = .pointer (some ⟨ga, 0, none⟩) ∧ s6 = .pointer (some ⟨gb, 0, none⟩) ∧ RcAt wx ga a ∧ RcAt wx gb b ∧ Below w.heap.size w wx)
  case first =>
    have RA := Lib.hid (RA.out.on (Below.refl w1.heap.size w1).drew)
    have RB := Lib.hid (RB.out.on (Below.refl w1.heap.size w1).drew)
    have BW0 := Lib.hid B1.out.drew
    refine wp_region_held_drew (S := fun W => RcAt W g2 r ∧ RcAt W g3 s) (by kernel_rfl) ⟨RA.out, RB.out⟩ (fun hS => ?_)
    clear RA RB B1
    generalize w1.drew = W0 at *
    obtain ⟨z, hz⟩ : ∃ z, z = W0.heap.size := ⟨_, rfl⟩
    have HG : Hid (g2 < z ∧ g3 < z ∧ w.heap.size ≤ z) := by have h1 := hS.1.cs.lt; have h2 := hS.2.cs.lt; have h3 := BW0.out.size; exact ⟨by omega, by omega, by omega⟩
    have ZW0 : Hid (z ≤ W0.heap.size) := Nat.le_of_eq hz
    clear hz
    refine tkYes 0 (v := .agg (Rc.cells r)) rfl (by kernel_rfl) (fun _ _ _ h => h) rfl (fun W hW => take_rec (.tmp 2) rfl g2 r rfl hW.1) hS ?_
    simp only [Act.put, List.setIfInBounds_toArray, List.set_cons_zero, List.set_cons_succ]
    refine tkYes 2 (v := .agg (Rc.cells s)) rfl (by kernel_rfl) (fun _ _ _ h => h) rfl (fun W hW => take_rec (.tmp 3) rfl g3 s rfl hW.2) hS ?_
    simp only [Act.put, List.setIfInBounds_toArray, List.set_cons_zero, List.set_cons_succ]
    refine rnThree 1 4 5 rfl rfl rfl (by kernel_rfl) rfl rfl rfl (fun K hK => ?_) (fun K hK => ?_) (fun K hK => ?_) 
    · go_simp
      with_reducible refine (G1.out _).mono ?_
      rintro en W1 ⟨rfl, hb⟩
      have hS2 : RcAt W1 g2 r ∧ RcAt W1 g3 s := ⟨hS.1.on hb, hS.2.on hb⟩
      have BW1 := Lib.hid (BW0.out.trans (hb.mono BW0.out.size))
      have ZW1 := Lib.hid (Nat.le_trans ZW0.out hb.size)
      clear hS hb
      have hS := hS2
      clear hS2
      refine hK.out _ _ hS (fun _ => ?_)
      clear hK K
      try simp only [Act.put, List.setIfInBounds_toArray, List.set_cons_zero, List.set_cons_succ]
      refine rnThree 3 4 5 rfl rfl rfl (by kernel_rfl) rfl rfl rfl (fun K hK => ?_) (fun K hK => ?_) (fun K hK => ?_) 
      · go_simp
        with_reducible refine (G2.out _).mono ?_
        rintro en W2 ⟨rfl, hb⟩
        have hS2 : RcAt W2 g2 r ∧ RcAt W2 g3 s := ⟨hS.1.on hb, hS.2.on hb⟩
        have BW2 := Lib.hid (BW1.out.trans (hb.mono BW1.out.size))
        have ZW2 := Lib.hid (Nat.le_trans ZW1.out hb.size)
        clear hS hb
        have hS := hS2
        clear hS2
        refine hK.out _ _ hS (fun _ => ?_)
        clear hK K
        try simp only [Act.put, List.setIfInBounds_toArray, List.set_cons_zero, List.set_cons_succ]
        refine rnTwo 4 5 rfl rfl (by kernel_rfl) rfl rfl (fun K hK => ?_) (fun K hK => ?_) 
        · go_simp
          have hn := (Below.refl W2.heap.size W2).alloc (Nat.le_refl _) (.cells #[.int .i64 0, .int .i64 0, .int .i64 0, .int .i64 0, .int .i64 0, .string ⟨#[]⟩, .int .i64 0, .int .i64 0, .int .i64 0, .int .i64 0, .int .i64 0, .int .i64 0, .int .i64 0, .int .i64 0, .int .i64 0, .int .i64 0, .int .i64 0, .int .i64 0] 26)
          have hnew : RcAt (W2.alloc (.cells #[.int .i64 0, .int .i64 0, .int .i64 0, .int .i64 0, .int .i64 0, .string ⟨#[]⟩, .int .i64 0, .int .i64 0, .int .i64 0, .int .i64 0, .int .i64 0, .int .i64 0, .int .i64 0, .int .i64 0, .int .i64 0, .int .i64 0, .int .i64 0, .int .i64 0] 26)) W2.heap.size Rc.none_ := ⟨heap_alloc_new W2 _⟩
          have hS2 : RcAt (W2.alloc (.cells #[.int .i64 0, .int .i64 0, .int .i64 0, .int .i64 0, .int .i64 0, .string ⟨#[]⟩, .int .i64 0, .int .i64 0, .int .i64 0, .int .i64 0, .int .i64 0, .int .i64 0, .int .i64 0, .int .i64 0, .int .i64 0, .int .i64 0, .int .i64 0, .int .i64 0] 26)) g2 r ∧ RcAt (W2.alloc (.cells #[.int .i64 0, .int .i64 0, .int .i64 0, .int .i64 0, .int .i64 0, .string ⟨#[]⟩, .int .i64 0, .int .i64 0, .int .i64 0, .int .i64 0, .int .i64 0, .int .i64 0, .int .i64 0, .int .i64 0, .int .i64 0, .int .i64 0, .int .i64 0, .int .i64 0] 26)) g3 s := ⟨hS.1.on hn, hS.2.on hn⟩
          have BW3 := Lib.hid (BW2.out.trans (hn.mono BW2.out.size))
          have ZW3 := Lib.hid (Nat.le_trans ZW2.out hn.size)
          obtain ⟨ga, hgx⟩ : ∃ gx, gx = W2.heap.size := ⟨_, rfl⟩
          have GA : Hid (z ≤ ga) := by rw [hgx]; exact ZW2.out
          rw [← hgx] at hnew ⊢
          have FA := Lib.hid hnew
          clear hS hn hnew hgx
          have hS := hS2
          clear hS2
          generalize W2.alloc (.cells #[.int .i64 0, .int .i64 0, .int .i64 0, .int .i64 0, .int .i64 0, .string ⟨#[]⟩, .int .i64 0, .int .i64 0, .int .i64 0, .int .i64 0, .int .i64 0, .int .i64 0, .int .i64 0, .int .i64 0, .int .i64 0, .int .i64 0, .int .i64 0, .int .i64 0] 26) = W3 at *
          refine hK.out _ _ hS (fun _ => ?_)
          clear hK K
          try simp only [Act.put, List.setIfInBounds_toArray, List.set_cons_zero, List.set_cons_succ]
          refine rnOne 5 rfl (by kernel_rfl) rfl (fun K hK => ?_)
          have FAp : Hid (ga < W3.heap.size) := FA.out.cs.lt
          go_simp
          have hn := (Below.refl W3.heap.size W3).alloc (Nat.le_refl _) (.cells #[.int .i64 0, .int .i64 0, .int .i64 0, .int .i64 0, .int .i64 0, .string ⟨#[]⟩, .int .i64 0, .int .i64 0, .int .i64 0, .int .i64 0, .int .i64 0, .int .i64 0, .int .i64 0, .int .i64 0, .int .i64 0, .int .i64 0, .int .i64 0, .int .i64 0] 26)
          have hnew : RcAt (W3.alloc (.cells #[.int .i64 0, .int .i64 0, .int .i64 0, .int .i64 0, .int .i64 0, .string ⟨#[]⟩, .int .i64 0, .int .i64 0, .int .i64 0, .int .i64 0, .int .i64 0, .int .i64 0, .int .i64 0, .int .i64 0, .int .i64 0, .int .i64 0, .int .i64 0, .int .i64 0] 26)) W3.heap.size Rc.none_ := ⟨heap_alloc_new W3 _⟩
          have FA := Lib.hid ((FA.out).on hn)
          have hS2 : RcAt (W3.alloc (.cells #[.int .i64 0, .int .i64 0, .int .i64 0, .int .i64 0, .int .i64 0, .string ⟨#[]⟩, .int .i64 0, .int .i64 0, .int .i64 0, .int .i64 0, .int .i64 0, .int .i64 0, .int .i64 0, .int .i64 0, .int .i64 0, .int .i64 0, .int .i64 0, .int .i64 0] 26)) g2 r ∧ RcAt (W3.alloc (.cells #[.int .i64 0, .int .i64 0, .int .i64 0, .int .i64 0, .int .i64 0, .string ⟨#[]⟩, .int .i64 0, .int .i64 0, .int .i64 0, .int .i64 0, .int .i64 0, .int .i64 0, .int .i64 0, .int .i64 0, .int .i64 0, .int .i64 0, .int .i64 0, .int .i64 0] 26)) g3 s := ⟨hS.1.on hn, hS.2.on hn⟩
          have BW4 := Lib.hid (BW3.out.trans (hn.mono BW3.out.size))
          have ZW4 := Lib.hid (Nat.le_trans ZW3.out hn.size)
          have NE : Hid (W3.heap.size ≠ ga) := by have := FAp.out; show _ ≠ _; omega
          obtain ⟨gb, hgx⟩ : ∃ gx, gx = W3.heap.size := ⟨_, rfl⟩
          have GB : Hid (z ≤ gb) := by rw [hgx]; exact ZW3.out
          rw [← hgx] at hnew ⊢
          rw [← hgx] at NE
          have FB := Lib.hid hnew
          clear hS hn hnew hgx
          have hS := hS2
          clear hS2
          generalize W3.alloc (.cells #[.int .i64 0, .int .i64 0, .int .i64 0, .int .i64 0, .int .i64 0, .string ⟨#[]⟩, .int .i64 0, .int .i64 0, .int .i64 0, .int .i64 0, .int .i64 0, .int .i64 0, .int .i64 0, .int .i64 0, .int .i64 0, .int .i64 0, .int .i64 0, .int .i64 0] 26) = W4 at *
          refine hK.out _ _ hS (fun _ => ?_)
          clear hK K
          try simp only [Act.put, List.setIfInBounds_toArray, List.set_cons_zero, List.set_cons_succ]
          refine rnOne 6 rfl (by kernel_rfl) rfl (fun K hK => ?_)
          refine wp_store_row 26 (.tmp 5) (.tmp 14) rfl ga (Rc.cells a) rfl rfl 26 _ FA.out.row (rec_size _) rfl (Rc.one_cell _) ?_
          have FA2 : Hid (RcAt (W4.setRow ga (Rc.cells a)) ga a) := ⟨setRow_heap _ ga _ _ _ _ FA.out.row⟩
          have FB2 : Hid (RcAt (W4.setRow ga (Rc.cells a)) gb _) := ⟨(setRow_other W4 ga gb _ (by have := NE.out; omega)).trans FB.out.row⟩
          have hS2 : RcAt (W4.setRow ga (Rc.cells a)) g2 r ∧ RcAt (W4.setRow ga (Rc.cells a)) g3 s := ⟨⟨(setRow_other W4 ga g2 _ (by have := GA.out; have := HG.out; omega)).trans hS.1.row⟩, ⟨(setRow_other W4 ga g3 _ (by have := GA.out; have := HG.out; omega)).trans hS.2.row⟩⟩
          have BW5 := Lib.hid (below_setRow BW4.out (Nat.le_trans HG.out.2.2 GA.out) (Rc.cells a))
          clear hS FA FB
          have FA := FA2
          have FB := FB2
          have hS := hS2
          clear hS2 FA2 FB2
          generalize W4.setRow ga (Rc.cells a) = W5 at *
          refine hK.out _ _ hS (fun _ => ?_)
          clear hK K
          try simp only [Act.put, List.setIfInBounds_toArray, List.set_cons_zero, List.set_cons_succ]
          refine rnOne 7 rfl (by kernel_rfl) rfl (fun K hK => ?_)
          refine wp_store_row 26 (.tmp 6) (.tmp 16) rfl gb (Rc.cells b) rfl rfl 26 _ FB.out.row (rec_size _) rfl (Rc.one_cell _) ?_
          have FB2 : Hid (RcAt (W5.setRow gb (Rc.cells b)) gb b) := ⟨setRow_heap _ gb _ _ _ _ FB.out.row⟩
          have FA2 : Hid (RcAt (W5.setRow gb (Rc.cells b)) ga _) := ⟨(setRow_other W5 gb ga _ (by have := NE.out; omega)).trans FA.out.row⟩
          have hS2 : RcAt (W5.setRow gb (Rc.cells b)) g2 r ∧ RcAt (W5.setRow gb (Rc.cells b)) g3 s := ⟨⟨(setRow_other W5 gb g2 _ (by have := GB.out; have := HG.out; omega)).trans hS.1.row⟩, ⟨(setRow_other W5 gb g3 _ (by have := GB.out; have := HG.out; omega)).trans hS.2.row⟩⟩
          have BW6 := Lib.hid (below_setRow BW5.out (Nat.le_trans HG.out.2.2 GB.out) (Rc.cells b))
          clear hS FA FB
          have FA := FA2
          have FB := FB2
          have hS := hS2
          clear hS2 FA2 FB2
          generalize W5.setRow gb (Rc.cells b) = W6 at *
          refine hK.out _ _ hS (fun _ => ?_)
          clear hK K
          try simp only [Act.put, List.setIfInBounds_toArray, List.set_cons_zero, List.set_cons_succ]
          refine wpAnyH_done (by kernel_rfl) ?_ _
          go_wp2_with fail
          go_meet
          case rel => exact ⟨ga, gb, rfl, rfl, FA.out, FB.out, BW6.out⟩
        · go_simp
          have hn := (Below.refl W2.heap.size W2).alloc (Nat.le_refl _) (.cells #[.int .i64 0, .int .i64 0, .int .i64 0, .int .i64 0, .int .i64 0, .string ⟨#[]⟩, .int .i64 0, .int .i64 0, .int .i64 0, .int .i64 0, .int .i64 0, .int .i64 0, .int .i64 0, .int .i64 0, .int .i64 0, .int .i64 0, .int .i64 0, .int .i64 0] 26)
          have hnew : RcAt (W2.alloc (.cells #[.int .i64 0, .int .i64 0, .int .i64 0, .int .i64 0, .int .i64 0, .string ⟨#[]⟩, .int .i64 0, .int .i64 0, .int .i64 0, .int .i64 0, .int .i64 0, .int .i64 0, .int .i64 0, .int .i64 0, .int .i64 0, .int .i64 0, .int .i64 0, .int .i64 0] 26)) W2.heap.size Rc.none_ := ⟨heap_alloc_new W2 _⟩
          have hS2 : RcAt (W2.alloc (.cells #[.int .i64 0, .int .i64 0, .int .i64 0, .int .i64 0, .int .i64 0, .string ⟨#[]⟩, .int .i64 0, .int .i64 0, .int .i64 0, .int .i64 0, .int .i64 0, .int .i64 0, .int .i64 0, .int .i64 0, .int .i64 0, .int .i64 0, .int .i64 0, .int .i64 0] 26)) g2 r ∧ RcAt (W2.alloc (.cells #[.int .i64 0, .int .i64 0, .int .i64 0, .int .i64 0, .int .i64 0, .string ⟨#[]⟩, .int .i64 0, .int .i64 0, .int .i64 0, .int .i64 0, .int .i64 0, .int .i64 0, .int .i64 0, .int .i64 0, .int .i64 0, .int .i64 0, .int .i64 0, .int .i64 0] 26)) g3 s := ⟨hS.1.on hn, hS.2.on hn⟩
          have BW3 := Lib.hid (BW2.out.trans (hn.mono BW2.out.size))
          have ZW3 := Lib.hid (Nat.le_trans ZW2.out hn.size)
          obtain ⟨gb, hgx⟩ : ∃ gx, gx = W2.heap.size := ⟨_, rfl⟩
          have GB : Hid (z ≤ gb) := by rw [hgx]; exact ZW2.out
          rw [← hgx] at hnew ⊢
          have FB := Lib.hid hnew
          clear hS hn hnew hgx
          have hS := hS2
          clear hS2
          generalize W2.alloc (.cells #[.int .i64 0, .int .i64 0, .int .i64 0, .int .i64 0, .int .i64 0, .string ⟨#[]⟩, .int .i64 0, .int .i64 0, .int .i64 0, .int .i64 0, .int .i64 0, .int .i64 0, .int .i64 0, .int .i64 0, .int .i64 0, .int .i64 0, .int .i64 0, .int .i64 0] 26) = W3 at *
          refine hK.out _ _ hS (fun _ => ?_)
          clear hK K
          try simp only [Act.put, List.setIfInBounds_toArray, List.set_cons_zero, List.set_cons_succ]
          refine rnOne 4 rfl (by kernel_rfl) rfl (fun K hK => ?_)
          have FBp : Hid (gb < W3.heap.size) := FB.out.cs.lt
          go_simp
          have hn := (Below.refl W3.heap.size W3).alloc (Nat.le_refl _) (.cells #[.int .i64 0, .int .i64 0, .int .i64 0, .int .i64 0, .int .i64 0, .string ⟨#[]⟩, .int .i64 0, .int .i64 0, .int .i64 0, .int .i64 0, .int .i64 0, .int .i64 0, .int .i64 0, .int .i64 0, .int .i64 0, .int .i64 0, .int .i64 0, .int .i64 0] 26)
          have hnew : RcAt (W3.alloc (.cells #[.int .i64 0, .int .i64 0, .int .i64 0, .int .i64 0, .int .i64 0, .string ⟨#[]⟩, .int .i64 0, .int .i64 0, .int .i64 0, .int .i64 0, .int .i64 0, .int .i64 0, .int .i64 0, .int .i64 0, .int .i64 0, .int .i64 0, .int .i64 0, .int .i64 0] 26)) W3.heap.size Rc.none_ := ⟨heap_alloc_new W3 _⟩
          have FB := Lib.hid ((FB.out).on hn)
          have hS2 : RcAt (W3.alloc (.cells #[.int .i64 0, .int .i64 0, .int .i64 0, .int .i64 0, .int .i64 0, .string ⟨#[]⟩, .int .i64 0, .int .i64 0, .int .i64 0, .int .i64 0, .int .i64 0, .int .i64 0, .int .i64 0, .int .i64 0, .int .i64 0, .int .i64 0, .int .i64 0, .int .i64 0] 26)) g2 r ∧ RcAt (W3.alloc (.cells #[.int .i64 0, .int .i64 0, .int .i64 0, .int .i64 0, .int .i64 0, .string ⟨#[]⟩, .int .i64 0, .int .i64 0, .int .i64 0, .int .i64 0, .int .i64 0, .int .i64 0, .int .i64 0, .int .i64 0, .int .i64 0, .int .i64 0, .int .i64 0, .int .i64 0] 26)) g3 s := ⟨hS.1.on hn, hS.2.on hn⟩
          have BW4 := Lib.hid (BW3.out.trans (hn.mono BW3.out.size))
          have ZW4 := Lib.hid (Nat.le_trans ZW3.out hn.size)
          have NE : Hid (W3.heap.size ≠ gb) := by have := FBp.out; show _ ≠ _; omega
          obtain ⟨ga, hgx⟩ : ∃ gx, gx = W3.heap.size := ⟨_, rfl⟩
          have GA : Hid (z ≤ ga) := by rw [hgx]; exact ZW3.out
          rw [← hgx] at hnew ⊢
          rw [← hgx] at NE
          have FA := Lib.hid hnew
          clear hS hn hnew hgx
          have hS := hS2
          clear hS2
          generalize W3.alloc (.cells #[.int .i64 0, .int .i64 0, .int .i64 0, .int .i64 0, .int .i64 0, .string ⟨#[]⟩, .int .i64 0, .int .i64 0, .int .i64 0, .int .i64 0, .int .i64 0, .int .i64 0, .int .i64 0, .int .i64 0, .int .i64 0, .int .i64 0, .int .i64 0, .int .i64 0] 26) = W4 at *
          refine hK.out _ _ hS (fun _ => ?_)
          clear hK K
          try simp only [Act.put, List.setIfInBounds_toArray, List.set_cons_zero, List.set_cons_succ]
          refine rnOne 6 rfl (by kernel_rfl) rfl (fun K hK => ?_)
          refine wp_store_row 26 (.tmp 5) (.tmp 14) rfl ga (Rc.cells a) rfl rfl 26 _ FA.out.row (rec_size _) rfl (Rc.one_cell _) ?_
          have FA2 : Hid (RcAt (W4.setRow ga (Rc.cells a)) ga a) := ⟨setRow_heap _ ga _ _ _ _ FA.out.row⟩
          have FB2 : Hid (RcAt (W4.setRow ga (Rc.cells a)) gb _) := ⟨(setRow_other W4 ga gb _ (by have := NE.out; omega)).trans FB.out.row⟩
          have hS2 : RcAt (W4.setRow ga (Rc.cells a)) g2 r ∧ RcAt (W4.setRow ga (Rc.cells a)) g3 s := ⟨⟨(setRow_other W4 ga g2 _ (by have := GA.out; have := HG.out; omega)).trans hS.1.row⟩, ⟨(setRow_other W4 ga g3 _ (by have := GA.out; have := HG.out; omega)).trans hS.2.row⟩⟩
          have BW5 := Lib.hid (below_setRow BW4.out (Nat.le_trans HG.out.2.2 GA.out) (Rc.cells a))
          clear hS FA FB
          have FA := FA2
          have FB := FB2
          have hS := hS2
          clear hS2 FA2 FB2
          generalize W4.setRow ga (Rc.cells a) = W5 at *
          refine hK.out _ _ hS (fun _ => ?_)
          clear hK K
          try simp only [Act.put, List.setIfInBounds_toArray, List.set_cons_zero, List.set_cons_succ]
          refine rnOne 7 rfl (by kernel_rfl) rfl (fun K hK => ?_)
          refine wp_store_row 26 (.tmp 6) (.tmp 16) rfl gb (Rc.cells b) rfl rfl 26 _ FB.out.row (rec_size _) rfl (Rc.one_cell _) ?_
          have FB2 : Hid (RcAt (W5.setRow gb (Rc.cells b)) gb b) := ⟨setRow_heap _ gb _ _ _ _ FB.out.row⟩
          have FA2 : Hid (RcAt (W5.setRow gb (Rc.cells b)) ga _) := ⟨(setRow_other W5 gb ga _ (by have := NE.out; omega)).trans FA.out.row⟩
          have hS2 : RcAt (W5.setRow gb (Rc.cells b)) g2 r ∧ RcAt (W5.setRow gb (Rc.cells b)) g3 s := ⟨⟨(setRow_other W5 gb g2 _ (by have := GB.out; have := HG.out; omega)).trans hS.1.row⟩, ⟨(setRow_other W5 gb g3 _ (by have := GB.out; have := HG.out; omega)).trans hS.2.row⟩⟩
          have BW6 := Lib.hid (below_setRow BW5.out (Nat.le_trans HG.out.2.2 GB.out) (Rc.cells b))
          clear hS FA FB
          have FA := FA2
          have FB := FB2
          have hS := hS2
          clear hS2 FA2 FB2
          generalize W5.setRow gb (Rc.cells b) = W6 at *
          refine hK.out _ _ hS (fun _ => ?_)
          clear hK K
          try simp only [Act.put, List.setIfInBounds_toArray, List.set_cons_zero, List.set_cons_succ]
          refine wpAnyH_done (by kernel_rfl) ?_ _
          go_wp2_with fail
          go_meet
          case rel => exact ⟨ga, gb, rfl, rfl, FA.out, FB.out, BW6.out⟩
      · go_simp
        have hn := (Below.refl W1.heap.size W1).alloc (Nat.le_refl _) (.cells #[.int .i64 0, .int .i64 0, .int .i64 0, .int .i64 0, .int .i64 0, .string ⟨#[]⟩, .int .i64 0, .int .i64 0, .int .i64 0, .int .i64 0, .int .i64 0, .int .i64 0, .int .i64 0, .int .i64 0, .int .i64 0, .int .i64 0, .int .i64 0, .int .i64 0] 26)
        have hnew : RcAt (W1.alloc (.cells #[.int .i64 0, .int .i64 0, .int .i64 0, .int .i64 0, .int .i64 0, .string ⟨#[]⟩, .int .i64 0, .int .i64 0, .int .i64 0, .int .i64 0, .int .i64 0, .int .i64 0, .int .i64 0, .int .i64 0, .int .i64 0, .int .i64 0, .int .i64 0, .int .i64 0] 26)) W1.heap.size Rc.none_ := ⟨heap_alloc_new W1 _⟩
        have hS2 : RcAt (W1.alloc (.cells #[.int .i64 0, .int .i64 0, .int .i64 0, .int .i64 0, .int .i64 0, .string ⟨#[]⟩, .int .i64 0, .int .i64 0, .int .i64 0, .int .i64 0, .int .i64 0, .int .i64 0, .int .i64 0, .int .i64 0, .int .i64 0, .int .i64 0, .int .i64 0, .int .i64 0] 26)) g2 r ∧ RcAt (W1.alloc (.cells #[.int .i64 0, .int .i64 0, .int .i64 0, .int .i64 0, .int .i64 0, .string ⟨#[]⟩, .int .i64 0, .int .i64 0, .int .i64 0, .int .i64 0, .int .i64 0, .int .i64 0, .int .i64 0, .int .i64 0, .int .i64 0, .int .i64 0, .int .i64 0, .int .i64 0] 26)) g3 s := ⟨hS.1.on hn, hS.2.on hn⟩
        have BW2 := Lib.hid (BW1.out.trans (hn.mono BW1.out.size))
        have ZW2 := Lib.hid (Nat.le_trans ZW1.out hn.size)
        obtain ⟨ga, hgx⟩ : ∃ gx, gx = W1.heap.size := ⟨_, rfl⟩
        have GA : Hid (z ≤ ga) := by rw [hgx]; exact ZW1.out
        rw [← hgx] at hnew ⊢
        have FA := Lib.hid hnew
        clear hS hn hnew hgx
        have hS := hS2
        clear hS2
        generalize W1.alloc (.cells #[.int .i64 0, .int .i64 0, .int .i64 0, .int .i64 0, .int .i64 0, .string ⟨#[]⟩, .int .i64 0, .int .i64 0, .int .i64 0, .int .i64 0, .int .i64 0, .int .i64 0, .int .i64 0, .int .i64 0, .int .i64 0, .int .i64 0, .int .i64 0, .int .i64 0] 26) = W2 at *
        refine hK.out _ _ hS (fun _ => ?_)
        clear hK K
        try simp only [Act.put, List.setIfInBounds_toArray, List.set_cons_zero, List.set_cons_succ]
        refine rnTwo 3 5 rfl rfl (by kernel_rfl) rfl rfl (fun K hK => ?_) (fun K hK => ?_) 
        · go_simp
          with_reducible refine (G2.out _).mono ?_
          rintro en W3 ⟨rfl, hb⟩
          have FA := Lib.hid ((FA.out).on hb)
          have hS2 : RcAt W3 g2 r ∧ RcAt W3 g3 s := ⟨hS.1.on hb, hS.2.on hb⟩
          have BW3 := Lib.hid (BW2.out.trans (hb.mono BW2.out.size))
          have ZW3 := Lib.hid (Nat.le_trans ZW2.out hb.size)
          clear hS hb
          have hS := hS2
          clear hS2
          refine hK.out _ _ hS (fun _ => ?_)
          clear hK K
          try simp only [Act.put, List.setIfInBounds_toArray, List.set_cons_zero, List.set_cons_succ]
          refine rnOne 5 rfl (by kernel_rfl) rfl (fun K hK => ?_)
          have FAp : Hid (ga < W3.heap.size) := FA.out.cs.lt
          go_simp
          have hn := (Below.refl W3.heap.size W3).alloc (Nat.le_refl _) (.cells #[.int .i64 0, .int .i64 0, .int .i64 0, .int .i64 0, .int .i64 0, .string ⟨#[]⟩, .int .i64 0, .int .i64 0, .int .i64 0, .int .i64 0, .int .i64 0, .int .i64 0, .int .i64 0, .int .i64 0, .int .i64 0, .int .i64 0, .int .i64 0, .int .i64 0] 26)
          have hnew : RcAt (W3.alloc (.cells #[.int .i64 0, .int .i64 0, .int .i64 0, .int .i64 0, .int .i64 0, .string ⟨#[]⟩, .int .i64 0, .int .i64 0, .int .i64 0, .int .i64 0, .int .i64 0, .int .i64 0, .int .i64 0, .int .i64 0, .int .i64 0, .int .i64 0, .int .i64 0, .int .i64 0] 26)) W3.heap.size Rc.none_ := ⟨heap_alloc_new W3 _⟩
          have FA := Lib.hid ((FA.out).on hn)
          have hS2 : RcAt (W3.alloc (.cells #[.int .i64 0, .int .i64 0, .int .i64 0, .int .i64 0, .int .i64 0, .string ⟨#[]⟩, .int .i64 0, .int .i64 0, .int .i64 0, .int .i64 0, .int .i64 0, .int .i64 0, .int .i64 0, .int .i64 0, .int .i64 0, .int .i64 0, .int .i64 0, .int .i64 0] 26)) g2 r ∧ RcAt (W3.alloc (.cells #[.int .i64 0, .int .i64 0, .int .i64 0, .int .i64 0, .int .i64 0, .string ⟨#[]⟩, .int .i64 0, .int .i64 0, .int .i64 0, .int .i64 0, .int .i64 0, .int .i64 0, .int .i64 0, .int .i64 0, .int .i64 0, .int .i64 0, .int .i64 0, .int .i64 0] 26)) g3 s := ⟨hS.1.on hn, hS.2.on hn⟩
          have BW4 := Lib.hid (BW3.out.trans (hn.mono BW3.out.size))
          have ZW4 := Lib.hid (Nat.le_trans ZW3.out hn.size)
          have NE : Hid (W3.heap.size ≠ ga) := by have := FAp.out; show _ ≠ _; omega
          obtain ⟨gb, hgx⟩ : ∃ gx, gx = W3.heap.size := ⟨_, rfl⟩
          have GB : Hid (z ≤ gb) := by rw [hgx]; exact ZW3.out
          rw [← hgx] at hnew ⊢
          rw [← hgx] at NE
          have FB := Lib.hid hnew
          clear hS hn hnew hgx
          have hS := hS2
          clear hS2
          generalize W3.alloc (.cells #[.int .i64 0, .int .i64 0, .int .i64 0, .int .i64 0, .int .i64 0, .string ⟨#[]⟩, .int .i64 0, .int .i64 0, .int .i64 0, .int .i64 0, .int .i64 0, .int .i64 0, .int .i64 0, .int .i64 0, .int .i64 0, .int .i64 0, .int .i64 0, .int .i64 0] 26) = W4 at *
          refine hK.out _ _ hS (fun _ => ?_)
          clear hK K
          try simp only [Act.put, List.setIfInBounds_toArray, List.set_cons_zero, List.set_cons_succ]
          refine rnOne 6 rfl (by kernel_rfl) rfl (fun K hK => ?_)
          refine wp_store_row 26 (.tmp 5) (.tmp 14) rfl ga (Rc.cells a) rfl rfl 26 _ FA.out.row (rec_size _) rfl (Rc.one_cell _) ?_
          have FA2 : Hid (RcAt (W4.setRow ga (Rc.cells a)) ga a) := ⟨setRow_heap _ ga _ _ _ _ FA.out.row⟩
          have FB2 : Hid (RcAt (W4.setRow ga (Rc.cells a)) gb _) := ⟨(setRow_other W4 ga gb _ (by have := NE.out; omega)).trans FB.out.row⟩
          have hS2 : RcAt (W4.setRow ga (Rc.cells a)) g2 r ∧ RcAt (W4.setRow ga (Rc.cells a)) g3 s := ⟨⟨(setRow_other W4 ga g2 _ (by have := GA.out; have := HG.out; omega)).trans hS.1.row⟩, ⟨(setRow_other W4 ga g3 _ (by have := GA.out; have := HG.out; omega)).trans hS.2.row⟩⟩
          have BW5 := Lib.hid (below_setRow BW4.out (Nat.le_trans HG.out.2.2 GA.out) (Rc.cells a))
          clear hS FA FB
          have FA := FA2
          have FB := FB2
          have hS := hS2
          clear hS2 FA2 FB2
          generalize W4.setRow ga (Rc.cells a) = W5 at *
          refine hK.out _ _ hS (fun _ => ?_)
          clear hK K
          try simp only [Act.put, List.setIfInBounds_toArray, List.set_cons_zero, List.set_cons_succ]
          refine rnOne 7 rfl (by kernel_rfl) rfl (fun K hK => ?_)
          refine wp_store_row 26 (.tmp 6) (.tmp 16) rfl gb (Rc.cells b) rfl rfl 26 _ FB.out.row (rec_size _) rfl (Rc.one_cell _) ?_
          have FB2 : Hid (RcAt (W5.setRow gb (Rc.cells b)) gb b) := ⟨setRow_heap _ gb _ _ _ _ FB.out.row⟩
          have FA2 : Hid (RcAt (W5.setRow gb (Rc.cells b)) ga _) := ⟨(setRow_other W5 gb ga _ (by have := NE.out; omega)).trans FA.out.row⟩
          have hS2 : RcAt (W5.setRow gb (Rc.cells b)) g2 r ∧ RcAt (W5.setRow gb (Rc.cells b)) g3 s := ⟨⟨(setRow_other W5 gb g2 _ (by have := GB.out; have := HG.out; omega)).trans hS.1.row⟩, ⟨(setRow_other W5 gb g3 _ (by have := GB.out; have := HG.out; omega)).trans hS.2.row⟩⟩
          have BW6 := Lib.hid (below_setRow BW5.out (Nat.le_trans HG.out.2.2 GB.out) (Rc.cells b))
          clear hS FA FB
          have FA := FA2
          have FB := FB2
          have hS := hS2
          clear hS2 FA2 FB2
          generalize W5.setRow gb (Rc.cells b) = W6 at *
          refine hK.out _ _ hS (fun _ => ?_)
          clear hK K
          try simp only [Act.put, List.setIfInBounds_toArray, List.set_cons_zero, List.set_cons_succ]
          refine wpAnyH_done (by kernel_rfl) ?_ _
          go_wp2_with fail
          go_meet
          case rel => exact ⟨ga, gb, rfl, rfl, FA.out, FB.out, BW6.out⟩
        · have FAp : Hid (ga < W2.heap.size) := FA.out.cs.lt
          go_simp
          have hn := (Below.refl W2.heap.size W2).alloc (Nat.le_refl _) (.cells #[.int .i64 0, .int .i64 0, .int .i64 0, .int .i64 0, .int .i64 0, .string ⟨#[]⟩, .int .i64 0, .int .i64 0, .int .i64 0, .int .i64 0, .int .i64 0, .int .i64 0, .int .i64 0, .int .i64 0, .int .i64 0, .int .i64 0, .int .i64 0, .int .i64 0] 26)
          have hnew : RcAt (W2.alloc (.cells #[.int .i64 0, .int .i64 0, .int .i64 0, .int .i64 0, .int .i64 0, .string ⟨#[]⟩, .int .i64 0, .int .i64 0, .int .i64 0, .int .i64 0, .int .i64 0, .int .i64 0, .int .i64 0, .int .i64 0, .int .i64 0, .int .i64 0, .int .i64 0, .int .i64 0] 26)) W2.heap.size Rc.none_ := ⟨heap_alloc_new W2 _⟩
          have FA := Lib.hid ((FA.out).on hn)
          have hS2 : RcAt (W2.alloc (.cells #[.int .i64 0, .int .i64 0, .int .i64 0, .int .i64 0, .int .i64 0, .string ⟨#[]⟩, .int .i64 0, .int .i64 0, .int .i64 0, .int .i64 0, .int .i64 0, .int .i64 0, .int .i64 0, .int .i64 0, .int .i64 0, .int .i64 0, .int .i64 0, .int .i64 0] 26)) g2 r ∧ RcAt (W2.alloc (.cells #[.int .i64 0, .int .i64 0, .int .i64 0, .int .i64 0, .int .i64 0, .string ⟨#[]⟩, .int .i64 0, .int .i64 0, .int .i64 0, .int .i64 0, .int .i64 0, .int .i64 0, .int .i64 0, .int .i64 0, .int .i64 0, .int .i64 0, .int .i64 0, .int .i64 0] 26)) g3 s := ⟨hS.1.on hn, hS.2.on hn⟩
          have BW3 := Lib.hid (BW2.out.trans (hn.mono BW2.out.size))
          have ZW3 := Lib.hid (Nat.le_trans ZW2.out hn.size)
          have NE : Hid (W2.heap.size ≠ ga) := by have := FAp.out; show _ ≠ _; omega
          obtain ⟨gb, hgx⟩ : ∃ gx, gx = W2.heap.size := ⟨_, rfl⟩
          have GB : Hid (z ≤ gb) := by rw [hgx]; exact ZW2.out
          rw [← hgx] at hnew ⊢
          rw [← hgx] at NE
          have FB := Lib.hid hnew
          clear hS hn hnew hgx
          have hS := hS2
          clear hS2
          generalize W2.alloc (.cells #[.int .i64 0, .int .i64 0, .int .i64 0, .int .i64 0, .int .i64 0, .string ⟨#[]⟩, .int .i64 0, .int .i64 0, .int .i64 0, .int .i64 0, .int .i64 0, .int .i64 0, .int .i64 0, .int .i64 0, .int .i64 0, .int .i64 0, .int .i64 0, .int .i64 0] 26) = W3 at *
          refine hK.out _ _ hS (fun _ => ?_)
          clear hK K
          try simp only [Act.put, List.setIfInBounds_toArray, List.set_cons_zero, List.set_cons_succ]
          refine rnOne 3 rfl (by kernel_rfl) rfl (fun K hK => ?_)
          go_simp
          with_reducible refine (G2.out _).mono ?_
          rintro en W4 ⟨rfl, hb⟩
          have FA := Lib.hid ((FA.out).on hb)
          have FB := Lib.hid ((FB.out).on hb)
          have hS2 : RcAt W4 g2 r ∧ RcAt W4 g3 s := ⟨hS.1.on hb, hS.2.on hb⟩
          have BW4 := Lib.hid (BW3.out.trans (hb.mono BW3.out.size))
          have ZW4 := Lib.hid (Nat.le_trans ZW3.out hb.size)
          clear hS hb
          have hS := hS2
          clear hS2
          refine hK.out _ _ hS (fun _ => ?_)
          clear hK K
          try simp only [Act.put, List.setIfInBounds_toArray, List.set_cons_zero, List.set_cons_succ]
          refine rnOne 6 rfl (by kernel_rfl) rfl (fun K hK => ?_)
          refine wp_store_row 26 (.tmp 5) (.tmp 14) rfl ga (Rc.cells a) rfl rfl 26 _ FA.out.row (rec_size _) rfl (Rc.one_cell _) ?_
          have FA2 : Hid (RcAt (W4.setRow ga (Rc.cells a)) ga a) := ⟨setRow_heap _ ga _ _ _ _ FA.out.row⟩
          have FB2 : Hid (RcAt (W4.setRow ga (Rc.cells a)) gb _) := ⟨(setRow_other W4 ga gb _ (by have := NE.out; omega)).trans FB.out.row⟩
          have hS2 : RcAt (W4.setRow ga (Rc.cells a)) g2 r ∧ RcAt (W4.setRow ga (Rc.cells a)) g3 s := ⟨⟨(setRow_other W4 ga g2 _ (by have := GA.out; have := HG.out; omega)).trans hS.1.row⟩, ⟨(setRow_other W4 ga g3 _ (by have := GA.out; have := HG.out; omega)).trans hS.2.row⟩⟩
          have BW5 := Lib.hid (below_setRow BW4.out (Nat.le_trans HG.out.2.2 GA.out) (Rc.cells a))
          clear hS FA FB
          have FA := FA2
          have FB := FB2
          have hS := hS2
          clear hS2 FA2 FB2
          generalize W4.setRow ga (Rc.cells a) = W5 at *
          refine hK.out _ _ hS (fun _ => ?_)
          clear hK K
          try simp only [Act.put, List.setIfInBounds_toArray, List.set_cons_zero, List.set_cons_succ]
          refine rnOne 7 rfl (by kernel_rfl) rfl (fun K hK => ?_)
          refine wp_store_row 26 (.tmp 6) (.tmp 16) rfl gb (Rc.cells b) rfl rfl 26 _ FB.out.row (rec_size _) rfl (Rc.one_cell _) ?_
          have FB2 : Hid (RcAt (W5.setRow gb (Rc.cells b)) gb b) := ⟨setRow_heap _ gb _ _ _ _ FB.out.row⟩
          have FA2 : Hid (RcAt (W5.setRow gb (Rc.cells b)) ga _) := ⟨(setRow_other W5 gb ga _ (by have := NE.out; omega)).trans FA.out.row⟩
          have hS2 : RcAt (W5.setRow gb (Rc.cells b)) g2 r ∧ RcAt (W5.setRow gb (Rc.cells b)) g3 s := ⟨⟨(setRow_other W5 gb g2 _ (by have := GB.out; have := HG.out; omega)).trans hS.1.row⟩, ⟨(setRow_other W5 gb g3 _ (by have := GB.out; have := HG.out; omega)).trans hS.2.row⟩⟩
          have BW6 := Lib.hid (below_setRow BW5.out (Nat.le_trans HG.out.2.2 GB.out) (Rc.cells b))
          clear hS FA FB
          have FA := FA2
          have FB := FB2
          have hS := hS2
          clear hS2 FA2 FB2
          generalize W5.setRow gb (Rc.cells b) = W6 at *
          refine hK.out _ _ hS (fun _ => ?_)
          clear hK K
          try simp only [Act.put, List.setIfInBounds_toArray, List.set_cons_zero, List.set_cons_succ]
          refine wpAnyH_done (by kernel_rfl) ?_ _
          go_wp2_with fail
          go_meet
          case rel => exact ⟨ga, gb, rfl, rfl, FA.out, FB.out, BW6.out⟩
      · go_simp
        have hn := (Below.refl W1.heap.size W1).alloc (Nat.le_refl _) (.cells #[.int .i64 0, .int .i64 0, .int .i64 0, .int .i64 0, .int .i64 0, .string ⟨#[]⟩, .int .i64 0, .int .i64 0, .int .i64 0, .int .i64 0, .int .i64 0, .int .i64 0, .int .i64 0, .int .i64 0, .int .i64 0, .int .i64 0, .int .i64 0, .int .i64 0] 26)
        have hnew : RcAt (W1.alloc (.cells #[.int .i64 0, .int .i64 0, .int .i64 0, .int .i64 0, .int .i64 0, .string ⟨#[]⟩, .int .i64 0, .int .i64 0, .int .i64 0, .int .i64 0, .int .i64 0, .int .i64 0, .int .i64 0, .int .i64 0, .int .i64 0, .int .i64 0, .int .i64 0, .int .i64 0] 26)) W1.heap.size Rc.none_ := ⟨heap_alloc_new W1 _⟩
        have hS2 : RcAt (W1.alloc (.cells #[.int .i64 0, .int .i64 0, .int .i64 0, .int .i64 0, .int .i64 0, .string ⟨#[]⟩, .int .i64 0, .int .i64 0, .int .i64 0, .int .i64 0, .int .i64 0, .int .i64 0, .int .i64 0, .int .i64 0, .int .i64 0, .int .i64 0, .int .i64 0, .int .i64 0] 26)) g2 r ∧ RcAt (W1.alloc (.cells #[.int .i64 0, .int .i64 0, .int .i64 0, .int .i64 0, .int .i64 0, .string ⟨#[]⟩, .int .i64 0, .int .i64 0, .int .i64 0, .int .i64 0, .int .i64 0, .int .i64 0, .int .i64 0, .int .i64 0, .int .i64 0, .int .i64 0, .int .i64 0, .int .i64 0] 26)) g3 s := ⟨hS.1.on hn, hS.2.on hn⟩
        have BW2 := Lib.hid (BW1.out.trans (hn.mono BW1.out.size))
        have ZW2 := Lib.hid (Nat.le_trans ZW1.out hn.size)
        obtain ⟨gb, hgx⟩ : ∃ gx, gx = W1.heap.size := ⟨_, rfl⟩
        have GB : Hid (z ≤ gb) := by rw [hgx]; exact ZW1.out
        rw [← hgx] at hnew ⊢
        have FB := Lib.hid hnew
        clear hS hn hnew hgx
        have hS := hS2
        clear hS2
        generalize W1.alloc (.cells #[.int .i64 0, .int .i64 0, .int .i64 0, .int .i64 0, .int .i64 0, .string ⟨#[]⟩, .int .i64 0, .int .i64 0, .int .i64 0, .int .i64 0, .int .i64 0, .int .i64 0, .int .i64 0, .int .i64 0, .int .i64 0, .int .i64 0, .int .i64 0, .int .i64 0] 26) = W2 at *
        refine hK.out _ _ hS (fun _ => ?_)
        clear hK K
        try simp only [Act.put, List.setIfInBounds_toArray, List.set_cons_zero, List.set_cons_succ]
        refine rnTwo 3 4 rfl rfl (by kernel_rfl) rfl rfl (fun K hK => ?_) (fun K hK => ?_) 
        · go_simp
          with_reducible refine (G2.out _).mono ?_
          rintro en W3 ⟨rfl, hb⟩
          have FB := Lib.hid ((FB.out).on hb)
          have hS2 : RcAt W3 g2 r ∧ RcAt W3 g3 s := ⟨hS.1.on hb, hS.2.on hb⟩
          have BW3 := Lib.hid (BW2.out.trans (hb.mono BW2.out.size))
          have ZW3 := Lib.hid (Nat.le_trans ZW2.out hb.size)
          clear hS hb
          have hS := hS2
          clear hS2
          refine hK.out _ _ hS (fun _ => ?_)
          clear hK K
          try simp only [Act.put, List.setIfInBounds_toArray, List.set_cons_zero, List.set_cons_succ]
          refine rnOne 4 rfl (by kernel_rfl) rfl (fun K hK => ?_)
          have FBp : Hid (gb < W3.heap.size) := FB.out.cs.lt
          go_simp
          have hn := (Below.refl W3.heap.size W3).alloc (Nat.le_refl _) (.cells #[.int .i64 0, .int .i64 0, .int .i64 0, .int .i64 0, .int .i64 0, .string ⟨#[]⟩, .int .i64 0, .int .i64 0, .int .i64 0, .int .i64 0, .int .i64 0, .int .i64 0, .int .i64 0, .int .i64 0, .int .i64 0, .int .i64 0, .int .i64 0, .int .i64 0] 26)
          have hnew : RcAt (W3.alloc (.cells #[.int .i64 0, .int .i64 0, .int .i64 0, .int .i64 0, .int .i64 0, .string ⟨#[]⟩, .int .i64 0, .int .i64 0, .int .i64 0, .int .i64 0, .int .i64 0, .int .i64 0, .int .i64 0, .int .i64 0, .int .i64 0, .int .i64 0, .int .i64 0, .int .i64 0] 26)) W3.heap.size Rc.none_ := ⟨heap_alloc_new W3 _⟩
          have FB := Lib.hid ((FB.out).on hn)
          have hS2 : RcAt (W3.alloc (.cells #[.int .i64 0, .int .i64 0, .int .i64 0, .int .i64 0, .int .i64 0, .string ⟨#[]⟩, .int .i64 0, .int .i64 0, .int .i64 0, .int .i64 0, .int .i64 0, .int .i64 0, .int .i64 0, .int .i64 0, .int .i64 0, .int .i64 0, .int .i64 0, .int .i64 0] 26)) g2 r ∧ RcAt (W3.alloc (.cells #[.int .i64 0, .int .i64 0, .int .i64 0, .int .i64 0, .int .i64 0, .string ⟨#[]⟩, .int .i64 0, .int .i64 0, .int .i64 0, .int .i64 0, .int .i64 0, .int .i64 0, .int .i64 0, .int .i64 0, .int .i64 0, .int .i64 0, .int .i64 0, .int .i64 0] 26)) g3 s := ⟨hS.1.on hn, hS.2.on hn⟩
          have BW4 := Lib.hid (BW3.out.trans (hn.mono BW3.out.size))
          have ZW4 := Lib.hid (Nat.le_trans ZW3.out hn.size)
          have NE : Hid (W3.heap.size ≠ gb) := by have := FBp.out; show _ ≠ _; omega
          obtain ⟨ga, hgx⟩ : ∃ gx, gx = W3.heap.size := ⟨_, rfl⟩
          have GA : Hid (z ≤ ga) := by rw [hgx]; exact ZW3.out
          rw [← hgx] at hnew ⊢
          rw [← hgx] at NE
          have FA := Lib.hid hnew
          clear hS hn hnew hgx
          have hS := hS2
          clear hS2
          generalize W3.alloc (.cells #[.int .i64 0, .int .i64 0, .int .i64 0, .int .i64 0, .int .i64 0, .string ⟨#[]⟩, .int .i64 0, .int .i64 0, .int .i64 0, .int .i64 0, .int .i64 0, .int .i64 0, .int .i64 0, .int .i64 0, .int .i64 0, .int .i64 0, .int .i64 0, .int .i64 0] 26) = W4 at *
          refine hK.out _ _ hS (fun _ => ?_)
          clear hK K
          try simp only [Act.put, List.setIfInBounds_toArray, List.set_cons_zero, List.set_cons_succ]
          refine rnOne 6 rfl (by kernel_rfl) rfl (fun K hK => ?_)
          refine wp_store_row 26 (.tmp 5) (.tmp 14) rfl ga (Rc.cells a) rfl rfl 26 _ FA.out.row (rec_size _) rfl (Rc.one_cell _) ?_
          have FA2 : Hid (RcAt (W4.setRow ga (Rc.cells a)) ga a) := ⟨setRow_heap _ ga _ _ _ _ FA.out.row⟩
          have FB2 : Hid (RcAt (W4.setRow ga (Rc.cells a)) gb _) := ⟨(setRow_other W4 ga gb _ (by have := NE.out; omega)).trans FB.out.row⟩
          have hS2 : RcAt (W4.setRow ga (Rc.cells a)) g2 r ∧ RcAt (W4.setRow ga (Rc.cells a)) g3 s := ⟨⟨(setRow_other W4 ga g2 _ (by have := GA.out; have := HG.out; omega)).trans hS.1.row⟩, ⟨(setRow_other W4 ga g3 _ (by have := GA.out; have := HG.out; omega)).trans hS.2.row⟩⟩
          have BW5 := Lib.hid (below_setRow BW4.out (Nat.le_trans HG.out.2.2 GA.out) (Rc.cells a))
          clear hS FA FB
          have FA := FA2
          have FB := FB2
          have hS := hS2
          clear hS2 FA2 FB2
          generalize W4.setRow ga (Rc.cells a) = W5 at *
          refine hK.out _ _ hS (fun _ => ?_)
          clear hK K
          try simp only [Act.put, List.setIfInBounds_toArray, List.set_cons_zero, List.set_cons_succ]
          refine rnOne 7 rfl (by kernel_rfl) rfl (fun K hK => ?_)
          refine wp_store_row 26 (.tmp 6) (.tmp 16) rfl gb (Rc.cells b) rfl rfl 26 _ FB.out.row (rec_size _) rfl (Rc.one_cell _) ?_
          have FB2 : Hid (RcAt (W5.setRow gb (Rc.cells b)) gb b) := ⟨setRow_heap _ gb _ _ _ _ FB.out.row⟩
          have FA2 : Hid (RcAt (W5.setRow gb (Rc.cells b)) ga _) := ⟨(setRow_other W5 gb ga _ (by have := NE.out; omega)).trans FA.out.row⟩
          have hS2 : RcAt (W5.setRow gb (Rc.cells b)) g2 r ∧ RcAt (W5.setRow gb (Rc.cells b)) g3 s := ⟨⟨(setRow_other W5 gb g2 _ (by have := GB.out; have := HG.out; omega)).trans hS.1.row⟩, ⟨(setRow_other W5 gb g3 _ (by have := GB.out; have := HG.out; omega)).trans hS.2.row⟩⟩
          have BW6 := Lib.hid (below_setRow BW5.out (Nat.le_trans HG.out.2.2 GB.out) (Rc.cells b))
          clear hS FA FB
          have FA := FA2
          have FB := FB2
          have hS := hS2
          clear hS2 FA2 FB2
          generalize W5.setRow gb (Rc.cells b) = W6 at *
          refine hK.out _ _ hS (fun _ => ?_)
          clear hK K
          try simp only [Act.put, List.setIfInBounds_toArray, List.set_cons_zero, List.set_cons_succ]
          refine wpAnyH_done (by kernel_rfl) ?_ _
          go_wp2_with fail
          go_meet
          case rel => exact ⟨ga, gb, rfl, rfl, FA.out, FB.out, BW6.out⟩
        · have FBp : Hid (gb < W2.heap.size) := FB.out.cs.lt
          go_simp
          have hn := (Below.refl W2.heap.size W2).alloc (Nat.le_refl _) (.cells #[.int .i64 0, .int .i64 0, .int .i64 0, .int .i64 0, .int .i64 0, .string ⟨#[]⟩, .int .i64 0, .int .i64 0, .int .i64 0, .int .i64 0, .int .i64 0, .int .i64 0, .int .i64 0, .int .i64 0, .int .i64 0, .int .i64 0, .int .i64 0, .int .i64 0] 26)
          have hnew : RcAt (W2.alloc (.cells #[.int .i64 0, .int .i64 0, .int .i64 0, .int .i64 0, .int .i64 0, .string ⟨#[]⟩, .int .i64 0, .int .i64 0, .int .i64 0, .int .i64 0, .int .i64 0, .int .i64 0, .int .i64 0, .int .i64 0, .int .i64 0, .int .i64 0, .int .i64 0, .int .i64 0] 26)) W2.heap.size Rc.none_ := ⟨heap_alloc_new W2 _⟩
          have FB := Lib.hid ((FB.out).on hn)
          have hS2 : RcAt (W2.alloc (.cells #[.int .i64 0, .int .i64 0, .int .i64 0, .int .i64 0, .int .i64 0, .string ⟨#[]⟩, .int .i64 0, .int .i64 0, .int .i64 0, .int .i64 0, .int .i64 0, .int .i64 0, .int .i64 0, .int .i64 0, .int .i64 0, .int .i64 0, .int .i64 0, .int .i64 0] 26)) g2 r ∧ RcAt (W2.alloc (.cells #[.int .i64 0, .int .i64 0, .int .i64 0, .int .i64 0, .int .i64 0, .string ⟨#[]⟩, .int .i64 0, .int .i64 0, .int .i64 0, .int .i64 0, .int .i64 0, .int .i64 0, .int .i64 0, .int .i64 0, .int .i64 0, .int .i64 0, .int .i64 0, .int .i64 0] 26)) g3 s := ⟨hS.1.on hn, hS.2.on hn⟩
          have BW3 := Lib.hid (BW2.out.trans (hn.mono BW2.out.size))
          have ZW3 := Lib.hid (Nat.le_trans ZW2.out hn.size)
          have NE : Hid (W2.heap.size ≠ gb) := by have := FBp.out; show _ ≠ _; omega
          obtain ⟨ga, hgx⟩ : ∃ gx, gx = W2.heap.size := ⟨_, rfl⟩
          have GA : Hid (z ≤ ga) := by rw [hgx]; exact ZW2.out
          rw [← hgx] at hnew ⊢
          rw [← hgx] at NE
          have FA := Lib.hid hnew
          clear hS hn hnew hgx
          have hS := hS2
          clear hS2
          generalize W2.alloc (.cells #[.int .i64 0, .int .i64 0, .int .i64 0, .int .i64 0, .int .i64 0, .string ⟨#[]⟩, .int .i64 0, .int .i64 0, .int .i64 0, .int .i64 0, .int .i64 0, .int .i64 0, .int .i64 0, .int .i64 0, .int .i64 0, .int .i64 0, .int .i64 0, .int .i64 0] 26) = W3 at *
          refine hK.out _ _ hS (fun _ => ?_)
          clear hK K
          try simp only [Act.put, List.setIfInBounds_toArray, List.set_cons_zero, List.set_cons_succ]
          refine rnOne 3 rfl (by kernel_rfl) rfl (fun K hK => ?_)
          go_simp
          with_reducible refine (G2.out _).mono ?_
          rintro en W4 ⟨rfl, hb⟩
          have FA := Lib.hid ((FA.out).on hb)
          have FB := Lib.hid ((FB.out).on hb)
          have hS2 : RcAt W4 g2 r ∧ RcAt W4 g3 s := ⟨hS.1.on hb, hS.2.on hb⟩
          have BW4 := Lib.hid (BW3.out.trans (hb.mono BW3.out.size))
          have ZW4 := Lib.hid (Nat.le_trans ZW3.out hb.size)
          clear hS hb
          have hS := hS2
          clear hS2
          refine hK.out _ _ hS (fun _ => ?_)
          clear hK K
          try simp only [Act.put, List.setIfInBounds_toArray, List.set_cons_zero, List.set_cons_succ]
          refine rnOne 6 rfl (by kernel_rfl) rfl (fun K hK => ?_)
          refine wp_store_row 26 (.tmp 5) (.tmp 14) rfl ga (Rc.cells a) rfl rfl 26 _ FA.out.row (rec_size _) rfl (Rc.one_cell _) ?_
          have FA2 : Hid (RcAt (W4.setRow ga (Rc.cells a)) ga a) := ⟨setRow_heap _ ga _ _ _ _ FA.out.row⟩
          have FB2 : Hid (RcAt (W4.setRow ga (Rc.cells a)) gb _) := ⟨(setRow_other W4 ga gb _ (by have := NE.out; omega)).trans FB.out.row⟩
          have hS2 : RcAt (W4.setRow ga (Rc.cells a)) g2 r ∧ RcAt (W4.setRow ga (Rc.cells a)) g3 s := ⟨⟨(setRow_other W4 ga g2 _ (by have := GA.out; have := HG.out; omega)).trans hS.1.row⟩, ⟨(setRow_other W4 ga g3 _ (by have := GA.out; have := HG.out; omega)).trans hS.2.row⟩⟩
          have BW5 := Lib.hid (below_setRow BW4.out (Nat.le_trans HG.out.2.2 GA.out) (Rc.cells a))
          clear hS FA FB
          have FA := FA2
          have FB := FB2
          have hS := hS2
          clear hS2 FA2 FB2
          generalize W4.setRow ga (Rc.cells a) = W5 at *
          refine hK.out _ _ hS (fun _ => ?_)
          clear hK K
          try simp only [Act.put, List.setIfInBounds_toArray, List.set_cons_zero, List.set_cons_succ]
          refine rnOne 7 rfl (by kernel_rfl) rfl (fun K hK => ?_)
          refine wp_store_row 26 (.tmp 6) (.tmp 16) rfl gb (Rc.cells b) rfl rfl 26 _ FB.out.row (rec_size _) rfl (Rc.one_cell _) ?_
          have FB2 : Hid (RcAt (W5.setRow gb (Rc.cells b)) gb b) := ⟨setRow_heap _ gb _ _ _ _ FB.out.row⟩
          have FA2 : Hid (RcAt (W5.setRow gb (Rc.cells b)) ga _) := ⟨(setRow_other W5 gb ga _ (by have := NE.out; omega)).trans FA.out.row⟩
          have hS2 : RcAt (W5.setRow gb (Rc.cells b)) g2 r ∧ RcAt (W5.setRow gb (Rc.cells b)) g3 s := ⟨⟨(setRow_other W5 gb g2 _ (by have := GB.out; have := HG.out; omega)).trans hS.1.row⟩, ⟨(setRow_other W5 gb g3 _ (by have := GB.out; have := HG.out; omega)).trans hS.2.row⟩⟩
          have BW6 := Lib.hid (below_setRow BW5.out (Nat.le_trans HG.out.2.2 GB.out) (Rc.cells b))
          clear hS FA FB
          have FA := FA2
          have FB := FB2
          have hS := hS2
          clear hS2 FA2 FB2
          generalize W5.setRow gb (Rc.cells b) = W6 at *
          refine hK.out _ _ hS (fun _ => ?_)
          clear hK K
          try simp only [Act.put, List.setIfInBounds_toArray, List.set_cons_zero, List.set_cons_succ]
          refine wpAnyH_done (by kernel_rfl) ?_ _
          go_wp2_with fail
          go_meet
          case rel => exact ⟨ga, gb, rfl, rfl, FA.out, FB.out, BW6.out⟩
    · go_simp
      have hn := (Below.refl W0.heap.size W0).alloc (Nat.le_refl _) (.cells #[.int .i64 0, .int .i64 0, .int .i64 0, .int .i64 0, .int .i64 0, .string ⟨#[]⟩, .int .i64 0, .int .i64 0, .int .i64 0, .int .i64 0, .int .i64 0, .int .i64 0, .int .i64 0, .int .i64 0, .int .i64 0, .int .i64 0, .int .i64 0, .int .i64 0] 26)
      have hnew : RcAt (W0.alloc (.cells #[.int .i64 0, .int .i64 0, .int .i64 0, .int .i64 0, .int .i64 0, .string ⟨#[]⟩, .int .i64 0, .int .i64 0, .int .i64 0, .int .i64 0, .int .i64 0, .int .i64 0, .int .i64 0, .int .i64 0, .int .i64 0, .int .i64 0, .int .i64 0, .int .i64 0] 26)) W0.heap.size Rc.none_ := ⟨heap_alloc_new W0 _⟩
      have hS2 : RcAt (W0.alloc (.cells #[.int .i64 0, .int .i64 0, .int .i64 0, .int .i64 0, .int .i64 0, .string ⟨#[]⟩, .int .i64 0, .int .i64 0, .int .i64 0, .int .i64 0, .int .i64 0, .int .i64 0, .int .i64 0, .int .i64 0, .int .i64 0, .int .i64 0, .int .i64 0, .int .i64 0] 26)) g2 r ∧ RcAt (W0.alloc (.cells #[.int .i64 0, .int .i64 0, .int .i64 0, .int .i64 0, .int .i64 0, .string ⟨#[]⟩, .int .i64 0, .int .i64 0, .int .i64 0, .int .i64 0, .int .i64 0, .int .i64 0, .int .i64 0, .int .i64 0, .int .i64 0, .int .i64 0, .int .i64 0, .int .i64 0] 26)) g3 s := ⟨hS.1.on hn, hS.2.on hn⟩
      have BW1 := Lib.hid (BW0.out.trans (hn.mono BW0.out.size))
      have ZW1 := Lib.hid (Nat.le_trans ZW0.out hn.size)
      obtain ⟨ga, hgx⟩ : ∃ gx, gx = W0.heap.size := ⟨_, rfl⟩
      have GA : Hid (z ≤ ga) := by rw [hgx]; exact ZW0.out
      rw [← hgx] at hnew ⊢
      have FA := Lib.hid hnew
      clear hS hn hnew hgx
      have hS := hS2
      clear hS2
      generalize W0.alloc (.cells #[.int .i64 0, .int .i64 0, .int .i64 0, .int .i64 0, .int .i64 0, .string ⟨#[]⟩, .int .i64 0, .int .i64 0, .int .i64 0, .int .i64 0, .int .i64 0, .int .i64 0, .int .i64 0, .int .i64 0, .int .i64 0, .int .i64 0, .int .i64 0, .int .i64 0] 26) = W1 at *
      refine hK.out _ _ hS (fun _ => ?_)
      clear hK K
      try simp only [Act.put, List.setIfInBounds_toArray, List.set_cons_zero, List.set_cons_succ]
      refine rnTwo 1 5 rfl rfl (by kernel_rfl) rfl rfl (fun K hK => ?_) (fun K hK => ?_) 
      · go_simp
        with_reducible refine (G1.out _).mono ?_
        rintro en W2 ⟨rfl, hb⟩
        have FA := Lib.hid ((FA.out).on hb)
        have hS2 : RcAt W2 g2 r ∧ RcAt W2 g3 s := ⟨hS.1.on hb, hS.2.on hb⟩
        have BW2 := Lib.hid (BW1.out.trans (hb.mono BW1.out.size))
        have ZW2 := Lib.hid (Nat.le_trans ZW1.out hb.size)
        clear hS hb
        have hS := hS2
        clear hS2
        refine hK.out _ _ hS (fun _ => ?_)
        clear hK K
        try simp only [Act.put, List.setIfInBounds_toArray, List.set_cons_zero, List.set_cons_succ]
        refine rnTwo 3 5 rfl rfl (by kernel_rfl) rfl rfl (fun K hK => ?_) (fun K hK => ?_) 
        · go_simp
          with_reducible refine (G2.out _).mono ?_
          rintro en W3 ⟨rfl, hb⟩
          have FA := Lib.hid ((FA.out).on hb)
          have hS2 : RcAt W3 g2 r ∧ RcAt W3 g3 s := ⟨hS.1.on hb, hS.2.on hb⟩
          have BW3 := Lib.hid (BW2.out.trans (hb.mono BW2.out.size))
          have ZW3 := Lib.hid (Nat.le_trans ZW2.out hb.size)
          clear hS hb
          have hS := hS2
          clear hS2
          refine hK.out _ _ hS (fun _ => ?_)
          clear hK K
          try simp only [Act.put, List.setIfInBounds_toArray, List.set_cons_zero, List.set_cons_succ]
          refine rnOne 5 rfl (by kernel_rfl) rfl (fun K hK => ?_)
          have FAp : Hid (ga < W3.heap.size) := FA.out.cs.lt
          go_simp
          have hn := (Below.refl W3.heap.size W3).alloc (Nat.le_refl _) (.cells #[.int .i64 0, .int .i64 0, .int .i64 0, .int .i64 0, .int .i64 0, .string ⟨#[]⟩, .int .i64 0, .int .i64 0, .int .i64 0, .int .i64 0, .int .i64 0, .int .i64 0, .int .i64 0, .int .i64 0, .int .i64 0, .int .i64 0, .int .i64 0, .int .i64 0] 26)
          have hnew : RcAt (W3.alloc (.cells #[.int .i64 0, .int .i64 0, .int .i64 0, .int .i64 0, .int .i64 0, .string ⟨#[]⟩, .int .i64 0, .int .i64 0, .int .i64 0, .int .i64 0, .int .i64 0, .int .i64 0, .int .i64 0, .int .i64 0, .int .i64 0, .int .i64 0, .int .i64 0, .int .i64 0] 26)) W3.heap.size Rc.none_ := ⟨heap_alloc_new W3 _⟩
          have FA := Lib.hid ((FA.out).on hn)
          have hS2 : RcAt (W3.alloc (.cells #[.int .i64 0, .int .i64 0, .int .i64 0, .int .i64 0, .int .i64 0, .string ⟨#[]⟩, .int .i64 0, .int .i64 0, .int .i64 0, .int .i64 0, .int .i64 0, .int .i64 0, .int .i64 0, .int .i64 0, .int .i64 0, .int .i64 0, .int .i64 0, .int .i64 0] 26)) g2 r ∧ RcAt (W3.alloc (.cells #[.int .i64 0, .int .i64 0, .int .i64 0, .int .i64 0, .int .i64 0, .string ⟨#[]⟩, .int .i64 0, .int .i64 0, .int .i64 0, .int .i64 0, .int .i64 0, .int .i64 0, .int .i64 0, .int .i64 0, .int .i64 0, .int .i64 0, .int .i64 0, .int .i64 0] 26)) g3 s := ⟨hS.1.on hn, hS.2.on hn⟩
          have BW4 := Lib.hid (BW3.out.trans (hn.mono BW3.out.size))
          have ZW4 := Lib.hid (Nat.le_trans ZW3.out hn.size)
          have NE : Hid (W3.heap.size ≠ ga) := by have := FAp.out; show _ ≠ _; omega
          obtain ⟨gb, hgx⟩ : ∃ gx, gx = W3.heap.size := ⟨_, rfl⟩
          have GB : Hid (z ≤ gb) := by rw [hgx]; exact ZW3.out
          rw [← hgx] at hnew ⊢
          rw [← hgx] at NE
          have FB := Lib.hid hnew
          clear hS hn hnew hgx
          have hS := hS2
          clear hS2
          generalize W3.alloc (.cells #[.int .i64 0, .int .i64 0, .int .i64 0, .int .i64 0, .int .i64 0, .string ⟨#[]⟩, .int .i64 0, .int .i64 0, .int .i64 0, .int .i64 0, .int .i64 0, .int .i64 0, .int .i64 0, .int .i64 0, .int .i64 0, .int .i64 0, .int .i64 0, .int .i64 0] 26) = W4 at *
          refine hK.out _ _ hS (fun _ => ?_)
          clear hK K
          try simp only [Act.put, List.setIfInBounds_toArray, List.set_cons_zero, List.set_cons_succ]
          refine rnOne 6 rfl (by kernel_rfl) rfl (fun K hK => ?_)
          refine wp_store_row 26 (.tmp 5) (.tmp 14) rfl ga (Rc.cells a) rfl rfl 26 _ FA.out.row (rec_size _) rfl (Rc.one_cell _) ?_
          have FA2 : Hid (RcAt (W4.setRow ga (Rc.cells a)) ga a) := ⟨setRow_heap _ ga _ _ _ _ FA.out.row⟩
          have FB2 : Hid (RcAt (W4.setRow ga (Rc.cells a)) gb _) := ⟨(setRow_other W4 ga gb _ (by have := NE.out; omega)).trans FB.out.row⟩
          have hS2 : RcAt (W4.setRow ga (Rc.cells a)) g2 r ∧ RcAt (W4.setRow ga (Rc.cells a)) g3 s := ⟨⟨(setRow_other W4 ga g2 _ (by have := GA.out; have := HG.out; omega)).trans hS.1.row⟩, ⟨(setRow_other W4 ga g3 _ (by have := GA.out; have := HG.out; omega)).trans hS.2.row⟩⟩
          have BW5 := Lib.hid (below_setRow BW4.out (Nat.le_trans HG.out.2.2 GA.out) (Rc.cells a))
          clear hS FA FB
          have FA := FA2
          have FB := FB2
          have hS := hS2
          clear hS2 FA2 FB2
          generalize W4.setRow ga (Rc.cells a) = W5 at *
          refine hK.out _ _ hS (fun _ => ?_)
          clear hK K
          try simp only [Act.put, List.setIfInBounds_toArray, List.set_cons_zero, List.set_cons_succ]
          refine rnOne 7 rfl (by kernel_rfl) rfl (fun K hK => ?_)
          refine wp_store_row 26 (.tmp 6) (.tmp 16) rfl gb (Rc.cells b) rfl rfl 26 _ FB.out.row (rec_size _) rfl (Rc.one_cell _) ?_
          have FB2 : Hid (RcAt (W5.setRow gb (Rc.cells b)) gb b) := ⟨setRow_heap _ gb _ _ _ _ FB.out.row⟩
          have FA2 : Hid (RcAt (W5.setRow gb (Rc.cells b)) ga _) := ⟨(setRow_other W5 gb ga _ (by have := NE.out; omega)).trans FA.out.row⟩
          have hS2 : RcAt (W5.setRow gb (Rc.cells b)) g2 r ∧ RcAt (W5.setRow gb (Rc.cells b)) g3 s := ⟨⟨(setRow_other W5 gb g2 _ (by have := GB.out; have := HG.out; omega)).trans hS.1.row⟩, ⟨(setRow_other W5 gb g3 _ (by have := GB.out; have := HG.out; omega)).trans hS.2.row⟩⟩
          have BW6 := Lib.hid (below_setRow BW5.out (Nat.le_trans HG.out.2.2 GB.out) (Rc.cells b))
          clear hS FA FB
          have FA := FA2
          have FB := FB2
          have hS := hS2
          clear hS2 FA2 FB2
          generalize W5.setRow gb (Rc.cells b) = W6 at *
          refine hK.out _ _ hS (fun _ => ?_)
          clear hK K
          try simp only [Act.put, List.setIfInBounds_toArray, List.set_cons_zero, List.set_cons_succ]
          refine wpAnyH_done (by kernel_rfl) ?_ _
          go_wp2_with fail
          go_meet
          case rel => exact ⟨ga, gb, rfl, rfl, FA.out, FB.out, BW6.out⟩
        · have FAp : Hid (ga < W2.heap.size) := FA.out.cs.lt
          go_simp
          have hn := (Below.refl W2.heap.size W2).alloc (Nat.le_refl _) (.cells #[.int .i64 0, .int .i64 0, .int .i64 0, .int .i64 0, .int .i64 0, .string ⟨#[]⟩, .int .i64 0, .int .i64 0, .int .i64 0, .int .i64 0, .int .i64 0, .int .i64 0, .int .i64 0, .int .i64 0, .int .i64 0, .int .i64 0, .int .i64 0, .int .i64 0] 26)
          have hnew : RcAt (W2.alloc (.cells #[.int .i64 0, .int .i64 0, .int .i64 0, .int .i64 0, .int .i64 0, .string ⟨#[]⟩, .int .i64 0, .int .i64 0, .int .i64 0, .int .i64 0, .int .i64 0, .int .i64 0, .int .i64 0, .int .i64 0, .int .i64 0, .int .i64 0, .int .i64 0, .int .i64 0] 26)) W2.heap.size Rc.none_ := ⟨heap_alloc_new W2 _⟩
          have FA := Lib.hid ((FA.out).on hn)
          have hS2 : RcAt (W2.alloc (.cells #[.int .i64 0, .int .i64 0, .int .i64 0, .int .i64 0, .int .i64 0, .string ⟨#[]⟩, .int .i64 0, .int .i64 0, .int .i64 0, .int .i64 0, .int .i64 0, .int .i64 0, .int .i64 0, .int .i64 0, .int .i64 0, .int .i64 0, .int .i64 0, .int .i64 0] 26)) g2 r ∧ RcAt (W2.alloc (.cells #[.int .i64 0, .int .i64 0, .int .i64 0, .int .i64 0, .int .i64 0, .string ⟨#[]⟩, .int .i64 0, .int .i64 0, .int .i64 0, .int .i64 0, .int .i64 0, .int .i64 0, .int .i64 0, .int .i64 0, .int .i64 0, .int .i64 0, .int .i64 0, .int .i64 0] 26)) g3 s := ⟨hS.1.on hn, hS.2.on hn⟩
          have BW3 := Lib.hid (BW2.out.trans (hn.mono BW2.out.size))
          have ZW3 := Lib.hid (Nat.le_trans ZW2.out hn.size)
          have NE : Hid (W2.heap.size ≠ ga) := by have := FAp.out; show _ ≠ _; omega
          obtain ⟨gb, hgx⟩ : ∃ gx, gx = W2.heap.size := ⟨_, rfl⟩
          have GB : Hid (z ≤ gb) := by rw [hgx]; exact ZW2.out
          rw [← hgx] at hnew ⊢
          rw [← hgx] at NE
          have FB := Lib.hid hnew
          clear hS hn hnew hgx
          have hS := hS2
          clear hS2
          generalize W2.alloc (.cells #[.int .i64 0, .int .i64 0, .int .i64 0, .int .i64 0, .int .i64 0, .string ⟨#[]⟩, .int .i64 0, .int .i64 0, .int .i64 0, .int .i64 0, .int .i64 0, .int .i64 0, .int .i64 0, .int .i64 0, .int .i64 0, .int .i64 0, .int .i64 0, .int .i64 0] 26) = W3 at *
          refine hK.out _ _ hS (fun _ => ?_)
          clear hK K
          try simp only [Act.put, List.setIfInBounds_toArray, List.set_cons_zero, List.set_cons_succ]
          refine rnOne 3 rfl (by kernel_rfl) rfl (fun K hK => ?_)
          go_simp
          with_reducible refine (G2.out _).mono ?_
          rintro en W4 ⟨rfl, hb⟩
          have FA := Lib.hid ((FA.out).on hb)
          have FB := Lib.hid ((FB.out).on hb)
          have hS2 : RcAt W4 g2 r ∧ RcAt W4 g3 s := ⟨hS.1.on hb, hS.2.on hb⟩
          have BW4 := Lib.hid (BW3.out.trans (hb.mono BW3.out.size))
          have ZW4 := Lib.hid (Nat.le_trans ZW3.out hb.size)
          clear hS hb
          have hS := hS2
          clear hS2
          refine hK.out _ _ hS (fun _ => ?_)
          clear hK K
          try simp only [Act.put, List.setIfInBounds_toArray, List.set_cons_zero, List.set_cons_succ]
          refine rnOne 6 rfl (by kernel_rfl) rfl (fun K hK => ?_)
          refine wp_store_row 26 (.tmp 5) (.tmp 14) rfl ga (Rc.cells a) rfl rfl 26 _ FA.out.row (rec_size _) rfl (Rc.one_cell _) ?_
          have FA2 : Hid (RcAt (W4.setRow ga (Rc.cells a)) ga a) := ⟨setRow_heap _ ga _ _ _ _ FA.out.row⟩
          have FB2 : Hid (RcAt (W4.setRow ga (Rc.cells a)) gb _) := ⟨(setRow_other W4 ga gb _ (by have := NE.out; omega)).trans FB.out.row⟩
          have hS2 : RcAt (W4.setRow ga (Rc.cells a)) g2 r ∧ RcAt (W4.setRow ga (Rc.cells a)) g3 s := ⟨⟨(setRow_other W4 ga g2 _ (by have := GA.out; have := HG.out; omega)).trans hS.1.row⟩, ⟨(setRow_other W4 ga g3 _ (by have := GA.out; have := HG.out; omega)).trans hS.2.row⟩⟩
          have BW5 := Lib.hid (below_setRow BW4.out (Nat.le_trans HG.out.2.2 GA.out) (Rc.cells a))
          clear hS FA FB
          have FA := FA2
          have FB := FB2
          have hS := hS2
          clear hS2 FA2 FB2
          generalize W4.setRow ga (Rc.cells a) = W5 at *
          refine hK.out _ _ hS (fun _ => ?_)
          clear hK K
          try simp only [Act.put, List.setIfInBounds_toArray, List.set_cons_zero, List.set_cons_succ]
          refine rnOne 7 rfl (by kernel_rfl) rfl (fun K hK => ?_)
          refine wp_store_row 26 (.tmp 6) (.tmp 16) rfl gb (Rc.cells b) rfl rfl 26 _ FB.out.row (rec_size _) rfl (Rc.one_cell _) ?_
          have FB2 : Hid (RcAt (W5.setRow gb (Rc.cells b)) gb b) := ⟨setRow_heap _ gb _ _ _ _ FB.out.row⟩
          have FA2 : Hid (RcAt (W5.setRow gb (Rc.cells b)) ga _) := ⟨(setRow_other W5 gb ga _ (by have := NE.out; omega)).trans FA.out.row⟩
          have hS2 : RcAt (W5.setRow gb (Rc.cells b)) g2 r ∧ RcAt (W5.setRow gb (Rc.cells b)) g3 s := ⟨⟨(setRow_other W5 gb g2 _ (by have := GB.out; have := HG.out; omega)).trans hS.1.row⟩, ⟨(setRow_other W5 gb g3 _ (by have := GB.out; have := HG.out; omega)).trans hS.2.row⟩⟩
          have BW6 := Lib.hid (below_setRow BW5.out (Nat.le_trans HG.out.2.2 GB.out) (Rc.cells b))
          clear hS FA FB
          have FA := FA2
          have FB := FB2
          have hS := hS2
          clear hS2 FA2 FB2
          generalize W5.setRow gb (Rc.cells b) = W6 at *
          refine hK.out _ _ hS (fun _ => ?_)
          clear hK K
          try simp only [Act.put, List.setIfInBounds_toArray, List.set_cons_zero, List.set_cons_succ]
          refine wpAnyH_done (by kernel_rfl) ?_ _
          go_wp2_with fail
          go_meet
          case rel => exact ⟨ga, gb, rfl, rfl, FA.out, FB.out, BW6.out⟩
      · have FAp : Hid (ga < W1.heap.size) := FA.out.cs.lt
        go_simp
        have hn := (Below.refl W1.heap.size W1).alloc (Nat.le_refl _) (.cells #[.int .i64 0, .int .i64 0, .int .i64 0, .int .i64 0, .int .i64 0, .string ⟨#[]⟩, .int .i64 0, .int .i64 0, .int .i64 0, .int .i64 0, .int .i64 0, .int .i64 0, .int .i64 0, .int .i64 0, .int .i64 0, .int .i64 0, .int .i64 0, .int .i64 0] 26)
        have hnew : RcAt (W1.alloc (.cells #[.int .i64 0, .int .i64 0, .int .i64 0, .int .i64 0, .int .i64 0, .string ⟨#[]⟩, .int .i64 0, .int .i64 0, .int .i64 0, .int .i64 0, .int .i64 0, .int .i64 0, .int .i64 0, .int .i64 0, .int .i64 0, .int .i64 0, .int .i64 0, .int .i64 0] 26)) W1.heap.size Rc.none_ := ⟨heap_alloc_new W1 _⟩
        have FA := Lib.hid ((FA.out).on hn)
        have hS2 : RcAt (W1.alloc (.cells #[.int .i64 0, .int .i64 0, .int .i64 0, .int .i64 0, .int .i64 0, .string ⟨#[]⟩, .int .i64 0, .int .i64 0, .int .i64 0, .int .i64 0, .int .i64 0, .int .i64 0, .int .i64 0, .int .i64 0, .int .i64 0, .int .i64 0, .int .i64 0, .int .i64 0] 26)) g2 r ∧ RcAt (W1.alloc (.cells #[.int .i64 0, .int .i64 0, .int .i64 0, .int .i64 0, .int .i64 0, .string ⟨#[]⟩, .int .i64 0, .int .i64 0, .int .i64 0, .int .i64 0, .int .i64 0, .int .i64 0, .int .i64 0, .int .i64 0, .int .i64 0, .int .i64 0, .int .i64 0, .int .i64 0] 26)) g3 s := ⟨hS.1.on hn, hS.2.on hn⟩
        have BW2 := Lib.hid (BW1.out.trans (hn.mono BW1.out.size))
        have ZW2 := Lib.hid (Nat.le_trans ZW1.out hn.size)
        have NE : Hid (W1.heap.size ≠ ga) := by have := FAp.out; show _ ≠ _; omega
        obtain ⟨gb, hgx⟩ : ∃ gx, gx = W1.heap.size := ⟨_, rfl⟩
        have GB : Hid (z ≤ gb) := by rw [hgx]; exact ZW1.out
        rw [← hgx] at hnew ⊢
        rw [← hgx] at NE
        have FB := Lib.hid hnew
        clear hS hn hnew hgx
        have hS := hS2
        clear hS2
        generalize W1.alloc (.cells #[.int .i64 0, .int .i64 0, .int .i64 0, .int .i64 0, .int .i64 0, .string ⟨#[]⟩, .int .i64 0, .int .i64 0, .int .i64 0, .int .i64 0, .int .i64 0, .int .i64 0, .int .i64 0, .int .i64 0, .int .i64 0, .int .i64 0, .int .i64 0, .int .i64 0] 26) = W2 at *
        refine hK.out _ _ hS (fun _ => ?_)
        clear hK K
        try simp only [Act.put, List.setIfInBounds_toArray, List.set_cons_zero, List.set_cons_succ]
        refine rnOne 1 rfl (by kernel_rfl) rfl (fun K hK => ?_)
        go_simp
        with_reducible refine (G1.out _).mono ?_
        rintro en W3 ⟨rfl, hb⟩
        have FA := Lib.hid ((FA.out).on hb)
        have FB := Lib.hid ((FB.out).on hb)
        have hS2 : RcAt W3 g2 r ∧ RcAt W3 g3 s := ⟨hS.1.on hb, hS.2.on hb⟩
        have BW3 := Lib.hid (BW2.out.trans (hb.mono BW2.out.size))
        have ZW3 := Lib.hid (Nat.le_trans ZW2.out hb.size)
        clear hS hb
        have hS := hS2
        clear hS2
        refine hK.out _ _ hS (fun _ => ?_)
        clear hK K
        try simp only [Act.put, List.setIfInBounds_toArray, List.set_cons_zero, List.set_cons_succ]
        refine rnOne 3 rfl (by kernel_rfl) rfl (fun K hK => ?_)
        go_simp
        with_reducible refine (G2.out _).mono ?_
        rintro en W4 ⟨rfl, hb⟩
        have FA := Lib.hid ((FA.out).on hb)
        have FB := Lib.hid ((FB.out).on hb)
        have hS2 : RcAt W4 g2 r ∧ RcAt W4 g3 s := ⟨hS.1.on hb, hS.2.on hb⟩
        have BW4 := Lib.hid (BW3.out.trans (hb.mono BW3.out.size))
        have ZW4 := Lib.hid (Nat.le_trans ZW3.out hb.size)
        clear hS hb
        have hS := hS2
        clear hS2
        refine hK.out _ _ hS (fun _ => ?_)
        clear hK K
        try simp only [Act.put, List.setIfInBounds_toArray, List.set_cons_zero, List.set_cons_succ]
        refine rnOne 6 rfl (by kernel_rfl) rfl (fun K hK => ?_)
        refine wp_store_row 26 (.tmp 5) (.tmp 14) rfl ga (Rc.cells a) rfl rfl 26 _ FA.out.row (rec_size _) rfl (Rc.one_cell _) ?_
        have FA2 : Hid (RcAt (W4.setRow ga (Rc.cells a)) ga a) := ⟨setRow_heap _ ga _ _ _ _ FA.out.row⟩
        have FB2 : Hid (RcAt (W4.setRow ga (Rc.cells a)) gb _) := ⟨(setRow_other W4 ga gb _ (by have := NE.out; omega)).trans FB.out.row⟩
        have hS2 : RcAt (W4.setRow ga (Rc.cells a)) g2 r ∧ RcAt (W4.setRow ga (Rc.cells a)) g3 s := ⟨⟨(setRow_other W4 ga g2 _ (by have := GA.out; have := HG.out; omega)).trans hS.1.row⟩, ⟨(setRow_other W4 ga g3 _ (by have := GA.out; have := HG.out; omega)).trans hS.2.row⟩⟩
        have BW5 := Lib.hid (below_setRow BW4.out (Nat.le_trans HG.out.2.2 GA.out) (Rc.cells a))
        clear hS FA FB
        have FA := FA2
        have FB := FB2
        have hS := hS2
        clear hS2 FA2 FB2
        generalize W4.setRow ga (Rc.cells a) = W5 at *
        refine hK.out _ _ hS (fun _ => ?_)
        clear hK K
        try simp only [Act.put, List.setIfInBounds_toArray, List.set_cons_zero, List.set_cons_succ]
        refine rnOne 7 rfl (by kernel_rfl) rfl (fun K hK => ?_)
        refine wp_store_row 26 (.tmp 6) (.tmp 16) rfl gb (Rc.cells b) rfl rfl 26 _ FB.out.row (rec_size _) rfl (Rc.one_cell _) ?_
        have FB2 : Hid (RcAt (W5.setRow gb (Rc.cells b)) gb b) := ⟨setRow_heap _ gb _ _ _ _ FB.out.row⟩
        have FA2 : Hid (RcAt (W5.setRow gb (Rc.cells b)) ga _) := ⟨(setRow_other W5 gb ga _ (by have := NE.out; omega)).trans FA.out.row⟩
        have hS2 : RcAt (W5.setRow gb (Rc.cells b)) g2 r ∧ RcAt (W5.setRow gb (Rc.cells b)) g3 s := ⟨⟨(setRow_other W5 gb g2 _ (by have := GB.out; have := HG.out; omega)).trans hS.1.row⟩, ⟨(setRow_other W5 gb g3 _ (by have := GB.out; have := HG.out; omega)).trans hS.2.row⟩⟩
        have BW6 := Lib.hid (below_setRow BW5.out (Nat.le_trans HG.out.2.2 GB.out) (Rc.cells b))
        clear hS FA FB
        have FA := FA2
        have FB := FB2
        have hS := hS2
        clear hS2 FA2 FB2
        generalize W5.setRow gb (Rc.cells b) = W6 at *
        refine hK.out _ _ hS (fun _ => ?_)
        clear hK K
        try simp only [Act.put, List.setIfInBounds_toArray, List.set_cons_zero, List.set_cons_succ]
        refine wpAnyH_done (by kernel_rfl) ?_ _
        go_wp2_with fail
        go_meet
        case rel => exact ⟨ga, gb, rfl, rfl, FA.out, FB.out, BW6.out⟩
    · go_simp
      have hn := (Below.refl W0.heap.size W0).alloc (Nat.le_refl _) (.cells #[.int .i64 0, .int .i64 0, .int .i64 0, .int .i64 0, .int .i64 0, .string ⟨#[]⟩, .int .i64 0, .int .i64 0, .int .i64 0, .int .i64 0, .int .i64 0, .int .i64 0, .int .i64 0, .int .i64 0, .int .i64 0, .int .i64 0, .int .i64 0, .int .i64 0] 26)
      have hnew : RcAt (W0.alloc (.cells #[.int .i64 0, .int .i64 0, .int .i64 0, .int .i64 0, .int .i64 0, .string ⟨#[]⟩, .int .i64 0, .int .i64 0, .int .i64 0, .int .i64 0, .int .i64 0, .int .i64 0, .int .i64 0, .int .i64 0, .int .i64 0, .int .i64 0, .int .i64 0, .int .i64 0] 26)) W0.heap.size Rc.none_ := ⟨heap_alloc_new W0 _⟩
      have hS2 : RcAt (W0.alloc (.cells #[.int .i64 0, .int .i64 0, .int .i64 0, .int .i64 0, .int .i64 0, .string ⟨#[]⟩, .int .i64 0, .int .i64 0, .int .i64 0, .int .i64 0, .int .i64 0, .int .i64 0, .int .i64 0, .int .i64 0, .int .i64 0, .int .i64 0, .int .i64 0, .int .i64 0] 26)) g2 r ∧ RcAt (W0.alloc (.cells #[.int .i64 0, .int .i64 0, .int .i64 0, .int .i64 0, .int .i64 0, .string ⟨#[]⟩, .int .i64 0, .int .i64 0, .int .i64 0, .int .i64 0, .int .i64 0, .int .i64 0, .int .i64 0, .int .i64 0, .int .i64 0, .int .i64 0, .int .i64 0, .int .i64 0] 26)) g3 s := ⟨hS.1.on hn, hS.2.on hn⟩
      have BW1 := Lib.hid (BW0.out.trans (hn.mono BW0.out.size))
      have ZW1 := Lib.hid (Nat.le_trans ZW0.out hn.size)
      obtain ⟨gb, hgx⟩ : ∃ gx, gx = W0.heap.size := ⟨_, rfl⟩
      have GB : Hid (z ≤ gb) := by rw [hgx]; exact ZW0.out
      rw [← hgx] at hnew ⊢
      have FB := Lib.hid hnew
      clear hS hn hnew hgx
      have hS := hS2
      clear hS2
      generalize W0.alloc (.cells #[.int .i64 0, .int .i64 0, .int .i64 0, .int .i64 0, .int .i64 0, .string ⟨#[]⟩, .int .i64 0, .int .i64 0, .int .i64 0, .int .i64 0, .int .i64 0, .int .i64 0, .int .i64 0, .int .i64 0, .int .i64 0, .int .i64 0, .int .i64 0, .int .i64 0] 26) = W1 at *
      refine hK.out _ _ hS (fun _ => ?_)
      clear hK K
      try simp only [Act.put, List.setIfInBounds_toArray, List.set_cons_zero, List.set_cons_succ]
      refine rnTwo 1 4 rfl rfl (by kernel_rfl) rfl rfl (fun K hK => ?_) (fun K hK => ?_) 
      · go_simp
        with_reducible refine (G1.out _).mono ?_
        rintro en W2 ⟨rfl, hb⟩
        have FB := Lib.hid ((FB.out).on hb)
        have hS2 : RcAt W2 g2 r ∧ RcAt W2 g3 s := ⟨hS.1.on hb, hS.2.on hb⟩
        have BW2 := Lib.hid (BW1.out.trans (hb.mono BW1.out.size))
        have ZW2 := Lib.hid (Nat.le_trans ZW1.out hb.size)
        clear hS hb
        have hS := hS2
        clear hS2
        refine hK.out _ _ hS (fun _ => ?_)
        clear hK K
        try simp only [Act.put, List.setIfInBounds_toArray, List.set_cons_zero, List.set_cons_succ]
        refine rnTwo 3 4 rfl rfl (by kernel_rfl) rfl rfl (fun K hK => ?_) (fun K hK => ?_) 
        · go_simp
          with_reducible refine (G2.out _).mono ?_
          rintro en W3 ⟨rfl, hb⟩
          have FB := Lib.hid ((FB.out).on hb)
          have hS2 : RcAt W3 g2 r ∧ RcAt W3 g3 s := ⟨hS.1.on hb, hS.2.on hb⟩
          have BW3 := Lib.hid (BW2.out.trans (hb.mono BW2.out.size))
          have ZW3 := Lib.hid (Nat.le_trans ZW2.out hb.size)
          clear hS hb
          have hS := hS2
          clear hS2
          refine hK.out _ _ hS (fun _ => ?_)
          clear hK K
          try simp only [Act.put, List.setIfInBounds_toArray, List.set_cons_zero, List.set_cons_succ]
          refine rnOne 4 rfl (by kernel_rfl) rfl (fun K hK => ?_)
          have FBp : Hid (gb < W3.heap.size) := FB.out.cs.lt
          go_simp
          have hn := (Below.refl W3.heap.size W3).alloc (Nat.le_refl _) (.cells #[.int .i64 0, .int .i64 0, .int .i64 0, .int .i64 0, .int .i64 0, .string ⟨#[]⟩, .int .i64 0, .int .i64 0, .int .i64 0, .int .i64 0, .int .i64 0, .int .i64 0, .int .i64 0, .int .i64 0, .int .i64 0, .int .i64 0, .int .i64 0, .int .i64 0] 26)
          have hnew : RcAt (W3.alloc (.cells #[.int .i64 0, .int .i64 0, .int .i64 0, .int .i64 0, .int .i64 0, .string ⟨#[]⟩, .int .i64 0, .int .i64 0, .int .i64 0, .int .i64 0, .int .i64 0, .int .i64 0, .int .i64 0, .int .i64 0, .int .i64 0, .int .i64 0, .int .i64 0, .int .i64 0] 26)) W3.heap.size Rc.none_ := ⟨heap_alloc_new W3 _⟩
          have FB := Lib.hid ((FB.out).on hn)
          have hS2 : RcAt (W3.alloc (.cells #[.int .i64 0, .int .i64 0, .int .i64 0, .int .i64 0, .int .i64 0, .string ⟨#[]⟩, .int .i64 0, .int .i64 0, .int .i64 0, .int .i64 0, .int .i64 0, .int .i64 0, .int .i64 0, .int .i64 0, .int .i64 0, .int .i64 0, .int .i64 0, .int .i64 0] 26)) g2 r ∧ RcAt (W3.alloc (.cells #[.int .i64 0, .int .i64 0, .int .i64 0, .int .i64 0, .int .i64 0, .string ⟨#[]⟩, .int .i64 0, .int .i64 0, .int .i64 0, .int .i64 0, .int .i64 0, .int .i64 0, .int .i64 0, .int .i64 0, .int .i64 0, .int .i64 0, .int .i64 0, .int .i64 0] 26)) g3 s := ⟨hS.1.on hn, hS.2.on hn⟩
          have BW4 := Lib.hid (BW3.out.trans (hn.mono BW3.out.size))
          have ZW4 := Lib.hid (Nat.le_trans ZW3.out hn.size)
          have NE : Hid (W3.heap.size ≠ gb) := by have := FBp.out; show _ ≠ _; omega
          obtain ⟨ga, hgx⟩ : ∃ gx, gx = W3.heap.size := ⟨_, rfl⟩
          have GA : Hid (z ≤ ga) := by rw [hgx]; exact ZW3.out
          rw [← hgx] at hnew ⊢
          rw [← hgx] at NE
          have FA := Lib.hid hnew
          clear hS hn hnew hgx
          have hS := hS2
          clear hS2
          generalize W3.alloc (.cells #[.int .i64 0, .int .i64 0, .int .i64 0, .int .i64 0, .int .i64 0, .string ⟨#[]⟩, .int .i64 0, .int .i64 0, .int .i64 0, .int .i64 0, .int .i64 0, .int .i64 0, .int .i64 0, .int .i64 0, .int .i64 0, .int .i64 0, .int .i64 0, .int .i64 0] 26) = W4 at *
          refine hK.out _ _ hS (fun _ => ?_)
          clear hK K
          try simp only [Act.put, List.setIfInBounds_toArray, List.set_cons_zero, List.set_cons_succ]
          refine rnOne 6 rfl (by kernel_rfl) rfl (fun K hK => ?_)
          refine wp_store_row 26 (.tmp 5) (.tmp 14) rfl ga (Rc.cells a) rfl rfl 26 _ FA.out.row (rec_size _) rfl (Rc.one_cell _) ?_
          have FA2 : Hid (RcAt (W4.setRow ga (Rc.cells a)) ga a) := ⟨setRow_heap _ ga _ _ _ _ FA.out.row⟩
          have FB2 : Hid (RcAt (W4.setRow ga (Rc.cells a)) gb _) := ⟨(setRow_other W4 ga gb _ (by have := NE.out; omega)).trans FB.out.row⟩
          have hS2 : RcAt (W4.setRow ga (Rc.cells a)) g2 r ∧ RcAt (W4.setRow ga (Rc.cells a)) g3 s := ⟨⟨(setRow_other W4 ga g2 _ (by have := GA.out; have := HG.out; omega)).trans hS.1.row⟩, ⟨(setRow_other W4 ga g3 _ (by have := GA.out; have := HG.out; omega)).trans hS.2.row⟩⟩
          have BW5 := Lib.hid (below_setRow BW4.out (Nat.le_trans HG.out.2.2 GA.out) (Rc.cells a))
          clear hS FA FB
          have FA := FA2
          have FB := FB2
          have hS := hS2
          clear hS2 FA2 FB2
          generalize W4.setRow ga (Rc.cells a) = W5 at *
          refine hK.out _ _ hS (fun _ => ?_)
          clear hK K
          try simp only [Act.put, List.setIfInBounds_toArray, List.set_cons_zero, List.set_cons_succ]
          refine rnOne 7 rfl (by kernel_rfl) rfl (fun K hK => ?_)
          refine wp_store_row 26 (.tmp 6) (.tmp 16) rfl gb (Rc.cells b) rfl rfl 26 _ FB.out.row (rec_size _) rfl (Rc.one_cell _) ?_
          have FB2 : Hid (RcAt (W5.setRow gb (Rc.cells b)) gb b) := ⟨setRow_heap _ gb _ _ _ _ FB.out.row⟩
          have FA2 : Hid (RcAt (W5.setRow gb (Rc.cells b)) ga _) := ⟨(setRow_other W5 gb ga _ (by have := NE.out; omega)).trans FA.out.row⟩
          have hS2 : RcAt (W5.setRow gb (Rc.cells b)) g2 r ∧ RcAt (W5.setRow gb (Rc.cells b)) g3 s := ⟨⟨(setRow_other W5 gb g2 _ (by have := GB.out; have := HG.out; omega)).trans hS.1.row⟩, ⟨(setRow_other W5 gb g3 _ (by have := GB.out; have := HG.out; omega)).trans hS.2.row⟩⟩
          have BW6 := Lib.hid (below_setRow BW5.out (Nat.le_trans HG.out.2.2 GB.out) (Rc.cells b))
          clear hS FA FB
          have FA := FA2
          have FB := FB2
          have hS := hS2
          clear hS2 FA2 FB2
          generalize W5.setRow gb (Rc.cells b) = W6 at *
          refine hK.out _ _ hS (fun _ => ?_)
          clear hK K
          try simp only [Act.put, List.setIfInBounds_toArray, List.set_cons_zero, List.set_cons_succ]
          refine wpAnyH_done (by kernel_rfl) ?_ _
          go_wp2_with fail
          go_meet
          case rel => exact ⟨ga, gb, rfl, rfl, FA.out, FB.out, BW6.out⟩
        · have FBp : Hid (gb < W2.heap.size) := FB.out.cs.lt
          go_simp
          have hn := (Below.refl W2.heap.size W2).alloc (Nat.le_refl _) (.cells #[.int .i64 0, .int .i64 0, .int .i64 0, .int .i64 0, .int .i64 0, .string ⟨#[]⟩, .int .i64 0, .int .i64 0, .int .i64 0, .int .i64 0, .int .i64 0, .int .i64 0, .int .i64 0, .int .i64 0, .int .i64 0, .int .i64 0, .int .i64 0, .int .i64 0] 26)
          have hnew : RcAt (W2.alloc (.cells #[.int .i64 0, .int .i64 0, .int .i64 0, .int .i64 0, .int .i64 0, .string ⟨#[]⟩, .int .i64 0, .int .i64 0, .int .i64 0, .int .i64 0, .int .i64 0, .int .i64 0, .int .i64 0, .int .i64 0, .int .i64 0, .int .i64 0, .int .i64 0, .int .i64 0] 26)) W2.heap.size Rc.none_ := ⟨heap_alloc_new W2 _⟩
          have FB := Lib.hid ((FB.out).on hn)
          have hS2 : RcAt (W2.alloc (.cells #[.int .i64 0, .int .i64 0, .int .i64 0, .int .i64 0, .int .i64 0, .string ⟨#[]⟩, .int .i64 0, .int .i64 0, .int .i64 0, .int .i64 0, .int .i64 0, .int .i64 0, .int .i64 0, .int .i64 0, .int .i64 0, .int .i64 0, .int .i64 0, .int .i64 0] 26)) g2 r ∧ RcAt (W2.alloc (.cells #[.int .i64 0, .int .i64 0, .int .i64 0, .int .i64 0, .int .i64 0, .string ⟨#[]⟩, .int .i64 0, .int .i64 0, .int .i64 0, .int .i64 0, .int .i64 0, .int .i64 0, .int .i64 0, .int .i64 0, .int .i64 0, .int .i64 0, .int .i64 0, .int .i64 0] 26)) g3 s := ⟨hS.1.on hn, hS.2.on hn⟩
          have BW3 := Lib.hid (BW2.out.trans (hn.mono BW2.out.size))
          have ZW3 := Lib.hid (Nat.le_trans ZW2.out hn.size)
          have NE : Hid (W2.heap.size ≠ gb) := by have := FBp.out; show _ ≠ _; omega
          obtain ⟨ga, hgx⟩ : ∃ gx, gx = W2.heap.size := ⟨_, rfl⟩
          have GA : Hid (z ≤ ga) := by rw [hgx]; exact ZW2.out
          rw [← hgx] at hnew ⊢
          rw [← hgx] at NE
          have FA := Lib.hid hnew
          clear hS hn hnew hgx
          have hS := hS2
          clear hS2
          generalize W2.alloc (.cells #[.int .i64 0, .int .i64 0, .int .i64 0, .int .i64 0, .int .i64 0, .string ⟨#[]⟩, .int .i64 0, .int .i64 0, .int .i64 0, .int .i64 0, .int .i64 0, .int .i64 0, .int .i64 0, .int .i64 0, .int .i64 0, .int .i64 0, .int .i64 0, .int .i64 0] 26) = W3 at *
          refine hK.out _ _ hS (fun _ => ?_)
          clear hK K
          try simp only [Act.put, List.setIfInBounds_toArray, List.set_cons_zero, List.set_cons_succ]
          refine rnOne 3 rfl (by kernel_rfl) rfl (fun K hK => ?_)
          go_simp
          with_reducible refine (G2.out _).mono ?_
          rintro en W4 ⟨rfl, hb⟩
          have FA := Lib.hid ((FA.out).on hb)
          have FB := Lib.hid ((FB.out).on hb)
          have hS2 : RcAt W4 g2 r ∧ RcAt W4 g3 s := ⟨hS.1.on hb, hS.2.on hb⟩
          have BW4 := Lib.hid (BW3.out.trans (hb.mono BW3.out.size))
          have ZW4 := Lib.hid (Nat.le_trans ZW3.out hb.size)
          clear hS hb
          have hS := hS2
          clear hS2
          refine hK.out _ _ hS (fun _ => ?_)
          clear hK K
          try simp only [Act.put, List.setIfInBounds_toArray, List.set_cons_zero, List.set_cons_succ]
          refine rnOne 6 rfl (by kernel_rfl) rfl (fun K hK => ?_)
          refine wp_store_row 26 (.tmp 5) (.tmp 14) rfl ga (Rc.cells a) rfl rfl 26 _ FA.out.row (rec_size _) rfl (Rc.one_cell _) ?_
          have FA2 : Hid (RcAt (W4.setRow ga (Rc.cells a)) ga a) := ⟨setRow_heap _ ga _ _ _ _ FA.out.row⟩
          have FB2 : Hid (RcAt (W4.setRow ga (Rc.cells a)) gb _) := ⟨(setRow_other W4 ga gb _ (by have := NE.out; omega)).trans FB.out.row⟩
          have hS2 : RcAt (W4.setRow ga (Rc.cells a)) g2 r ∧ RcAt (W4.setRow ga (Rc.cells a)) g3 s := ⟨⟨(setRow_other W4 ga g2 _ (by have := GA.out; have := HG.out; omega)).trans hS.1.row⟩, ⟨(setRow_other W4 ga g3 _ (by have := GA.out; have := HG.out; omega)).trans hS.2.row⟩⟩
          have BW5 := Lib.hid (below_setRow BW4.out (Nat.le_trans HG.out.2.2 GA.out) (Rc.cells a))
          clear hS FA FB
          have FA := FA2
          have FB := FB2
          have hS := hS2
          clear hS2 FA2 FB2
          generalize W4.setRow ga (Rc.cells a) = W5 at *
          refine hK.out _ _ hS (fun _ => ?_)
          clear hK K
          try simp only [Act.put, List.setIfInBounds_toArray, List.set_cons_zero, List.set_cons_succ]
          refine rnOne 7 rfl (by kernel_rfl) rfl (fun K hK => ?_)
          refine wp_store_row 26 (.tmp 6) (.tmp 16) rfl gb (Rc.cells b) rfl rfl 26 _ FB.out.row (rec_size _) rfl (Rc.one_cell _) ?_
          have FB2 : Hid (RcAt (W5.setRow gb (Rc.cells b)) gb b) := ⟨setRow_heap _ gb _ _ _ _ FB.out.row⟩
          have FA2 : Hid (RcAt (W5.setRow gb (Rc.cells b)) ga _) := ⟨(setRow_other W5 gb ga _ (by have := NE.out; omega)).trans FA.out.row⟩
          have hS2 : RcAt (W5.setRow gb (Rc.cells b)) g2 r ∧ RcAt (W5.setRow gb (Rc.cells b)) g3 s := ⟨⟨(setRow_other W5 gb g2 _ (by have := GB.out; have := HG.out; omega)).trans hS.1.row⟩, ⟨(setRow_other W5 gb g3 _ (by have := GB.out; have := HG.out; omega)).trans hS.2.row⟩⟩
          have BW6 := Lib.hid (below_setRow BW5.out (Nat.le_trans HG.out.2.2 GB.out) (Rc.cells b))
          clear hS FA FB
          have FA := FA2
          have FB := FB2
          have hS := hS2
          clear hS2 FA2 FB2
          generalize W5.setRow gb (Rc.cells b) = W6 at *
          refine hK.out _ _ hS (fun _ => ?_)
          clear hK K
          try simp only [Act.put, List.setIfInBounds_toArray, List.set_cons_zero, List.set_cons_succ]
          refine wpAnyH_done (by kernel_rfl) ?_ _
          go_wp2_with fail
          go_meet
          case rel => exact ⟨ga, gb, rfl, rfl, FA.out, FB.out, BW6.out⟩
      · have FBp : Hid (gb < W1.heap.size) := FB.out.cs.lt
        go_simp
        have hn := (Below.refl W1.heap.size W1).alloc (Nat.le_refl _) (.cells #[.int .i64 0, .int .i64 0, .int .i64 0, .int .i64 0, .int .i64 0, .string ⟨#[]⟩, .int .i64 0, .int .i64 0, .int .i64 0, .int .i64 0, .int .i64 0, .int .i64 0, .int .i64 0, .int .i64 0, .int .i64 0, .int .i64 0, .int .i64 0, .int .i64 0] 26)
        have hnew : RcAt (W1.alloc (.cells #[.int .i64 0, .int .i64 0, .int .i64 0, .int .i64 0, .int .i64 0, .string ⟨#[]⟩, .int .i64 0, .int .i64 0, .int .i64 0, .int .i64 0, .int .i64 0, .int .i64 0, .int .i64 0, .int .i64 0, .int .i64 0, .int .i64 0, .int .i64 0, .int .i64 0] 26)) W1.heap.size Rc.none_ := ⟨heap_alloc_new W1 _⟩
        have FB := Lib.hid ((FB.out).on hn)
        have hS2 : RcAt (W1.alloc (.cells #[.int .i64 0, .int .i64 0, .int .i64 0, .int .i64 0, .int .i64 0, .string ⟨#[]⟩, .int .i64 0, .int .i64 0, .int .i64 0, .int .i64 0, .int .i64 0, .int .i64 0, .int .i64 0, .int .i64 0, .int .i64 0, .int .i64 0, .int .i64 0, .int .i64 0] 26)) g2 r ∧ RcAt (W1.alloc (.cells #[.int .i64 0, .int .i64 0, .int .i64 0, .int .i64 0, .int .i64 0, .string ⟨#[]⟩, .int .i64 0, .int .i64 0, .int .i64 0, .int .i64 0, .int .i64 0, .int .i64 0, .int .i64 0, .int .i64 0, .int .i64 0, .int .i64 0, .int .i64 0, .int .i64 0] 26)) g3 s := ⟨hS.1.on hn, hS.2.on hn⟩
        have BW2 := Lib.hid (BW1.out.trans (hn.mono BW1.out.size))
        have ZW2 := Lib.hid (Nat.le_trans ZW1.out hn.size)
        have NE : Hid (W1.heap.size ≠ gb) := by have := FBp.out; show _ ≠ _; omega
        obtain ⟨ga, hgx⟩ : ∃ gx, gx = W1.heap.size := ⟨_, rfl⟩
        have GA : Hid (z ≤ ga) := by rw [hgx]; exact ZW1.out
        rw [← hgx] at hnew ⊢
        rw [← hgx] at NE
        have FA := Lib.hid hnew
        clear hS hn hnew hgx
        have hS := hS2
        clear hS2
        generalize W1.alloc (.cells #[.int .i64 0, .int .i64 0, .int .i64 0, .int .i64 0, .int .i64 0, .string ⟨#[]⟩, .int .i64 0, .int .i64 0, .int .i64 0, .int .i64 0, .int .i64 0, .int .i64 0, .int .i64 0, .int .i64 0, .int .i64 0, .int .i64 0, .int .i64 0, .int .i64 0] 26) = W2 at *
        refine hK.out _ _ hS (fun _ => ?_)
        clear hK K
        try simp only [Act.put, List.setIfInBounds_toArray, List.set_cons_zero, List.set_cons_succ]
        refine rnOne 1 rfl (by kernel_rfl) rfl (fun K hK => ?_)
        go_simp
        with_reducible refine (G1.out _).mono ?_
        rintro en W3 ⟨rfl, hb⟩
        have FA := Lib.hid ((FA.out).on hb)
        have FB := Lib.hid ((FB.out).on hb)
        have hS2 : RcAt W3 g2 r ∧ RcAt W3 g3 s := ⟨hS.1.on hb, hS.2.on hb⟩
        have BW3 := Lib.hid (BW2.out.trans (hb.mono BW2.out.size))
        have ZW3 := Lib.hid (Nat.le_trans ZW2.out hb.size)
        clear hS hb
        have hS := hS2
        clear hS2
        refine hK.out _ _ hS (fun _ => ?_)
        clear hK K
        try simp only [Act.put, List.setIfInBounds_toArray, List.set_cons_zero, List.set_cons_succ]
        refine rnOne 3 rfl (by kernel_rfl) rfl (fun K hK => ?_)
        go_simp
        with_reducible refine (G2.out _).mono ?_
        rintro en W4 ⟨rfl, hb⟩
        have FA := Lib.hid ((FA.out).on hb)
        have FB := Lib.hid ((FB.out).on hb)
        have hS2 : RcAt W4 g2 r ∧ RcAt W4 g3 s := ⟨hS.1.on hb, hS.2.on hb⟩
        have BW4 := Lib.hid (BW3.out.trans (hb.mono BW3.out.size))
        have ZW4 := Lib.hid (Nat.le_trans ZW3.out hb.size)
        clear hS hb
        have hS := hS2
        clear hS2
        refine hK.out _ _ hS (fun _ => ?_)
        clear hK K
        try simp only [Act.put, List.setIfInBounds_toArray, List.set_cons_zero, List.set_cons_succ]
        refine rnOne 6 rfl (by kernel_rfl) rfl (fun K hK => ?_)
        refine wp_store_row 26 (.tmp 5) (.tmp 14) rfl ga (Rc.cells a) rfl rfl 26 _ FA.out.row (rec_size _) rfl (Rc.one_cell _) ?_
        have FA2 : Hid (RcAt (W4.setRow ga (Rc.cells a)) ga a) := ⟨setRow_heap _ ga _ _ _ _ FA.out.row⟩
        have FB2 : Hid (RcAt (W4.setRow ga (Rc.cells a)) gb _) := ⟨(setRow_other W4 ga gb _ (by have := NE.out; omega)).trans FB.out.row⟩
        have hS2 : RcAt (W4.setRow ga (Rc.cells a)) g2 r ∧ RcAt (W4.setRow ga (Rc.cells a)) g3 s := ⟨⟨(setRow_other W4 ga g2 _ (by have := GA.out; have := HG.out; omega)).trans hS.1.row⟩, ⟨(setRow_other W4 ga g3 _ (by have := GA.out; have := HG.out; omega)).trans hS.2.row⟩⟩
        have BW5 := Lib.hid (below_setRow BW4.out (Nat.le_trans HG.out.2.2 GA.out) (Rc.cells a))
        clear hS FA FB
        have FA := FA2
        have FB := FB2
        have hS := hS2
        clear hS2 FA2 FB2
        generalize W4.setRow ga (Rc.cells a) = W5 at *
        refine hK.out _ _ hS (fun _ => ?_)
        clear hK K
        try simp only [Act.put, List.setIfInBounds_toArray, List.set_cons_zero, List.set_cons_succ]
        refine rnOne 7 rfl (by kernel_rfl) rfl (fun K hK => ?_)
        refine wp_store_row 26 (.tmp 6) (.tmp 16) rfl gb (Rc.cells b) rfl rfl 26 _ FB.out.row (rec_size _) rfl (Rc.one_cell _) ?_
        have FB2 : Hid (RcAt (W5.setRow gb (Rc.cells b)) gb b) := ⟨setRow_heap _ gb _ _ _ _ FB.out.row⟩
        have FA2 : Hid (RcAt (W5.setRow gb (Rc.cells b)) ga _) := ⟨(setRow_other W5 gb ga _ (by have := NE.out; omega)).trans FA.out.row⟩
        have hS2 : RcAt (W5.setRow gb (Rc.cells b)) g2 r ∧ RcAt (W5.setRow gb (Rc.cells b)) g3 s := ⟨⟨(setRow_other W5 gb g2 _ (by have := GB.out; have := HG.out; omega)).trans hS.1.row⟩, ⟨(setRow_other W5 gb g3 _ (by have := GB.out; have := HG.out; omega)).trans hS.2.row⟩⟩
        have BW6 := Lib.hid (below_setRow BW5.out (Nat.le_trans HG.out.2.2 GB.out) (Rc.cells b))
        clear hS FA FB
        have FA := FA2
        have FB := FB2
        have hS := hS2
        clear hS2 FA2 FB2
        generalize W5.setRow gb (Rc.cells b) = W6 at *
        refine hK.out _ _ hS (fun _ => ?_)
        clear hK K
        try simp only [Act.put, List.setIfInBounds_toArray, List.set_cons_zero, List.set_cons_succ]
        refine wpAnyH_done (by kernel_rfl) ?_ _
        go_wp2_with fail
        go_meet
        case rel => exact ⟨ga, gb, rfl, rfl, FA.out, FB.out, BW6.out⟩
  case rest =>
    obtain ⟨ga, gb, rfl, rfl, hga, hgb, hbx⟩ := hcut
    clear RA RB B1 G1 G2
    have FA := Lib.hid hga
    have FB := Lib.hid hgb
    have B2 := Lib.hid hbx
    clear hga hgb hbx
    have IA := Lib.hid (Rc.ok_in (Rc.ok_of RTA.out))
    have IB := Lib.hid (Rc.ok_in (Rc.ok_of RTB.out))
    have C1 := Lib.hid (fun W => kbytes_any a IA.out W)
    have C2 := Lib.hid (fun W => kbytes_any b IB.out W)
    rw [(Rc.bytes_yes RTA.out).1, (Rc.bytes_yes RTA.out).2] at C1
    rw [(Rc.bytes_yes RTB.out).1, (Rc.bytes_yes RTB.out).2] at C2
    have C3 := Lib.hid (fun W h => kwords_any a IA.out W h)
    obtain ⟨wl, hwl, hwn, hwz⟩ := rc_words_some RTA.out
    rw [hwl] at C3
    have HWE := Lib.hid (words_not_empty hwn)
    have hbe := txt_eq (Rc.bytes_byte a) (Rc.bytes_byte b)
    have INJ : Hid (Rc.bytes a = Rc.bytes b → a = b) := fun h => Rc.bytes_inj RTA.out RTB.out h
    clear hwl hwn hwz
    obtain ⟨la, hla⟩ : ∃ l, l = Rc.bytes a := ⟨_, rfl⟩
    obtain ⟨lb, hlb⟩ : ∃ l, l = Rc.bytes b := ⟨_, rfl⟩
    rw [← hla] at C1
    rw [← hlb] at C2
    rw [← hla, ← hlb] at hbe INJ
    have HBE := Lib.hid hbe
    have HLA := Lib.hid hla
    have HLB := Lib.hid hlb
    clear hbe hla hlb
    go_upto_region 6 with (first
      | ((with_reducible show wpList _ _ _ ({ dst := some 18, op := .load _ _, type := _, pos := _, after := _, guard := _ } :: _) _ _); refine wpList_load_row rfl 26 (.tmp 5) rfl ga rfl 26 _ (0, 0) _ FA.out.row rec_fields rfl (rec_size _) ?_)
      | ((with_reducible show wpList _ _ _ ({ dst := some 23, op := .load _ _, type := _, pos := _, after := _, guard := _ } :: _) _ _); refine wpList_load_row rfl 26 (.tmp 6) rfl gb rfl 26 _ (0, 0) _ FB.out.row rec_fields rfl (rec_size _) ?_)
      | (go_at_call 7; (with_reducible refine (C1.out _).mono ?_); rintro e w4 ⟨A4, k4, rfl, hs4, hb⟩; have S4 := Lib.hid hs4; have FA := Lib.hid (FA.out.on hb); have FB := Lib.hid (FB.out.on hb); have B2 := Lib.hid (B2.out.trans (hb.mono B2.out.size)); clear hs4 hb)
      | (go_at_call 7; (with_reducible refine (C2.out _).mono ?_); rintro e w5 ⟨A5, k5, rfl, hs5, hb⟩; have S5 := Lib.hid hs5; have S4 := Lib.hid (S4.out.on hb); have FA := Lib.hid (FA.out.on hb); have FB := Lib.hid (FB.out.on hb); have B2 := Lib.hid (B2.out.trans (hb.mono B2.out.size)); clear hs5 hb))
    have hgd := rec_guard
    refine wp_region_held_drew (S := fun W => (RcAt W ga a ∧ RcAt W gb b ∧ Sl W A4 la.length k4 la ∧ Sl W A5 lb.length k5 lb) ∧ Below w.heap.size w W) (by kernel_rfl) ⟨⟨FA.out.on (Below.refl _ _).drew, FB.out.on (Below.refl _ _).drew, S4.out.on (Below.refl _ _).drew, S5.out.on (Below.refl _ _).drew⟩, B2.out.drew⟩ (fun hS => ?_)
    clear FA FB S4 S5 B2
    by_cases hab : a = b
    · have hes : ∀ W, (binOp .eql 26 (.agg (Rc.cells a)) (.agg (Rc.cells b))).run Tryd.prog W = .ok (.bool true) W := by subst hab; exact rc_eqs a
      have hns : ∀ W, (binOp .neq 26 (.agg (Rc.cells a)) (.agg (Rc.cells b))).run Tryd.prog W = .ok (.bool false) W := by subst hab; exact rc_neqs a
      have hts : ((txt la).toList == (txt lb).toList) = true := by rw [HBE.out, HLA.out, HLB.out, hab]; simp
      have C4 := Lib.hid (fun W h => kwords_any b IB.out W h)
      have EWW : Hid (Rc.words b = Rc.words a) := by show _ = _; rw [hab]
      obtain ⟨wl2, hwl2, _, _⟩ := rc_words_some RTA.out
      have hww := txt_same wl2
      have C3 := Lib.hid (fun W h => kwords_any a IA.out W h)
      have HWE : Hid ((txt wl2).toList.isEmpty = false) := by
        obtain ⟨wl3, h3, h4, _⟩ := rc_words_some RTA.out
        rw [← hwl2, h3]; exact words_not_empty h4
      rw [EWW.out, hwl2] at C4
      rw [hwl2] at C3
      have hwe := HWE.out
      clear hab hwl2 EWW
      refine tkYes 0 (v := ?_) rfl (by kernel_rfl) (fun _ _ _ h => h) rfl ?_ hS ?_
      rotate_left
      · intro W hW; go_simp; (try with_reducible rfl)
      simp only [Act.put, List.setIfInBounds_toArray, List.set_cons_zero, List.set_cons_succ]
      refine tkYes 1 (v := ?_) rfl (by kernel_rfl) (fun _ _ _ h => h) rfl ?_ hS ?_
      rotate_left
      · intro W hW; go_simp; (try with_reducible rfl)
      simp only [Act.put, List.setIfInBounds_toArray, List.set_cons_zero, List.set_cons_succ]
      refine tkYes 2 (v := ?_) rfl (by kernel_rfl) (fun _ _ _ h => h) rfl ?_ hS ?_
      rotate_left
      · intro W hW; go_simp; (try with_reducible rfl)
      simp only [Act.put, List.setIfInBounds_toArray, List.set_cons_zero, List.set_cons_succ]
      refine tkYes 3 (v := ?_) rfl (by kernel_rfl) (fun _ _ _ h => h) rfl ?_ hS ?_
      rotate_left
      · intro W hW; go_simp; (try with_reducible rfl)
      simp only [Act.put, List.setIfInBounds_toArray, List.set_cons_zero, List.set_cons_succ]
      refine tkYes 4 (v := ?_) rfl (by kernel_rfl) (fun _ _ _ h => h) rfl ?_ hS ?_
      rotate_left
      · intro W hW; go_simp; (try with_reducible rfl)
      simp only [Act.put, List.setIfInBounds_toArray, List.set_cons_zero, List.set_cons_succ]
      refine tkYes 5 (v := ?_) rfl (by kernel_rfl) (fun _ _ _ h => h) rfl ?_ hS ?_
      rotate_left
      · intro W hW; go_simp; (try with_reducible rfl)
      simp only [Act.put, List.setIfInBounds_toArray, List.set_cons_zero, List.set_cons_succ]
      refine tkYes 6 (v := ?_) rfl (by kernel_rfl) (fun _ _ _ h => h) rfl ?_ hS ?_
      rotate_left
      · intro W hW; go_simp; (try with_reducible rfl)
      simp only [Act.put, List.setIfInBounds_toArray, List.set_cons_zero, List.set_cons_succ]
      refine tkYes 7 (v := ?_) rfl (by kernel_rfl) (fun _ _ _ h => h) rfl ?_ hS ?_
      rotate_left
      · intro W hW; go_simp; (try with_reducible rfl)
      simp only [Act.put, List.setIfInBounds_toArray, List.set_cons_zero, List.set_cons_succ]
      refine tkYes 8 (v := ?_) rfl (by kernel_rfl) (fun _ _ _ h => h) rfl ?_ hS ?_
      rotate_left
      · intro W hW; have hc := conv_rd (c := k4) hW.1.2.2.1.rd (n := la.length) rfl; go_simp; (try with_reducible rfl)
      simp only [Act.put, List.setIfInBounds_toArray, List.set_cons_zero, List.set_cons_succ]
      refine tkYes 9 (v := ?_) rfl (by kernel_rfl) (fun _ _ _ h => h) rfl ?_ hS ?_
      rotate_left
      · intro W hW; go_simp; (try with_reducible rfl)
      simp only [Act.put, List.setIfInBounds_toArray, List.set_cons_zero, List.set_cons_succ]
      refine tkYes 10 (v := ?_) rfl (by kernel_rfl) (fun _ _ _ h => h) rfl ?_ hS ?_
      rotate_left
      · intro W hW; have hc := conv_rd (c := k5) hW.1.2.2.2.rd (n := lb.length) rfl; go_simp; (try with_reducible rfl)
      simp only [Act.put, List.setIfInBounds_toArray, List.set_cons_zero, List.set_cons_succ]
      refine tkYes 11 (v := ?_) rfl (by kernel_rfl) (fun _ _ _ h => h) rfl ?_ hS ?_
      rotate_left
      · intro W hW; go_simp; (try with_reducible rfl)
      simp only [Act.put, List.setIfInBounds_toArray, List.set_cons_zero, List.set_cons_succ]
      refine tkYes 12 (v := .agg (Rc.cells a)) rfl (by kernel_rfl) (fun _ _ _ h => h) rfl (fun W hW => take_rec (.tmp 5) rfl ga a rfl hW.1.1) hS ?_
      simp only [Act.put, List.setIfInBounds_toArray, List.set_cons_zero, List.set_cons_succ]
      refine tkYes 13 (v := .agg (Rc.cells b)) rfl (by kernel_rfl) (fun _ _ _ h => h) rfl (fun W hW => take_rec (.tmp 6) rfl gb b rfl hW.1.2.1) hS ?_
      simp only [Act.put, List.setIfInBounds_toArray, List.set_cons_zero, List.set_cons_succ]
      refine tkYes 14 (v := ?_) rfl (by kernel_rfl) (fun _ _ _ h => h) rfl ?_ hS ?_
      rotate_left
      · intro W hW; go_simp; (try with_reducible rfl)
      simp only [Act.put, List.setIfInBounds_toArray, List.set_cons_zero, List.set_cons_succ]
      refine tkYes 15 (v := ?_) rfl (by kernel_rfl) (fun _ _ _ h => h) rfl ?_ hS ?_
      rotate_left
      · intro W hW; go_simp; (try with_reducible rfl)
      simp only [Act.put, List.setIfInBounds_toArray, List.set_cons_zero, List.set_cons_succ]
      refine tkYes 16 (v := ?_) rfl (by kernel_rfl) (fun _ _ _ h => h) rfl ?_ hS ?_
      rotate_left
      · intro W hW; go_simp; (try with_reducible rfl)
      simp only [Act.put, List.setIfInBounds_toArray, List.set_cons_zero, List.set_cons_succ]
      refine tkYes 17 (v := ?_) rfl (by kernel_rfl) (fun _ _ _ h => h) rfl ?_ hS ?_
      rotate_left
      · intro W hW; go_simp; (try with_reducible rfl)
      simp only [Act.put, List.setIfInBounds_toArray, List.set_cons_zero, List.set_cons_succ]
      refine tkYes 18 (v := .agg (Rc.cells a)) rfl (by kernel_rfl) (fun _ _ _ h => h) rfl (fun W hW => take_rec (.tmp 5) rfl ga a rfl hW.1.1) hS ?_
      simp only [Act.put, List.setIfInBounds_toArray, List.set_cons_zero, List.set_cons_succ]
      refine tkYes 19 (v := .agg (Rc.cells b)) rfl (by kernel_rfl) (fun _ _ _ h => h) rfl (fun W hW => take_rec (.tmp 6) rfl gb b rfl hW.1.2.1) hS ?_
      simp only [Act.put, List.setIfInBounds_toArray, List.set_cons_zero, List.set_cons_succ]
      refine tkYes 20 (v := ?_) rfl (by kernel_rfl) (fun _ _ _ h => h) rfl ?_ hS ?_
      rotate_left
      · intro W hW; go_simp; (try with_reducible rfl)
      simp only [Act.put, List.setIfInBounds_toArray, List.set_cons_zero, List.set_cons_succ]
      refine tkYes 21 (v := ?_) rfl (by kernel_rfl) (fun _ _ _ h => h) rfl ?_ hS ?_
      rotate_left
      · intro W hW; go_simp; (try with_reducible rfl)
      simp only [Act.put, List.setIfInBounds_toArray, List.set_cons_zero, List.set_cons_succ]
      refine tkYes 22 (v := .agg (Rc.cells a)) rfl (by kernel_rfl) (fun _ _ _ h => h) rfl (fun W hW => take_rec (.tmp 5) rfl ga a rfl hW.1.1) hS ?_
      simp only [Act.put, List.setIfInBounds_toArray, List.set_cons_zero, List.set_cons_succ]
      refine tkYes 24 (v := .agg (Rc.cells b)) rfl (by kernel_rfl) (fun _ _ _ h => h) rfl (fun W hW => take_rec (.tmp 6) rfl gb b rfl hW.1.2.1) hS ?_
      simp only [Act.put, List.setIfInBounds_toArray, List.set_cons_zero, List.set_cons_succ]
      refine rnOne 23 rfl (by kernel_rfl) rfl (fun K hK => ?_)
      go_simp
      with_reducible refine (C3.out _ (TB.out.on hS.2)).mono ?_
      rintro en W ⟨rfl, hW⟩
      have hS2 : (RcAt W ga a ∧ RcAt W gb b ∧ Sl W A4 la.length k4 la ∧ Sl W A5 lb.length k5 lb) ∧ Below w.heap.size w W := ⟨⟨hS.1.1.on hW, hS.1.2.1.on hW, hS.1.2.2.1.on hW, hS.1.2.2.2.on hW⟩, hS.2.trans (hW.mono hS.2.size)⟩
      clear hS hW
      have hS := hS2
      clear hS2
      refine hK.out _ _ hS (fun _ => ?_)
      clear hK K
      try simp only [Act.put, List.setIfInBounds_toArray, List.set_cons_zero, List.set_cons_succ]
      refine rnOne 25 rfl (by kernel_rfl) rfl (fun K hK => ?_)
      go_simp
      with_reducible refine (C4.out _ (TB.out.on hS.2)).mono ?_
      rintro en W ⟨rfl, hW⟩
      have hS2 : (RcAt W ga a ∧ RcAt W gb b ∧ Sl W A4 la.length k4 la ∧ Sl W A5 lb.length k5 lb) ∧ Below w.heap.size w W := ⟨⟨hS.1.1.on hW, hS.1.2.1.on hW, hS.1.2.2.1.on hW, hS.1.2.2.2.on hW⟩, hS.2.trans (hW.mono hS.2.size)⟩
      clear hS hW
      have hS := hS2
      clear hS2
      refine hK.out _ _ hS (fun _ => ?_)
      clear hK K
      try simp only [Act.put, List.setIfInBounds_toArray, List.set_cons_zero, List.set_cons_succ]
      refine tkYes 26 (v := ?_) rfl (by kernel_rfl) (fun _ _ _ h => h) rfl ?_ hS ?_
      rotate_left
      · intro W hW; go_simp; (try with_reducible rfl)
      simp only [Act.put, List.setIfInBounds_toArray, List.set_cons_zero, List.set_cons_succ]
      refine tkYes 27 (v := ?_) rfl (by kernel_rfl) (fun _ _ _ h => h) rfl ?_ hS ?_
      rotate_left
      · intro W hW; go_simp; (try with_reducible rfl)
      simp only [Act.put, List.setIfInBounds_toArray, List.set_cons_zero, List.set_cons_succ]
      refine tkYes 28 (v := ?_) rfl (by kernel_rfl) (fun _ _ _ h => h) rfl ?_ hS ?_
      rotate_left
      · intro W hW; go_simp; (try with_reducible rfl)
      simp only [Act.put, List.setIfInBounds_toArray, List.set_cons_zero, List.set_cons_succ]
      refine tkYes 29 (v := ?_) rfl (by kernel_rfl) (fun _ _ _ h => h) rfl ?_ hS ?_
      rotate_left
      · intro W hW; go_simp; (try with_reducible rfl)
      simp only [Act.put, List.setIfInBounds_toArray, List.set_cons_zero, List.set_cons_succ]
      refine tkYes 30 (v := .agg (Rc.cells a)) rfl (by kernel_rfl) (fun _ _ _ h => h) rfl (fun W hW => take_rec (.tmp 5) rfl ga a rfl hW.1.1) hS ?_
      simp only [Act.put, List.setIfInBounds_toArray, List.set_cons_zero, List.set_cons_succ]
      refine rnOne 31 rfl (by kernel_rfl) rfl (fun K hK => ?_)
      go_simp
      with_reducible refine (C3.out _ (TB.out.on hS.2)).mono ?_
      rintro en W ⟨rfl, hW⟩
      have hS2 : (RcAt W ga a ∧ RcAt W gb b ∧ Sl W A4 la.length k4 la ∧ Sl W A5 lb.length k5 lb) ∧ Below w.heap.size w W := ⟨⟨hS.1.1.on hW, hS.1.2.1.on hW, hS.1.2.2.1.on hW, hS.1.2.2.2.on hW⟩, hS.2.trans (hW.mono hS.2.size)⟩
      clear hS hW
      have hS := hS2
      clear hS2
      refine hK.out _ _ hS (fun _ => ?_)
      clear hK K
      try simp only [Act.put, List.setIfInBounds_toArray, List.set_cons_zero, List.set_cons_succ]
      refine tkYes 32 (v := ?_) rfl (by kernel_rfl) (fun _ _ _ h => h) rfl ?_ hS ?_
      rotate_left
      · intro W hW; go_simp; (try with_reducible rfl)
      simp only [Act.put, List.setIfInBounds_toArray, List.set_cons_zero, List.set_cons_succ]
      refine tkYes 33 (v := ?_) rfl (by kernel_rfl) (fun _ _ _ h => h) rfl ?_ hS ?_
      rotate_left
      · intro W hW; go_simp; (try with_reducible rfl)
      simp only [Act.put, List.setIfInBounds_toArray, List.set_cons_zero, List.set_cons_succ]
      refine tkYes 34 (v := ?_) rfl (by kernel_rfl) (fun _ _ _ h => h) rfl ?_ hS ?_
      rotate_left
      · intro W hW; go_simp; (try with_reducible rfl)
      simp only [Act.put, List.setIfInBounds_toArray, List.set_cons_zero, List.set_cons_succ]
      refine wpAnyH_done (by kernel_rfl) ?_ _
      go_wp2_with fail
      go_ret
      exact ⟨rfl, hS.2⟩
    · have hes : ∀ W, (binOp .eql 26 (.agg (Rc.cells a)) (.agg (Rc.cells b))).run Tryd.prog W = .ok (.bool false) W := by
        intro W
        have := rec_eq a b W
        rw [show Rc.same a b = false from by rw [Bool.eq_false_iff]; exact fun h => hab (Rc.same_iff.1 h)] at this
        exact this
      have hns : ∀ W, (binOp .neq 26 (.agg (Rc.cells a)) (.agg (Rc.cells b))).run Tryd.prog W = .ok (.bool true) W := by
        intro W
        have := rec_neq a b W
        rw [show Rc.same a b = false from by rw [Bool.eq_false_iff]; exact fun h => hab (Rc.same_iff.1 h)] at this
        exact this
      have hts : ((txt la).toList == (txt lb).toList) = false := by rw [HBE.out]; exact decide_eq_false (fun h => hab (INJ.out h))
      have hwe := HWE.out
      clear hab
      refine tkYes 0 (v := ?_) rfl (by kernel_rfl) (fun _ _ _ h => h) rfl ?_ hS ?_
      rotate_left
      · intro W hW; go_simp; (try with_reducible rfl)
      simp only [Act.put, List.setIfInBounds_toArray, List.set_cons_zero, List.set_cons_succ]
      refine tkYes 1 (v := ?_) rfl (by kernel_rfl) (fun _ _ _ h => h) rfl ?_ hS ?_
      rotate_left
      · intro W hW; go_simp; (try with_reducible rfl)
      simp only [Act.put, List.setIfInBounds_toArray, List.set_cons_zero, List.set_cons_succ]
      refine tkYes 2 (v := ?_) rfl (by kernel_rfl) (fun _ _ _ h => h) rfl ?_ hS ?_
      rotate_left
      · intro W hW; go_simp; (try with_reducible rfl)
      simp only [Act.put, List.setIfInBounds_toArray, List.set_cons_zero, List.set_cons_succ]
      refine tkYes 3 (v := ?_) rfl (by kernel_rfl) (fun _ _ _ h => h) rfl ?_ hS ?_
      rotate_left
      · intro W hW; go_simp; (try with_reducible rfl)
      simp only [Act.put, List.setIfInBounds_toArray, List.set_cons_zero, List.set_cons_succ]
      refine tkYes 4 (v := ?_) rfl (by kernel_rfl) (fun _ _ _ h => h) rfl ?_ hS ?_
      rotate_left
      · intro W hW; go_simp; (try with_reducible rfl)
      simp only [Act.put, List.setIfInBounds_toArray, List.set_cons_zero, List.set_cons_succ]
      refine tkYes 5 (v := ?_) rfl (by kernel_rfl) (fun _ _ _ h => h) rfl ?_ hS ?_
      rotate_left
      · intro W hW; go_simp; (try with_reducible rfl)
      simp only [Act.put, List.setIfInBounds_toArray, List.set_cons_zero, List.set_cons_succ]
      refine tkYes 6 (v := ?_) rfl (by kernel_rfl) (fun _ _ _ h => h) rfl ?_ hS ?_
      rotate_left
      · intro W hW; go_simp; (try with_reducible rfl)
      simp only [Act.put, List.setIfInBounds_toArray, List.set_cons_zero, List.set_cons_succ]
      refine tkYes 7 (v := ?_) rfl (by kernel_rfl) (fun _ _ _ h => h) rfl ?_ hS ?_
      rotate_left
      · intro W hW; go_simp; (try with_reducible rfl)
      simp only [Act.put, List.setIfInBounds_toArray, List.set_cons_zero, List.set_cons_succ]
      refine tkYes 8 (v := ?_) rfl (by kernel_rfl) (fun _ _ _ h => h) rfl ?_ hS ?_
      rotate_left
      · intro W hW; have hc := conv_rd (c := k4) hW.1.2.2.1.rd (n := la.length) rfl; go_simp; (try with_reducible rfl)
      simp only [Act.put, List.setIfInBounds_toArray, List.set_cons_zero, List.set_cons_succ]
      refine tkYes 9 (v := ?_) rfl (by kernel_rfl) (fun _ _ _ h => h) rfl ?_ hS ?_
      rotate_left
      · intro W hW; go_simp; (try with_reducible rfl)
      simp only [Act.put, List.setIfInBounds_toArray, List.set_cons_zero, List.set_cons_succ]
      refine tkYes 10 (v := ?_) rfl (by kernel_rfl) (fun _ _ _ h => h) rfl ?_ hS ?_
      rotate_left
      · intro W hW; have hc := conv_rd (c := k5) hW.1.2.2.2.rd (n := lb.length) rfl; go_simp; (try with_reducible rfl)
      simp only [Act.put, List.setIfInBounds_toArray, List.set_cons_zero, List.set_cons_succ]
      refine tkYes 11 (v := ?_) rfl (by kernel_rfl) (fun _ _ _ h => h) rfl ?_ hS ?_
      rotate_left
      · intro W hW; go_simp; (try with_reducible rfl)
      simp only [Act.put, List.setIfInBounds_toArray, List.set_cons_zero, List.set_cons_succ]
      refine tkYes 12 (v := .agg (Rc.cells a)) rfl (by kernel_rfl) (fun _ _ _ h => h) rfl (fun W hW => take_rec (.tmp 5) rfl ga a rfl hW.1.1) hS ?_
      simp only [Act.put, List.setIfInBounds_toArray, List.set_cons_zero, List.set_cons_succ]
      refine tkYes 13 (v := .agg (Rc.cells b)) rfl (by kernel_rfl) (fun _ _ _ h => h) rfl (fun W hW => take_rec (.tmp 6) rfl gb b rfl hW.1.2.1) hS ?_
      simp only [Act.put, List.setIfInBounds_toArray, List.set_cons_zero, List.set_cons_succ]
      refine tkYes 14 (v := ?_) rfl (by kernel_rfl) (fun _ _ _ h => h) rfl ?_ hS ?_
      rotate_left
      · intro W hW; go_simp; (try with_reducible rfl)
      simp only [Act.put, List.setIfInBounds_toArray, List.set_cons_zero, List.set_cons_succ]
      refine tkYes 15 (v := ?_) rfl (by kernel_rfl) (fun _ _ _ h => h) rfl ?_ hS ?_
      rotate_left
      · intro W hW; go_simp; (try with_reducible rfl)
      simp only [Act.put, List.setIfInBounds_toArray, List.set_cons_zero, List.set_cons_succ]
      refine tkYes 16 (v := ?_) rfl (by kernel_rfl) (fun _ _ _ h => h) rfl ?_ hS ?_
      rotate_left
      · intro W hW; go_simp; (try with_reducible rfl)
      simp only [Act.put, List.setIfInBounds_toArray, List.set_cons_zero, List.set_cons_succ]
      refine tkYes 17 (v := ?_) rfl (by kernel_rfl) (fun _ _ _ h => h) rfl ?_ hS ?_
      rotate_left
      · intro W hW; go_simp; (try with_reducible rfl)
      simp only [Act.put, List.setIfInBounds_toArray, List.set_cons_zero, List.set_cons_succ]
      refine tkYes 18 (v := .agg (Rc.cells a)) rfl (by kernel_rfl) (fun _ _ _ h => h) rfl (fun W hW => take_rec (.tmp 5) rfl ga a rfl hW.1.1) hS ?_
      simp only [Act.put, List.setIfInBounds_toArray, List.set_cons_zero, List.set_cons_succ]
      refine tkYes 19 (v := .agg (Rc.cells b)) rfl (by kernel_rfl) (fun _ _ _ h => h) rfl (fun W hW => take_rec (.tmp 6) rfl gb b rfl hW.1.2.1) hS ?_
      simp only [Act.put, List.setIfInBounds_toArray, List.set_cons_zero, List.set_cons_succ]
      refine tkYes 20 (v := ?_) rfl (by kernel_rfl) (fun _ _ _ h => h) rfl ?_ hS ?_
      rotate_left
      · intro W hW; go_simp; (try with_reducible rfl)
      simp only [Act.put, List.setIfInBounds_toArray, List.set_cons_zero, List.set_cons_succ]
      refine tkYes 21 (v := ?_) rfl (by kernel_rfl) (fun _ _ _ h => h) rfl ?_ hS ?_
      rotate_left
      · intro W hW; go_simp; (try with_reducible rfl)
      simp only [Act.put, List.setIfInBounds_toArray, List.set_cons_zero, List.set_cons_succ]
      refine tkNo 22 rfl (by kernel_rfl) (fun _ _ _ h => h) rfl hS ?_
      simp only [Act.put, List.setIfInBounds_toArray, List.set_cons_zero, List.set_cons_succ]
      refine tkNo 23 rfl (by kernel_rfl) (fun _ _ _ h => h) rfl hS ?_
      simp only [Act.put, List.setIfInBounds_toArray, List.set_cons_zero, List.set_cons_succ]
      refine tkNo 24 rfl (by kernel_rfl) (fun _ _ _ h => h) rfl hS ?_
      simp only [Act.put, List.setIfInBounds_toArray, List.set_cons_zero, List.set_cons_succ]
      refine tkNo 25 rfl (by kernel_rfl) (fun _ _ _ h => h) rfl hS ?_
      simp only [Act.put, List.setIfInBounds_toArray, List.set_cons_zero, List.set_cons_succ]
      refine tkNo 26 rfl (by kernel_rfl) (fun _ _ _ h => h) rfl hS ?_
      simp only [Act.put, List.setIfInBounds_toArray, List.set_cons_zero, List.set_cons_succ]
      refine tkYes 27 (v := ?_) rfl (by kernel_rfl) (fun _ _ _ h => h) rfl ?_ hS ?_
      rotate_left
      · intro W hW; go_simp; (try with_reducible rfl)
      simp only [Act.put, List.setIfInBounds_toArray, List.set_cons_zero, List.set_cons_succ]
      refine tkYes 28 (v := ?_) rfl (by kernel_rfl) (fun _ _ _ h => h) rfl ?_ hS ?_
      rotate_left
      · intro W hW; go_simp; (try with_reducible rfl)
      simp only [Act.put, List.setIfInBounds_toArray, List.set_cons_zero, List.set_cons_succ]
      refine tkYes 29 (v := ?_) rfl (by kernel_rfl) (fun _ _ _ h => h) rfl ?_ hS ?_
      rotate_left
      · intro W hW; go_simp; (try with_reducible rfl)
      simp only [Act.put, List.setIfInBounds_toArray, List.set_cons_zero, List.set_cons_succ]
      refine tkYes 30 (v := .agg (Rc.cells a)) rfl (by kernel_rfl) (fun _ _ _ h => h) rfl (fun W hW => take_rec (.tmp 5) rfl ga a rfl hW.1.1) hS ?_
      simp only [Act.put, List.setIfInBounds_toArray, List.set_cons_zero, List.set_cons_succ]
      refine rnOne 31 rfl (by kernel_rfl) rfl (fun K hK => ?_)
      go_simp
      with_reducible refine (C3.out _ (TB.out.on hS.2)).mono ?_
      rintro en W ⟨rfl, hW⟩
      have hS2 : (RcAt W ga a ∧ RcAt W gb b ∧ Sl W A4 la.length k4 la ∧ Sl W A5 lb.length k5 lb) ∧ Below w.heap.size w W := ⟨⟨hS.1.1.on hW, hS.1.2.1.on hW, hS.1.2.2.1.on hW, hS.1.2.2.2.on hW⟩, hS.2.trans (hW.mono hS.2.size)⟩
      clear hS hW
      have hS := hS2
      clear hS2
      refine hK.out _ _ hS (fun _ => ?_)
      clear hK K
      try simp only [Act.put, List.setIfInBounds_toArray, List.set_cons_zero, List.set_cons_succ]
      refine tkYes 32 (v := ?_) rfl (by kernel_rfl) (fun _ _ _ h => h) rfl ?_ hS ?_
      rotate_left
      · intro W hW; go_simp; (try with_reducible rfl)
      simp only [Act.put, List.setIfInBounds_toArray, List.set_cons_zero, List.set_cons_succ]
      refine tkYes 33 (v := ?_) rfl (by kernel_rfl) (fun _ _ _ h => h) rfl ?_ hS ?_
      rotate_left
      · intro W hW; go_simp; (try with_reducible rfl)
      simp only [Act.put, List.setIfInBounds_toArray, List.set_cons_zero, List.set_cons_succ]
      refine tkYes 34 (v := ?_) rfl (by kernel_rfl) (fun _ _ _ h => h) rfl ?_ hS ?_
      rotate_left
      · intro W hW; go_simp; (try with_reducible rfl)
      simp only [Act.put, List.setIfInBounds_toArray, List.set_cons_zero, List.set_cons_succ]
      refine wpAnyH_done (by kernel_rfl) ?_ _
      go_wp2_with fail
      go_ret
      exact ⟨rfl, hS.2⟩
end Go.Proofs.YtifokcpkamdkeaaDoor
