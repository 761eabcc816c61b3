/-
  WorkerFalls. Written by wip/tools/gen/wklaws.py. No condition.
-/
import Derived.Test.YtgljepjflpijiaaWkLaw0
import Derived.Test.YtgljepjflpijiaaWkRef4
import Derived.Test.YtgljepjflpijiaaWkPure
namespace Go.Proofs.Ytgljepjflpijiaa
open Go.RowKit Go.Deep
set_option linter.unusedSimpArgs false
set_option linter.unusedVariables false
set_option maxRecDepth 100000

theorem Wk.stepS_nm (r : Wk.W) (s : WStep) : (Wk.stepS r s).n = r.n ∧ (Wk.stepS r s).many = r.many := by
  unfold Wk.stepS
  split
  · exact Wk.applyS_nm r _
  · split
    · exact Wk.turnS_nm r _ _
    · split
      · exact Wk.turnS_nm r _ _
      · split
        · exact Wk.turnS_nm r _ _
        · exact ⟨rfl, rfl⟩
set_option maxHeartbeats 6400000 in
theorem wkfalls_walk {L : WkP} (hC : WC L)  (A : Option Addr) (k c : Nat) (l : List WStep) (W : World) (hs : SlW W A k c l) : Calls Try.prog 7 #[.slice A k c] W (WkAns (.bool true) W) := by
  have CL := Lib.hid (fun W => wklives_any hC W)
  have HOK : Wk.mayNew 0 1 := by unfold Wk.mayNew; omega
  have C1 := Lib.hid (fun w (hb : Below W.heap.size W w) => win_make (n := 0) (many := 1) (F := fun _ => False) hC (by unfold Nt.i64; omega) (by unfold Nt.i64; omega) HOK hb (fun _ h => h.elim))
  have C2 := Lib.hid (fun W => rwnew_any 0 1 W)
  rw [if_pos HOK, if_pos HOK] at C2
  have B := Lib.hid (Below.refl W.heap.size W)
  have HC := Lib.hid hC
  have SW := Lib.hid hs
  have KL := hs.1.len
  have KC := hs.1.cap
  have KM := hs.1.max
  unfold maxLen at KM
  have hz := wk_zero
  clear hC hs HOK
  go_enter Try.func7, Try.ntmps7
  go_upto_region 3 with (go_at_call 9; (with_reducible refine (CL.out _).mono ?_); rintro e w2 ⟨rfl, hb⟩; replace B := Lib.hid (B.out.trans (hb.mono B.out.size)); clear hb)
  go_upto_region 5 with (first
    | (go_at_call 10; (with_reducible refine (C1.out _ B.out).mono ?_); rintro e w3 ⟨q, rfl, hi, hb⟩; have I := Lib.hid hi; replace B := Lib.hid (B.out.trans (hb.mono B.out.size)); clear hb hi)
    | (go_at_call 11; (with_reducible refine (C2.out _).mono ?_); rintro e w4 ⟨rfl, hb⟩; replace I := Lib.hid (I.out.on HC.out hb); clear hb)
    | ((with_reducible show wpList _ _ _ ({ dst := none, op := .store _ _ _, type := _, pos := _, after := _, guard := _ } :: _) _ _); refine wpList_store_wk rfl (.tmp 5) (.tmp 25) rfl rfl rfl (WkAt.zero _) ?_))
  rw [wkcell]
  have hb := (Below.refl w4.heap.size w4).alloc (Nat.le_refl _) (.cells (Wk.cells (Wk.new 0 1)) 32)
  have R := Lib.hid (WkAt.new w4 (Wk.new 0 1))
  have I2 := I.out.more HC.out hb
  obtain ⟨gr, hgr⟩ : ∃ g, g = w4.heap.size := ⟨_, rfl⟩
  have hz2 : (w4.alloc (.cells (Wk.cells (Wk.new 0 1)) 32)).heap.size = w4.heap.size + 1 := by simp
  have GR : Hid (W.heap.size ≤ gr) := by have := I.out.below.size; show _ ≤ _; omega
  replace I := Lib.hid (I2.less (G := fun b => b = gr) (fun b e => .inr ⟨by omega, by omega⟩))
  rw [← hgr] at R ⊢
  clear hb hgr hz2 I2 B
  have NM : Hid ((Wk.new 0 1).n = 0 ∧ (Wk.new 0 1).many = 1) := ⟨rfl, rfl⟩
  generalize w4.alloc (.cells (Wk.cells (Wk.new 0 1)) 32) = w5 at *
  generalize Wk.new 0 1 = r0 at *
  go_wp2_with fail
  go_loopw [7] (fun i wr => ∃ (j : Nat) (r : Wk.W), i = .int .i64 (j : Nat) ∧ j ≤ 40 ∧ j ≤ k ∧ WkAt wr gr r ∧ WIn L W (fun b => b = gr) q r wr ∧ r.n = 0 ∧ r.many = 1) (fun i wr => k - (intOf i).toNat)
  case atStart => exact ⟨0, r0, rfl, by omega, by omega, R.out, I.out, NM.out.1, NM.out.2⟩
  case round =>
    obtain ⟨j, r, rfl, hj60, hjk, hr, hi, hn0, hm1⟩ := hrel
    replace R := Lib.hid hr
    replace I := Lib.hid hi
    replace NM : Hid (r.n = 0 ∧ r.many = 1) := ⟨hn0, hm1⟩
    clear hr hi hn0 hm1
    have q0 : (0 : Int) ≤ (j : Int) := by omega
    have q1 : ((j : Nat) : Int) ≤ 40 := by omega
    by_cases hlt : j < k ∧ j < 40
    · have hjl : j < l.length := by rw [← KL]; exact hlt.1
      obtain ⟨bq, oq, rfl, hbl, hrg⟩ := wst_range SW.out.1 (List.getElem?_eq_getElem hjl)
      have IN := Lib.hid (SW.out.2 _ (List.getElem_mem hjl))
      generalize l[j] = st at *
      have BL := Lib.hid hbl
      have SR := Lib.hid (wst_on hrg (I.out.below.block _ hbl))
      have q2 : ((j : Nat) : Int) < ((k : Nat) : Int) := by omega
      have q3 : ((j : Nat) : Int) < 40 := by omega
      clear hbl hrg hjl
      go_upto_region 8 with fail
      go_cut [8, 9] (fun s1 s2 wx => ∃ gn, s1 = .pointer (some ⟨gn, 0, none⟩) ∧ s2 = .bool true ∧ WkAt wx gr r ∧ WkAt wx gn (Wk.stepS r st) ∧ WIn L W (fun b => b = gr) q (Wk.stepS r st) wx)
      case first =>
        have hW0 := I.out.below
        refine wp_region_held_drew (S := fun V => WkAt V gr r ∧ V.rangeAt bq (oq + j * 8) (wstC st)) (by kernel_rfl) ⟨R.out.on (Below.refl _ _).drew, wst_on SR.out rfl⟩ (fun hS => ?_)
        replace I := Lib.hid (I.out.on HC.out (Below.refl wr.heap.size wr).drew)
        obtain ⟨w, hw0⟩ : ∃ w, w = wr.drew := ⟨_, rfl⟩
        rw [← hw0] at I hS ⊢
        clear hw0 hW0
        refine tkYes 0 (v := ?_) rfl (by kernel_rfl) (fun _ _ _ h => h) rfl ?_ hS ?_
        rotate_left
        · intro W hW; go_simp; (try with_reducible rfl)
        simp only [Act.put, List.setIfInBounds_toArray, List.set_cons_zero, List.set_cons_succ]
        refine tkYes 1 (v := .agg (Wk.cells r)) rfl (by kernel_rfl) (fun _ _ _ h => h) rfl (fun W hW => take_wk (.tmp 5) rfl rfl hW.1) hS ?_
        simp only [Act.put, List.setIfInBounds_toArray, List.set_cons_zero, List.set_cons_succ]
        refine tkYes 2 (v := ?_) rfl (by kernel_rfl) (fun _ _ _ h => h) rfl ?_ hS ?_
        rotate_left
        · intro W hW; go_simp; (try with_reducible rfl)
        simp only [Act.put, List.setIfInBounds_toArray, List.set_cons_zero, List.set_cons_succ]
        refine tkYes 3 (v := ?_) rfl (by kernel_rfl) (fun _ _ _ h => h) rfl ?_ hS ?_
        rotate_left
        · intro W hW; go_simp; (try with_reducible rfl)
        simp only [Act.put, List.setIfInBounds_toArray, List.set_cons_zero, List.set_cons_succ]
        refine tkYes 4 (v := ?_) rfl (by kernel_rfl) (fun _ _ _ h => h) rfl ?_ hS ?_
        rotate_left
        · intro W hW; go_simp; (try with_reducible rfl)
        simp only [Act.put, List.setIfInBounds_toArray, List.set_cons_zero, List.set_cons_succ]
        refine tkYes 5 (v := wsV st) rfl (by kernel_rfl) (fun _ _ _ h => h) rfl (fun W hW => take_wst (.tmp 42) rfl rfl hW.2) hS ?_
        simp only [Act.put, List.setIfInBounds_toArray, List.set_cons_zero, List.set_cons_succ]
        refine rnTwo 6 10 rfl rfl (by kernel_rfl) rfl rfl (fun K hK => ?_) (fun K hK => ?_)
        · skip
          go_simp
          with_reducible refine (wkdoes_any HC.out I.out (fun b hb => ?_) st IN.out).mono ?_
          · obtain rfl := hb; exact hS.1.cs.2.2.2
          rintro e w6 ⟨rfl, hi, hk⟩
          have hlt := hi.below
          replace hS := And.intro (hS.1.keep (hk _ rfl)) (wst_on hS.2 ((hlt.block _ BL.out).trans (I.out.below.block _ BL.out).symm))
          replace I := Lib.hid hi
          clear hi hk hlt
          try go_simp
          refine hK.out _ _ hS (fun _ => ?_)
          clear hK K
          try simp only [Act.put, List.setIfInBounds_toArray, List.set_cons_zero, List.set_cons_succ]
          refine tkYes 7 (v := ?_) rfl (by kernel_rfl) (fun _ _ _ h => h) rfl ?_ hS ?_
          rotate_left
          · intro W hW; go_simp; (try with_reducible rfl)
          simp only [Act.put, List.setIfInBounds_toArray, List.set_cons_zero, List.set_cons_succ]
          refine tkYes 8 (v := ?_) rfl (by kernel_rfl) (fun _ _ _ h => h) rfl ?_ hS ?_
          rotate_left
          · intro W hW; go_simp; (try with_reducible rfl)
          simp only [Act.put, List.setIfInBounds_toArray, List.set_cons_zero, List.set_cons_succ]
          refine tkYes 9 (v := ?_) rfl (by kernel_rfl) (fun _ _ _ h => h) rfl ?_ hS ?_
          rotate_left
          · intro W hW; go_simp; (try with_reducible rfl)
          simp only [Act.put, List.setIfInBounds_toArray, List.set_cons_zero, List.set_cons_succ]
          refine rnOne 10 rfl (by kernel_rfl) rfl (fun K hK => ?_)
          go_simp
          have hb := (Below.refl w6.heap.size w6).alloc (Nat.le_refl _) (.cells Wk.zeros 32)
          have X := Lib.hid (WkAt.zero w6)
          have I2 := I.out.more HC.out hb
          have hgl := I.out.below.size
          have hgx := hS.1.cs.2.2.2
          obtain ⟨gn, hgn⟩ : ∃ g, g = w6.heap.size := ⟨_, rfl⟩
          have hz : (w6.alloc (.cells Wk.zeros 32)).heap.size = w6.heap.size + 1 := by simp
          replace I := Lib.hid (I2.less (G := fun b => b = gr ∨ b = gn) (fun b h => h.elim .inl fun e => .inr ⟨by omega, by omega⟩))
          have GA : Hid (W.heap.size ≤ gn) := by show _ ≤ _; omega
          have GN : Hid (gr ≠ gn) := by show _ ≠ _; omega
          replace hS := And.intro (hS.1.on hb) (wst_on hS.2 (hb.block _ (Nat.lt_of_lt_of_le BL.out hgl)))
          rw [← hgn] at X ⊢
          clear hb hgn hz I2 hgl hgx
          generalize w6.alloc (.cells Wk.zeros 32) = w7 at *
          refine hK.out _ _ hS (fun _ => ?_)
          clear hK K
          try simp only [Act.put, List.setIfInBounds_toArray, List.set_cons_zero, List.set_cons_succ]
          refine rnOne 11 rfl (by kernel_rfl) rfl (fun K hK => ?_)
          refine wp_store_row 32 (.tmp 8) (.tmp 45) rfl gn (Wk.cells (Wk.stepS r st)) rfl rfl 32 _ X.out.row (wk_size _) rfl (wk_one _) ?_
          have hI := I.out.row HC.out (.inr rfl) GA.out (Wk.cells (Wk.stepS r st))
          replace hS := And.intro (wk_offRow hS.1 (q := gn) (fun e => GN.out e.symm) (Wk.cells (Wk.stepS r st))) (wst_on hS.2 (nt_rowOff (q := gn) (by have := GA.out; have := BL.out; omega) (Wk.cells (Wk.stepS r st))))
          replace X := Lib.hid (X.out.setRow (Wk.stepS r st))
          refine hK.out _ _ hS (fun _ => ?_)
          clear hK K
          try simp only [Act.put, List.setIfInBounds_toArray, List.set_cons_zero, List.set_cons_succ]
          refine tkYes 12 (v := ?_) rfl (by kernel_rfl) (fun _ _ _ h => h) rfl ?_ hS ?_
          rotate_left
          · intro W hW; go_simp; (try with_reducible rfl)
          simp only [Act.put, List.setIfInBounds_toArray, List.set_cons_zero, List.set_cons_succ]
          refine wpAnyH_done (by kernel_rfl) ?_ _
          go_wp2_with fail
          go_meet
          case rel => exact ⟨gn, rfl, rfl, hS.1, X.out, hI.less fun b h => .inl h⟩
        · skip
          go_simp
          have hb := (Below.refl w.heap.size w).alloc (Nat.le_refl _) (.cells Wk.zeros 32)
          have X := Lib.hid (WkAt.zero w)
          have I2 := I.out.more HC.out hb
          have hgl := I.out.below.size
          have hgx := hS.1.cs.2.2.2
          obtain ⟨gn, hgn⟩ : ∃ g, g = w.heap.size := ⟨_, rfl⟩
          have hz : (w.alloc (.cells Wk.zeros 32)).heap.size = w.heap.size + 1 := by simp
          replace I := Lib.hid (I2.less (G := fun b => b = gr ∨ b = gn) (fun b h => h.elim .inl fun e => .inr ⟨by omega, by omega⟩))
          have GA : Hid (W.heap.size ≤ gn) := by show _ ≤ _; omega
          have GN : Hid (gr ≠ gn) := by show _ ≠ _; omega
          replace hS := And.intro (hS.1.on hb) (wst_on hS.2 (hb.block _ (Nat.lt_of_lt_of_le BL.out hgl)))
          rw [← hgn] at X ⊢
          clear hb hgn hz I2 hgl hgx
          generalize w.alloc (.cells Wk.zeros 32) = w6 at *
          refine hK.out _ _ hS (fun _ => ?_)
          clear hK K
          try simp only [Act.put, List.setIfInBounds_toArray, List.set_cons_zero, List.set_cons_succ]
          refine rnOne 6 rfl (by kernel_rfl) rfl (fun K hK => ?_)
          go_simp
          with_reducible refine (wkdoes_any HC.out I.out (fun b hb => ?_) st IN.out).mono ?_
          · rcases hb with rfl | rfl; exact hS.1.cs.2.2.2; exact X.out.cs.2.2.2
          rintro e w7 ⟨rfl, hi, hk⟩
          have hlt := hi.below
          replace hS := And.intro (hS.1.keep (hk _ (.inl rfl))) (wst_on hS.2 ((hlt.block _ BL.out).trans (I.out.below.block _ BL.out).symm))
          replace X := Lib.hid (X.out.keep (hk _ (.inr rfl)))
          replace I := Lib.hid hi
          clear hi hk hlt
          try go_simp
          refine hK.out _ _ hS (fun _ => ?_)
          clear hK K
          try simp only [Act.put, List.setIfInBounds_toArray, List.set_cons_zero, List.set_cons_succ]
          refine tkYes 7 (v := ?_) rfl (by kernel_rfl) (fun _ _ _ h => h) rfl ?_ hS ?_
          rotate_left
          · intro W hW; go_simp; (try with_reducible rfl)
          simp only [Act.put, List.setIfInBounds_toArray, List.set_cons_zero, List.set_cons_succ]
          refine tkYes 8 (v := ?_) rfl (by kernel_rfl) (fun _ _ _ h => h) rfl ?_ hS ?_
          rotate_left
          · intro W hW; go_simp; (try with_reducible rfl)
          simp only [Act.put, List.setIfInBounds_toArray, List.set_cons_zero, List.set_cons_succ]
          refine tkYes 9 (v := ?_) rfl (by kernel_rfl) (fun _ _ _ h => h) rfl ?_ hS ?_
          rotate_left
          · intro W hW; go_simp; (try with_reducible rfl)
          simp only [Act.put, List.setIfInBounds_toArray, List.set_cons_zero, List.set_cons_succ]
          refine rnOne 11 rfl (by kernel_rfl) rfl (fun K hK => ?_)
          refine wp_store_row 32 (.tmp 8) (.tmp 45) rfl gn (Wk.cells (Wk.stepS r st)) rfl rfl 32 _ X.out.row (wk_size _) rfl (wk_one _) ?_
          have hI := I.out.row HC.out (.inr rfl) GA.out (Wk.cells (Wk.stepS r st))
          replace hS := And.intro (wk_offRow hS.1 (q := gn) (fun e => GN.out e.symm) (Wk.cells (Wk.stepS r st))) (wst_on hS.2 (nt_rowOff (q := gn) (by have := GA.out; have := BL.out; omega) (Wk.cells (Wk.stepS r st))))
          replace X := Lib.hid (X.out.setRow (Wk.stepS r st))
          refine hK.out _ _ hS (fun _ => ?_)
          clear hK K
          try simp only [Act.put, List.setIfInBounds_toArray, List.set_cons_zero, List.set_cons_succ]
          refine tkYes 12 (v := ?_) rfl (by kernel_rfl) (fun _ _ _ h => h) rfl ?_ hS ?_
          rotate_left
          · intro W hW; go_simp; (try with_reducible rfl)
          simp only [Act.put, List.setIfInBounds_toArray, List.set_cons_zero, List.set_cons_succ]
          refine wpAnyH_done (by kernel_rfl) ?_ _
          go_wp2_with fail
          go_meet
          case rel => exact ⟨gn, rfl, rfl, hS.1, X.out, hI.less fun b h => .inl h⟩
      case rest =>
        obtain ⟨gn, rfl, rfl, hr9, hn9, hi9⟩ := hcut
        have R9 := Lib.hid hr9
        have X9 := Lib.hid hn9
        replace I := Lib.hid hi9
        clear hr9 hn9 hi9 R SR
        go_wp2_with (first
          | ((with_reducible show wpList _ _ _ ({ dst := some 47, op := .load _ _, type := _, pos := _, after := _, guard := _ } :: _) _ _); refine wpList_load_wk rfl (.tmp 8) rfl rfl X9.out ?_)
          | ((with_reducible show wpList _ _ _ ({ dst := none, op := .store _ _ _, type := _, pos := _, after := _, guard := _ } :: _) _ _); refine wpList_store_wk rfl (.tmp 5) (.tmp 47) rfl rfl rfl R9.out ?_; have R8 := Lib.hid (R9.out.setRow (Wk.stepS r st)); replace I := Lib.hid (I.out.row HC.out rfl GR.out (Wk.cells (Wk.stepS r st)))))
        have h8 := Wk.stepS_nm r st
        exact ⟨⟨j + 1, _, by go_num, by omega, by omega, R8.out, I.out, h8.1.trans NM.out.1, h8.2.trans NM.out.2⟩, by simp [intOf]; omega⟩
    · subst KL
      have q2 : ((l.length : Nat) : Int) ≤ ((j : Nat) : Int) ∨ (((j : Nat) : Int) < ((l.length : Nat) : Int) ∧ (40 : Int) ≤ ((j : Nat) : Int)) := by
        by_cases h9 : j < l.length
        · exact .inr ⟨by omega, by omega⟩
        · exact .inl (by omega)
      have CF := Lib.hid (Wk.count_fall (I.out.ok HC.out) NM.out.1 NM.out.2 16 (Nat.le_refl _))
      have CG := Lib.hid (Wk.count_fell (I.out.ok HC.out) NM.out.1 NM.out.2 16 (Nat.le_refl _))
      have CZ := Lib.hid (fun i (h : i < 16) => Wk.fell_zero (I.out.ok HC.out) h)
      have K1 := Lib.hid (fun w (h : WIn L W (fun b => b = gr) q r w) => win_count (st := 0) HC.out h (by unfold Nt.i64; omega))
      have K2 := Lib.hid (fun w (h : WIn L W (fun b => b = gr) q r w) => win_fall HC.out h)
      have K3 := Lib.hid (fun w (h : WIn L W (fun b => b = gr) q (Wk.fallS r) w) => win_count (st := 0) HC.out h (by unfold Nt.i64; omega))
      rw [CG.out] at K3
      have NF : Hid ((Wk.fallS r).n = 0 ∧ (Wk.fallS r).many = 1) := NM.out
      generalize Wk.count r 0 16 = c1 at *
      generalize Wk.fallN r.l 16 = c2 at *
      generalize Wk.fallS r = rf at *
      have p1 : ((c1 : Nat) : Int) ≤ 16 := by have := CF.out; omega
      have p2 : (((c2 : Nat) : Int) != (16 : Int) - ((c1 : Nat) : Int)) = false := by have := CF.out; rw [bne_eq_false_iff_eq]; omega
      clear CF CG hlt q1 hj60 hjk KM KC
      rcases q2 with q2 | ⟨q2, q3⟩
      all_goals
        go_wp2_with (first
          | (go_at_call 19; (with_reducible refine (K1.out _ I.out).mono ?_); rintro e w8 ⟨rfl, hb⟩; replace I := Lib.hid (I.out.on HC.out hb); clear hb)
          | (go_at_call 19; (with_reducible refine (K3.out _ I.out).mono ?_); rintro e w8 ⟨rfl, hb⟩; replace I := Lib.hid (I.out.on HC.out hb); clear hb)
          | (go_at_call 20; (with_reducible refine (K2.out _ I.out).mono ?_); rintro e w8 ⟨rfl, hi, -⟩; replace I := Lib.hid hi; clear hi K1))
        go_loopw [12] (fun i wr => ∃ (j : Nat) (x : Wk.W), i = .int .i64 (j : Nat) ∧ j ≤ 16 ∧ WIn L W (fun _ => False) q x wr ∧ x.n = 0 ∧ x.many = 1 ∧ ∀ i, j ≤ i → i < 16 → (x.l i).st = 0) (fun i wr => 16 - (intOf i).toNat)
        case atStart => exact ⟨0, rf, rfl, by omega, I.out.less (fun _ h => h.elim), NF.out.1, NF.out.2, fun i _ h => CZ.out i h⟩
        case round =>
          obtain ⟨j2, x, rfl, hj2, hi, hn0, hm1, hst⟩ := hrel
          have J := Lib.hid hi
          have HST := Lib.hid hst
          have q4 : (0 : Int) ≤ (j2 : Int) := by omega
          by_cases hlt2 : j2 < 16
          · have q5 : ((j2 : Nat) : Int) < 16 := by omega
            have hu : Nt.i64 ((j2 : Nat) : Int) := by unfold Nt.i64; omega
            have OW := Lib.hid (Wk.own_all hn0 hm1 (u := ((j2 : Nat) : Int)) (by omega) (by omega))
            have R0 := Lib.hid ((J.out.ok HC.out).right j2 hlt2)
            have G2 := Lib.hid (Wk.go_two R0.out (HST.out j2 (Nat.le_refl _) hlt2))
            have HAZ : Hid ((x.l j2).st = 0) := HST.out j2 (Nat.le_refl _) hlt2
            have S1 := Lib.hid (fun w (h : WIn L W (fun _ => False) q x w) => win_slot HC.out h hu)
            have ES : Wk.slotOf x ((j2 : Nat) : Int) = x.l j2 := if_pos OW.out
            rw [ES, decide_eq_true OW.out] at S1
            have T1 := Wk.turnS_own OW.out 1
            obtain ⟨x1, hx1⟩ : ∃ x1, x1 = Wk.turnS x ((j2 : Nat) : Int) 1 := ⟨_, rfl⟩
            have OW1 : Wk.own x1 ((j2 : Nat) : Int) := by rw [hx1, T1]; exact OW.out
            have T2 := Wk.turnS_own OW1 1
            obtain ⟨x2, hx2⟩ : ∃ x2, x2 = Wk.turnS x1 ((j2 : Nat) : Int) 1 := ⟨_, rfl⟩
            have OW2 : Wk.own x2 ((j2 : Nat) : Int) := by rw [hx2, T2]; exact OW1
            have L1 : x1.l = Wk.setL x.l j2 (Su.go (x.l j2)) := by rw [hx1, T1]; rfl
            have L2 : x2.l = Wk.setL x1.l j2 (Su.go (x1.l j2)) := by rw [hx2, T2]; rfl
            have E2 : x2.l j2 = Su.go (Su.go (x.l j2)) := by rw [L2, Wk.setL_at, L1, Wk.setL_at]
            have N2 : Hid (x2.n = 0 ∧ x2.many = 1) := by
              have a1 := Wk.turnS_nm x ((j2 : Nat) : Int) 1
              have a2 := Wk.turnS_nm x1 ((j2 : Nat) : Int) 1
              rw [← hx1] at a1
              rw [← hx2] at a2
              exact ⟨a2.1.trans (a1.1.trans hn0), a2.2.trans (a1.2.trans hm1)⟩
            have HST2 : Hid (∀ i, j2 + 1 ≤ i → i < 16 → (x2.l i).st = 0) := fun i h1 h2 => by
              rw [L2, Wk.setL_off _ _ (by omega), L1, Wk.setL_off _ _ (by omega)]
              exact HST.out i (by omega) h2
            have GO1 := Lib.hid (fun F w (h : WIn L W F q x w) => win_go HC.out h hu)
            have GO2 := Lib.hid (fun F w (h : WIn L W F q x1 w) => win_go HC.out h hu)
            rw [← hx1] at GO1
            rw [← hx2] at GO2
            have S2 := Lib.hid (fun F w (h : WIn L W F q x2 w) => win_slot HC.out h hu)
            have ES2 : Wk.slotOf x2 ((j2 : Nat) : Int) = x2.l j2 := if_pos OW2
            rw [ES2, decide_eq_true OW2, E2] at S2
            generalize decide (Wk.turnB x ((j2 : Nat) : Int) 1) = bb1 at *
            generalize decide (Wk.turnB x1 ((j2 : Nat) : Int) 1) = bb2 at *
            clear ES ES2 T1 T2 hx1 hx2 OW OW1 OW2 L1 L2 E2 hn0 hm1 hst hi R0 HST hu
            generalize x.l j2 = a at *
            generalize Su.go (Su.go a) = b at *
            unfold suV suC at S1 S2
            go_upto_region 18 with (go_at_call 16; (with_reducible refine (S1.out _ J.out).mono ?_); rintro e w7 ⟨rfl, hb⟩; replace J := Lib.hid (J.out.on HC.out hb); clear hb)
            have hb := (Below.refl w7.heap.size w7).alloc (Nat.le_refl _) (.cells #[.int .i64 a.st, .int .i64 a.v, .int .i64 a.wa, .int .i64 a.sq] 46)
            have J2 := J.out.more HC.out hb
            have A7 := Lib.hid (SuAt.new 46 w7 a)
            unfold suC at A7
            have hz2 : (w7.alloc (.cells #[.int .i64 a.st, .int .i64 a.v, .int .i64 a.wa, .int .i64 a.sq] 46)).heap.size = w7.heap.size + 1 := by simp
            obtain ⟨g7, hg7⟩ : ∃ g, g = w7.heap.size := ⟨_, rfl⟩
            replace J := Lib.hid (J2.less (G := fun b => b = g7) (fun b e => .inr ⟨by omega, by omega⟩))
            rw [← hg7] at A7 ⊢
            clear hb J2 hz2 hg7
            generalize w7.alloc (.cells #[.int .i64 a.st, .int .i64 a.v, .int .i64 a.wa, .int .i64 a.sq] 46) = w8 at *
            go_upto_region 19 with (go_at_call 21; (with_reducible refine (GO1.out _ _ J.out).mono ?_); rintro e w9 ⟨rfl, hi, hk⟩; replace J := Lib.hid hi; replace A7 : Hid (SuAt 46 w9 g7 a) := (hk _ rfl).trans A7.out; clear hi hk)
            go_upto_region 20 with (go_at_call 21; (with_reducible refine (GO2.out _ _ J.out).mono ?_); rintro e w10 ⟨rfl, hi, hk⟩; replace J := Lib.hid hi; replace A7 : Hid (SuAt 46 w10 g7 a) := (hk _ rfl).trans A7.out; clear hi hk)
            go_upto_region 21 with (go_at_call 16; (with_reducible refine (S2.out _ _ J.out).mono ?_); rintro e w11 ⟨rfl, hb⟩; replace J := Lib.hid (J.out.on HC.out hb); replace A7 := Lib.hid (A7.out.on hb); clear hb)
            have hb := (Below.refl w11.heap.size w11).alloc (Nat.le_refl _) (.cells #[.int .i64 b.st, .int .i64 b.v, .int .i64 b.wa, .int .i64 b.sq] 46)
            have B11 := Lib.hid (SuAt.new 46 w11 b)
            unfold suC at B11
            replace J := Lib.hid (J.out.on HC.out hb)
            replace A7 := Lib.hid (A7.out.on hb)
            obtain ⟨g11, hg11⟩ : ∃ g, g = w11.heap.size := ⟨_, rfl⟩
            rw [← hg11] at B11 ⊢
            clear hb hg11
            generalize w11.alloc (.cells #[.int .i64 b.st, .int .i64 b.v, .int .i64 b.wa, .int .i64 b.sq] 46) = w12 at *
            obtain ⟨d0, d1, d2, d3, dl⟩ := A7.out.cells
            obtain ⟨e0, e1, e2, e3, el⟩ := B11.out.cells
            rcases G2.out with ⟨g1, rfl⟩ | ⟨g1, rfl⟩
            · have g0 : b.wa = 0 := g1
              have g2 : b.st = 0 := HAZ.out
              rw [g0] at d2 e2
              rw [g2] at d0 e0
              clear g1 g0 g2 G2
              go_wp2_with fail
              exact ⟨⟨j2 + 1, x2, by go_num, by omega, J.out.less (fun _ h => h.elim), N2.out.1, N2.out.2, HST2.out⟩, by simp [intOf]; omega⟩
            · simp only at e0 e1 e2
              clear G2
              go_wp2_with fail
              exact ⟨⟨j2 + 1, x2, by go_num, by omega, J.out.less (fun _ h => h.elim), N2.out.1, N2.out.2, HST2.out⟩, by simp [intOf]; omega⟩
          · obtain rfl : j2 = 16 := by omega
            go_wp2_with fail
            go_ret
            exact ⟨rfl, J.out.below⟩
end Go.Proofs.Ytgljepjflpijiaa
