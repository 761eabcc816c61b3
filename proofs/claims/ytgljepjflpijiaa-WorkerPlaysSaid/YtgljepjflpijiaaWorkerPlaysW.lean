/-
  WorkerPlays. Written by wip/tools/gen/wklaws.py. No condition.
-/
import Derived.Test.YtgljepjflpijiaaWkLaw0
import Derived.Test.YtgljepjflpijiaaWkRef4
namespace Go.Proofs.Ytgljepjflpijiaa
open Go.RowKit Go.Deep
set_option linter.unusedSimpArgs false
set_option linter.unusedVariables false
set_option maxRecDepth 100000

theorem wkplays_no {L : WkP} (hC : WC L) (n many : Int) (hn : Nt.i64 n) (hm : Nt.i64 many) (hno : ¬ Wk.mayNew n many) (v : Value) (W : World) : Calls Try.prog 3 #[.int .i64 n, .int .i64 many, v] W (WkAns (.bool true) W) := by
  have CL := Lib.hid (fun W => wklives_any hC W)
  have C1 := Lib.hid (fun W => hC.none_ W n many hn hm hno)
  have C2 := Lib.hid (fun W => rwnew_any n many W)
  rw [if_neg hno, if_neg hno] at C2
  have B := Lib.hid (Below.refl W.heap.size W)
  clear hC hn hm hno
  go_enter Try.func3, Try.ntmps3
  go_wp2_with (first
    | (go_at_call 9; (with_reducible refine (CL.out _).mono ?_); rintro e w2 ⟨rfl, hb⟩; replace B := Lib.hid (B.out.trans (hb.mono B.out.size)); clear hb)
    | (go_at_call 10; (with_reducible refine (C1.out _).mono ?_); rintro e w2 ⟨rfl, hb⟩; replace B := Lib.hid (B.out.trans (hb.mono B.out.size)); clear hb)
    | (go_at_call 11; (with_reducible refine (C2.out _).mono ?_); rintro e w3 ⟨rfl, hb⟩; replace B := Lib.hid (B.out.trans (hb.mono B.out.size)); clear hb)
    | ((with_reducible show wpList _ _ _ ({ dst := none, op := .store _ _ _, type := _, pos := _, after := _, guard := _ } :: _) _ _); refine wpList_store_wk rfl (.tmp 9) (.tmp 26) rfl rfl rfl (WkAt.zero _) ?_))
  go_ret
  exact ⟨rfl, below_row (B.out.alloc B.out.size _) (grown_row _ _ _) B.out.size⟩
set_option maxHeartbeats 6400000 in
theorem wkplays_yes {L : WkP} (hC : WC L) (n many : Int) (hn : Nt.i64 n) (hm : Nt.i64 many) (hok : Wk.mayNew n many) (A : Option Addr) (k c : Nat) (l : List WStep) (W : World) (hs : SlW W A k c l) : Calls Try.prog 3 #[.int .i64 n, .int .i64 many, .slice A k c] W (WkAns (.bool true) W) := by
  have CL := Lib.hid (fun W => wklives_any hC W)
  have C1 := Lib.hid (fun w (hb : Below W.heap.size W w) => win_make (F := fun _ => False) hC hn hm hok hb (fun _ h => h.elim))
  have C2 := Lib.hid (fun W => rwnew_any n many W)
  rw [if_pos hok, if_pos hok] at C2
  have B := Lib.hid (Below.refl W.heap.size W)
  have HC := Lib.hid hC
  have SW := Lib.hid hs
  have KL := hs.1.len
  have KC := hs.1.cap
  have KM := hs.1.max
  unfold maxLen at KM
  have hz := wk_zero
  clear hC hn hm hok hs
  go_enter Try.func3, Try.ntmps3
  go_upto_region 3 with (go_at_call 9; (with_reducible refine (CL.out _).mono ?_); rintro e w2 ⟨rfl, hb⟩; replace B := Lib.hid (B.out.trans (hb.mono B.out.size)); clear hb)
  go_upto_region 5 with (first
    | (go_at_call 10; (with_reducible refine (C1.out _ B.out).mono ?_); rintro e w3 ⟨q, rfl, hi, hb⟩; have I := Lib.hid hi; replace B := Lib.hid (B.out.trans (hb.mono B.out.size)); clear hb hi)
    | (go_at_call 11; (with_reducible refine (C2.out _).mono ?_); rintro e w4 ⟨rfl, hb⟩; replace I := Lib.hid (I.out.on HC.out hb); clear hb)
    | ((with_reducible show wpList _ _ _ ({ dst := none, op := .store _ _ _, type := _, pos := _, after := _, guard := _ } :: _) _ _); refine wpList_store_wk rfl (.tmp 9) (.tmp 26) rfl rfl rfl (WkAt.zero _) ?_))
  rw [wkcell]
  have hb := (Below.refl w4.heap.size w4).alloc (Nat.le_refl _) (.cells (Wk.cells (Wk.new n many)) 32)
  have R := Lib.hid (WkAt.new w4 (Wk.new n many))
  have I2 := I.out.more HC.out hb
  obtain ⟨gr, hgr⟩ : ∃ g, g = w4.heap.size := ⟨_, rfl⟩
  have hz2 : (w4.alloc (.cells (Wk.cells (Wk.new n many)) 32)).heap.size = w4.heap.size + 1 := by simp
  have GR : Hid (W.heap.size ≤ gr) := by have := I.out.below.size; show _ ≤ _; omega
  replace I := Lib.hid (I2.less (G := fun b => b = gr) (fun b e => .inr ⟨by omega, by omega⟩))
  rw [← hgr] at R ⊢
  clear hb hgr hz2 I2 B
  generalize w4.alloc (.cells (Wk.cells (Wk.new n many)) 32) = w5 at *
  generalize Wk.new n many = r0 at *
  go_wp2_with fail
  go_loopw [11] (fun i wr => ∃ (j : Nat) (r : Wk.W), i = .int .i64 (j : Nat) ∧ j ≤ 60 ∧ j ≤ k ∧ WkAt wr gr r ∧ WIn L W (fun b => b = gr) q r wr) (fun i wr => k - (intOf i).toNat)
  case atStart => exact ⟨0, r0, rfl, by omega, by omega, R.out, I.out⟩
  case round =>
    obtain ⟨j, r, rfl, hj60, hjk, hr, hi⟩ := hrel
    replace R := Lib.hid hr
    replace I := Lib.hid hi
    clear hr hi
    have q0 : (0 : Int) ≤ (j : Int) := by omega
    have q1 : ((j : Nat) : Int) ≤ 60 := by omega
    by_cases hlt : j < k
    · by_cases h60 : j < 60
      · have hjl : j < l.length := by rw [← KL]; exact hlt
        obtain ⟨bq, oq, rfl, hbl, hrg⟩ := wst_range SW.out.1 (List.getElem?_eq_getElem hjl)
        have IN := Lib.hid (SW.out.2 _ (List.getElem_mem hjl))
        generalize l[j] = st at *
        have BL := Lib.hid hbl
        have SR := Lib.hid (wst_on hrg (I.out.below.block _ hbl))
        have q2 : ((j : Nat) : Int) < ((k : Nat) : Int) := by omega
        have q3 : ((j : Nat) : Int) < 60 := by omega
        clear hbl hrg hjl
        go_upto_region 12 with fail
        go_cut [12, 13] (fun s1 s2 wx => ∃ gn, s1 = .pointer (some ⟨gn, 0, none⟩) ∧ s2 = .bool true ∧ WkAt wx gr r ∧ WkAt wx gn (Wk.stepS r st) ∧ WIn L W (fun b => b = gr) q (Wk.stepS r st) wx)
        case first =>
          have hW0 := I.out.below
          refine wp_region_held_drew (S := fun V => WkAt V gr r ∧ V.rangeAt bq (oq + j * 8) (wstC st)) (by kernel_rfl) ⟨R.out.on (Below.refl _ _).drew, wst_on SR.out rfl⟩ (fun hS => ?_)
          replace I := Lib.hid (I.out.on HC.out (Below.refl wr.heap.size wr).drew)
          obtain ⟨w, hw0⟩ : ∃ w, w = wr.drew := ⟨_, rfl⟩
          rw [← hw0] at I hS ⊢
          clear hw0 hW0
          refine tkYes 0 (v := ?_) rfl (by kernel_rfl) (fun _ _ _ h => h) rfl ?_ hS ?_
          rotate_left
          · intro W hW; go_simp; (try with_reducible rfl)
          simp only [Act.put, List.setIfInBounds_toArray, List.set_cons_zero, List.set_cons_succ]
          refine tkYes 1 (v := .agg (Wk.cells r)) rfl (by kernel_rfl) (fun _ _ _ h => h) rfl (fun W hW => take_wk (.tmp 9) rfl rfl hW.1) hS ?_
          simp only [Act.put, List.setIfInBounds_toArray, List.set_cons_zero, List.set_cons_succ]
          refine tkYes 2 (v := ?_) rfl (by kernel_rfl) (fun _ _ _ h => h) rfl ?_ hS ?_
          rotate_left
          · intro W hW; go_simp; (try with_reducible rfl)
          simp only [Act.put, List.setIfInBounds_toArray, List.set_cons_zero, List.set_cons_succ]
          refine tkYes 3 (v := ?_) rfl (by kernel_rfl) (fun _ _ _ h => h) rfl ?_ hS ?_
          rotate_left
          · intro W hW; go_simp; (try with_reducible rfl)
          simp only [Act.put, List.setIfInBounds_toArray, List.set_cons_zero, List.set_cons_succ]
          refine tkYes 4 (v := ?_) rfl (by kernel_rfl) (fun _ _ _ h => h) rfl ?_ hS ?_
          rotate_left
          · intro W hW; go_simp; (try with_reducible rfl)
          simp only [Act.put, List.setIfInBounds_toArray, List.set_cons_zero, List.set_cons_succ]
          refine tkYes 5 (v := wsV st) rfl (by kernel_rfl) (fun _ _ _ h => h) rfl (fun W hW => take_wst (.tmp 55) rfl rfl hW.2) hS ?_
          simp only [Act.put, List.setIfInBounds_toArray, List.set_cons_zero, List.set_cons_succ]
          refine rnTwo 6 10 rfl rfl (by kernel_rfl) rfl rfl (fun K hK => ?_) (fun K hK => ?_)
          · skip
            go_simp
            with_reducible refine (wkdoes_any HC.out I.out (fun b hb => ?_) st IN.out).mono ?_
            · obtain rfl := hb; exact hS.1.cs.2.2.2
            rintro e w6 ⟨rfl, hi, hk⟩
            have hlt := hi.below
            replace hS := And.intro (hS.1.keep (hk _ rfl)) (wst_on hS.2 ((hlt.block _ BL.out).trans (I.out.below.block _ BL.out).symm))
            replace I := Lib.hid hi
            clear hi hk hlt
            try go_simp
            refine hK.out _ _ hS (fun _ => ?_)
            clear hK K
            try simp only [Act.put, List.setIfInBounds_toArray, List.set_cons_zero, List.set_cons_succ]
            refine tkYes 7 (v := ?_) rfl (by kernel_rfl) (fun _ _ _ h => h) rfl ?_ hS ?_
            rotate_left
            · intro W hW; go_simp; (try with_reducible rfl)
            simp only [Act.put, List.setIfInBounds_toArray, List.set_cons_zero, List.set_cons_succ]
            refine tkYes 8 (v := ?_) rfl (by kernel_rfl) (fun _ _ _ h => h) rfl ?_ hS ?_
            rotate_left
            · intro W hW; go_simp; (try with_reducible rfl)
            simp only [Act.put, List.setIfInBounds_toArray, List.set_cons_zero, List.set_cons_succ]
            refine tkYes 9 (v := ?_) rfl (by kernel_rfl) (fun _ _ _ h => h) rfl ?_ hS ?_
            rotate_left
            · intro W hW; go_simp; (try with_reducible rfl)
            simp only [Act.put, List.setIfInBounds_toArray, List.set_cons_zero, List.set_cons_succ]
            refine rnOne 10 rfl (by kernel_rfl) rfl (fun K hK => ?_)
            go_simp
            have hb := (Below.refl w6.heap.size w6).alloc (Nat.le_refl _) (.cells Wk.zeros 32)
            have X := Lib.hid (WkAt.zero w6)
            have I2 := I.out.more HC.out hb
            have hgl := I.out.below.size
            have hgx := hS.1.cs.2.2.2
            obtain ⟨gn, hgn⟩ : ∃ g, g = w6.heap.size := ⟨_, rfl⟩
            have hz : (w6.alloc (.cells Wk.zeros 32)).heap.size = w6.heap.size + 1 := by simp
            replace I := Lib.hid (I2.less (G := fun b => b = gr ∨ b = gn) (fun b h => h.elim .inl fun e => .inr ⟨by omega, by omega⟩))
            have GA : Hid (W.heap.size ≤ gn) := by show _ ≤ _; omega
            have GN : Hid (gr ≠ gn) := by show _ ≠ _; omega
            replace hS := And.intro (hS.1.on hb) (wst_on hS.2 (hb.block _ (Nat.lt_of_lt_of_le BL.out hgl)))
            rw [← hgn] at X ⊢
            clear hb hgn hz I2 hgl hgx
            generalize w6.alloc (.cells Wk.zeros 32) = w7 at *
            refine hK.out _ _ hS (fun _ => ?_)
            clear hK K
            try simp only [Act.put, List.setIfInBounds_toArray, List.set_cons_zero, List.set_cons_succ]
            refine rnOne 11 rfl (by kernel_rfl) rfl (fun K hK => ?_)
            refine wp_store_row 32 (.tmp 12) (.tmp 58) rfl gn (Wk.cells (Wk.stepS r st)) rfl rfl 32 _ X.out.row (wk_size _) rfl (wk_one _) ?_
            have hI := I.out.row HC.out (.inr rfl) GA.out (Wk.cells (Wk.stepS r st))
            replace hS := And.intro (wk_offRow hS.1 (q := gn) (fun e => GN.out e.symm) (Wk.cells (Wk.stepS r st))) (wst_on hS.2 (nt_rowOff (q := gn) (by have := GA.out; have := BL.out; omega) (Wk.cells (Wk.stepS r st))))
            replace X := Lib.hid (X.out.setRow (Wk.stepS r st))
            refine hK.out _ _ hS (fun _ => ?_)
            clear hK K
            try simp only [Act.put, List.setIfInBounds_toArray, List.set_cons_zero, List.set_cons_succ]
            refine tkYes 12 (v := ?_) rfl (by kernel_rfl) (fun _ _ _ h => h) rfl ?_ hS ?_
            rotate_left
            · intro W hW; go_simp; (try with_reducible rfl)
            simp only [Act.put, List.setIfInBounds_toArray, List.set_cons_zero, List.set_cons_succ]
            refine wpAnyH_done (by kernel_rfl) ?_ _
            go_wp2_with fail
            go_meet
            case rel => exact ⟨gn, rfl, rfl, hS.1, X.out, hI.less fun b h => .inl h⟩
          · skip
            go_simp
            have hb := (Below.refl w.heap.size w).alloc (Nat.le_refl _) (.cells Wk.zeros 32)
            have X := Lib.hid (WkAt.zero w)
            have I2 := I.out.more HC.out hb
            have hgl := I.out.below.size
            have hgx := hS.1.cs.2.2.2
            obtain ⟨gn, hgn⟩ : ∃ g, g = w.heap.size := ⟨_, rfl⟩
            have hz : (w.alloc (.cells Wk.zeros 32)).heap.size = w.heap.size + 1 := by simp
            replace I := Lib.hid (I2.less (G := fun b => b = gr ∨ b = gn) (fun b h => h.elim .inl fun e => .inr ⟨by omega, by omega⟩))
            have GA : Hid (W.heap.size ≤ gn) := by show _ ≤ _; omega
            have GN : Hid (gr ≠ gn) := by show _ ≠ _; omega
            replace hS := And.intro (hS.1.on hb) (wst_on hS.2 (hb.block _ (Nat.lt_of_lt_of_le BL.out hgl)))
            rw [← hgn] at X ⊢
            clear hb hgn hz I2 hgl hgx
            generalize w.alloc (.cells Wk.zeros 32) = w6 at *
            refine hK.out _ _ hS (fun _ => ?_)
            clear hK K
            try simp only [Act.put, List.setIfInBounds_toArray, List.set_cons_zero, List.set_cons_succ]
            refine rnOne 6 rfl (by kernel_rfl) rfl (fun K hK => ?_)
            go_simp
            with_reducible refine (wkdoes_any HC.out I.out (fun b hb => ?_) st IN.out).mono ?_
            · rcases hb with rfl | rfl; exact hS.1.cs.2.2.2; exact X.out.cs.2.2.2
            rintro e w7 ⟨rfl, hi, hk⟩
            have hlt := hi.below
            replace hS := And.intro (hS.1.keep (hk _ (.inl rfl))) (wst_on hS.2 ((hlt.block _ BL.out).trans (I.out.below.block _ BL.out).symm))
            replace X := Lib.hid (X.out.keep (hk _ (.inr rfl)))
            replace I := Lib.hid hi
            clear hi hk hlt
            try go_simp
            refine hK.out _ _ hS (fun _ => ?_)
            clear hK K
            try simp only [Act.put, List.setIfInBounds_toArray, List.set_cons_zero, List.set_cons_succ]
            refine tkYes 7 (v := ?_) rfl (by kernel_rfl) (fun _ _ _ h => h) rfl ?_ hS ?_
            rotate_left
            · intro W hW; go_simp; (try with_reducible rfl)
            simp only [Act.put, List.setIfInBounds_toArray, List.set_cons_zero, List.set_cons_succ]
            refine tkYes 8 (v := ?_) rfl (by kernel_rfl) (fun _ _ _ h => h) rfl ?_ hS ?_
            rotate_left
            · intro W hW; go_simp; (try with_reducible rfl)
            simp only [Act.put, List.setIfInBounds_toArray, List.set_cons_zero, List.set_cons_succ]
            refine tkYes 9 (v := ?_) rfl (by kernel_rfl) (fun _ _ _ h => h) rfl ?_ hS ?_
            rotate_left
            · intro W hW; go_simp; (try with_reducible rfl)
            simp only [Act.put, List.setIfInBounds_toArray, List.set_cons_zero, List.set_cons_succ]
            refine rnOne 11 rfl (by kernel_rfl) rfl (fun K hK => ?_)
            refine wp_store_row 32 (.tmp 12) (.tmp 58) rfl gn (Wk.cells (Wk.stepS r st)) rfl rfl 32 _ X.out.row (wk_size _) rfl (wk_one _) ?_
            have hI := I.out.row HC.out (.inr rfl) GA.out (Wk.cells (Wk.stepS r st))
            replace hS := And.intro (wk_offRow hS.1 (q := gn) (fun e => GN.out e.symm) (Wk.cells (Wk.stepS r st))) (wst_on hS.2 (nt_rowOff (q := gn) (by have := GA.out; have := BL.out; omega) (Wk.cells (Wk.stepS r st))))
            replace X := Lib.hid (X.out.setRow (Wk.stepS r st))
            refine hK.out _ _ hS (fun _ => ?_)
            clear hK K
            try simp only [Act.put, List.setIfInBounds_toArray, List.set_cons_zero, List.set_cons_succ]
            refine tkYes 12 (v := ?_) rfl (by kernel_rfl) (fun _ _ _ h => h) rfl ?_ hS ?_
            rotate_left
            · intro W hW; go_simp; (try with_reducible rfl)
            simp only [Act.put, List.setIfInBounds_toArray, List.set_cons_zero, List.set_cons_succ]
            refine wpAnyH_done (by kernel_rfl) ?_ _
            go_wp2_with fail
            go_meet
            case rel => exact ⟨gn, rfl, rfl, hS.1, X.out, hI.less fun b h => .inl h⟩
        case rest =>
          obtain ⟨gn, rfl, rfl, hr9, hn9, hi9⟩ := hcut
          have R9 := Lib.hid hr9
          have X9 := Lib.hid hn9
          replace I := Lib.hid hi9
          clear hr9 hn9 hi9 R SR
          go_upto_region 14 with (first
            | ((with_reducible show wpList _ _ _ ({ dst := some 60, op := .load _ _, type := _, pos := _, after := _, guard := _ } :: _) _ _); refine wpList_load_wk rfl (.tmp 12) rfl rfl X9.out ?_)
            | ((with_reducible show wpList _ _ _ ({ dst := none, op := .store _ _ _, type := _, pos := _, after := _, guard := _ } :: _) _ _); refine wpList_store_wk rfl (.tmp 9) (.tmp 60) rfl rfl rfl R9.out ?_; have R8 := Lib.hid (R9.out.setRow (Wk.stepS r st)); replace I := Lib.hid (I.out.row HC.out rfl GR.out (Wk.cells (Wk.stepS r st)))))
          generalize wc.setRow gr (Wk.cells (Wk.stepS r st)) = w7 at *
          go_wp2_with (first
            | ((with_reducible show wpList _ _ _ ({ dst := some 65, op := .load _ _, type := _, pos := _, after := _, guard := _ } :: _) _ _); refine wpList_load_wkw (by rfl) (.tmp 9) rfl rfl R8.out ?_)
            | (go_at_call 13; (with_reducible refine (wklike_any HC.out I.out).mono ?_); rintro e w8 ⟨rfl, hb⟩; have R10 := Lib.hid (R8.out.on hb); replace I := Lib.hid (I.out.on HC.out hb); clear hb))
          exact ⟨⟨j + 1, _, by go_num, by omega, by omega, R10.out, I.out⟩, by simp [intOf]; omega⟩
      · have q3 : (60 : Int) ≤ (j : Int) := by omega
        have q2 : ((j : Nat) : Int) < ((k : Nat) : Int) := by omega
        go_wp2_with fail
        go_ret
        exact ⟨rfl, I.out.below⟩
    · have q2 : ((k : Nat) : Int) ≤ ((j : Nat) : Int) := by omega
      go_wp2_with fail
      go_ret
      exact ⟨rfl, I.out.below⟩
theorem wkplays_walk {L : WkP} (hC : WC L) (n many : Int) (hn : Nt.i64 n) (hm : Nt.i64 many) (A : Option Addr) (k c : Nat) (l : List WStep) (W : World) (hs : SlW W A k c l) : Calls Try.prog 3 #[.int .i64 n, .int .i64 many, .slice A k c] W (WkAns (.bool true) W) := by
  by_cases h : Wk.mayNew n many
  · exact wkplays_yes hC n many hn hm h A k c l W hs
  · exact wkplays_no hC n many hn hm h _ W
end Go.Proofs.Ytgljepjflpijiaa
