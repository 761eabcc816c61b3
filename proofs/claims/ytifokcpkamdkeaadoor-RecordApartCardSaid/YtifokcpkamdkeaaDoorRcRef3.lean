/-
  The document's package of layer 10: a record's bytes. No condition.
-/
import Derived.Test.YtifokcpkamdkeaaDoorRcRef2
import Derived.Test.YtifokcpkamdkeaaDoorCdcRef
namespace Go.Proofs.YtifokcpkamdkeaaDoor
open Go.RowKit Cdc
set_option linter.unusedSimpArgs false
set_option linter.unusedVariables false

theorem own_sli {w : World} {B n c : Nat} {A : Option Addr} {l : List Int} (h : OwnI w B (.slice A n c) l) : SlI w A n c l := by
  obtain ⟨A', c', e, h2⟩ := h.sl
  injection e with e1 e2 e3
  rw [e1, e2, e3]
  exact h2
theorem blk_at {w w' : World} {q : Nat} {o : Obj} (h : w.heap[q]? = some o) (hb : Below w.heap.size w w') : w'.heap[q]? = some o := (hb.block q (Array.getElem?_eq_some_iff.1 h).1).trans h
def Rc.bytesL (r : Rc.R) : List Nat := if Rc.right r = true then Rc.bytes r else []
def Rc.bytesE (r : Rc.R) : Int := if Rc.right r = true then 0 else 1
theorem Rc.bytes_yes {r : Rc.R} (h : Rc.right r = true) : Rc.bytesL r = Rc.bytes r ∧ Rc.bytesE r = 0 := by unfold Rc.bytesL Rc.bytesE; rw [if_pos h, if_pos h]; exact ⟨rfl, rfl⟩
theorem Rc.bytes_no {r : Rc.R} (h : Rc.right r = false) : Rc.bytesL r = [] ∧ Rc.bytesE r = 1 := by unfold Rc.bytesL Rc.bytesE; rw [if_neg (by rw [h]; simp), if_neg (by rw [h]; simp)]; exact ⟨rfl, rfl⟩
theorem numL_small {l : List Nat} {x : Int} (h : sz x ≠ 0) : numL l x = l ++ digs x.toNat ∧ numE x = 0 := by unfold numL numE; rw [if_neg h, if_neg h]; exact ⟨rfl, rfl⟩
theorem fl_next {ns : List Int} {j : Nat} (hj : j < ns.length) (h : sz (ns.getD j 0) ≠ 0) : fl (ns.take (j + 1)) = fl (ns.take j) ++ digs (ns.getD j 0).toNat := by
  obtain ⟨m, hm, _⟩ := sz_pos h
  rw [fl_snoc hj hm, hm, Int.toNat_natCast]
set_option maxRecDepth 100000 in
set_option maxHeartbeats 6400000 in
theorem rcbytes_any (r : Rc.R) (hin : Rc.In r) (w : World) : Calls Tryd.prog 8 #[Rc.val r] w (RPost (Rc.bytesL r) (Rc.bytesE r) w) := by
  have HI := Lib.hid hin
  have HSZ : Hid ((Tryd.prog.info? 26).map (·.size) = some (Rc.cells r).size) := rec_size _
  have RA := Lib.hid (RcAt.new w r)
  have B1 := Lib.hid ((Below.refl w.heap.size w).alloc (Nat.le_refl _) (.cells (Rc.cells r) 26))
  have CR := Lib.hid (fun W => rcright_any r hin W)
  clear hin
  unfold Rc.val at CR
  show Calls _ _ #[.agg (Rc.cells r)] _ _
  cases hr : Rc.right r with
  | false =>
    rw [hr] at CR
    rw [(Rc.bytes_no hr).1, (Rc.bytes_no hr).2]
    clear hr
    go_enter Tryd.func8, Tryd.ntmps8
    go_upto_region 1 with fail
    obtain ⟨g, hg⟩ : ∃ g, g = w.heap.size := ⟨_, rfl⟩
    rw [← hg] at RA ⊢
    clear hg
    generalize w.alloc (.cells (Rc.cells r) 26) = ws at *
    go_wp2_with (first
      | ((with_reducible show wpList _ _ _ ({ dst := some 14, op := .load _ _, type := _, pos := _, after := _, guard := _ } :: _) _ _); refine wpList_load_row rfl 26 (.tmp 1) rfl g rfl 26 _ (0, 0) _ RA.out.row rec_fields rfl HSZ.out ?_)
      | (go_at_call 10; (with_reducible refine (CR.out _).mono ?_); rintro e w1 ⟨rfl, hb⟩; have B1 := Lib.hid (B1.out.trans (hb.mono B1.out.size)); clear hb))
    go_ret2
    exact ⟨none, 0, rfl, Sl.none_ _, B1.out⟩
  | true =>
    rw [hr] at CR
    have OK := Lib.hid (Rc.ok_of hr)
    have EB : Hid (Rc.bytes r = fl (Rc.nums r) ++ ((digs r.text.size ++ sb r.text) ++ (if r.kind = 3 then digs 12 ++ fl (Spc.flds r.sp) else []))) := rfl
    rw [(Rc.bytes_yes hr).1, (Rc.bytes_yes hr).2]
    clear hr
    have SZN : Hid (∀ j, j < 5 → sz ((Rc.nums r).getD j 0) ≠ 0) := fun j hj => by
      have := OK.out.nums ((Rc.nums r).getD j 0) (by rw [getD_at hj]; exact List.getElem_mem _)
      exact Rc.sz_small this.1 this.2
    go_enter Tryd.func8, Tryd.ntmps8
    go_upto_region 1 with fail
    obtain ⟨g, hg⟩ : ∃ g, g = w.heap.size := ⟨_, rfl⟩
    rw [← hg] at RA ⊢
    clear hg
    generalize w.alloc (.cells (Rc.cells r) 26) = ws at *
    go_upto_region 5 with (first
      | ((with_reducible show wpList _ _ _ ({ dst := some 14, op := .load _ _, type := _, pos := _, after := _, guard := _ } :: _) _ _); refine wpList_load_row rfl 26 (.tmp 1) rfl g rfl 26 _ (0, 0) _ RA.out.row rec_fields rfl HSZ.out ?_)
      | (go_at_call 10; (with_reducible refine (CR.out _).mono ?_); rintro e w1 ⟨rfl, hb⟩; have RA := Lib.hid (RA.out.on hb); have B1 := Lib.hid (B1.out.trans (hb.mono B1.out.size)); clear hb))
    obtain ⟨c0, c1, c2, c3, c4, c5, c6, c7, c8, c9, c10, c11, c12, c13, c14, c15, c16, c17, clt⟩ := RA.out.cs
    have BN := Lib.hid ((Below.refl w1.heap.size w1).alloc (Nat.le_refl _) (.cells #[.int .i64 r.kind, .int .i64 r.epoch, .int .i64 r.who, .int .i64 r.n, .int .i64 r.seq] 3))
    have RN := Lib.hid (heap_alloc_new w1 (.cells #[.int .i64 r.kind, .int .i64 r.epoch, .int .i64 r.who, .int .i64 r.n, .int .i64 r.seq] 3))
    go_upto_region 6 with fail
    obtain ⟨q, hq⟩ : ∃ q, q = w1.heap.size := ⟨_, rfl⟩
    rw [← hq] at RN ⊢
    have RA := Lib.hid (RA.out.on BN.out)
    have B1 := Lib.hid (B1.out.trans (BN.out.mono B1.out.size))
    clear hq c0 c1 c2 c3 c4 c5 c6 c7 c8 c9 c10 c11 c12 c13 c14 c15 c16 c17 clt BN
    generalize w1.alloc (.cells #[.int .i64 r.kind, .int .i64 r.epoch, .int .i64 r.who, .int .i64 r.n, .int .i64 r.seq] 3) = w2 at *
    have QC : Hid (∀ wr, Below w2.heap.size w2 wr → ∀ j, j < 5 → wr.cell? ⟨q, j, none⟩ = some (.int .i64 ((Rc.nums r).getD j 0))) := fun wr hb j hj => by
      have hrow := blk_at RN.out hb
      rw [cell_of_row _ _ _ _ _ _ hrow]
      rcases j with _ | _ | _ | _ | _ | j
      all_goals first | rfl | omega
    go_wp2_with fail
    go_loopw [5, 7] (fun b i wr => ∃ j : Nat, j ≤ 5 ∧ i = .int .i64 j ∧ (∃ A c, b = .slice A (fl ((Rc.nums r).take j)).length c ∧ Sl wr A (fl ((Rc.nums r).take j)).length c (fl ((Rc.nums r).take j))) ∧ Below w2.heap.size w2 wr) (fun _ i _ => 5 - (intOf i).toNat)
    case atStart => exact ⟨0, by omega, rfl, ⟨none, 0, rfl, Sl.none_ _⟩, Below.refl _ _⟩
    case round =>
      obtain ⟨j, hj, rfl, ⟨A, c, rfl, hsl⟩, hbr⟩ := hrel
      have SL := Lib.hid hsl
      have BR := Lib.hid hbr
      clear hsl hbr
      by_cases hlt : j < 5
      · have cj := QC.out _ BR.out j hlt
        have LL : Hid ((fl ((Rc.nums r).take j)).length ≤ 1000000) := by
          have := fl_len (Rc.all_small OK.out.nums) j (by show j ≤ 5; omega)
          show _ ≤ _; omega
        have NX := Lib.hid (fl_next (ns := Rc.nums r) hlt (SZN.out j hlt))
        have CN := Lib.hid (refNumber_any _ c ((Rc.nums r).getD j 0) A _ wr SL.out LL.out)
        rw [(numL_small (SZN.out j hlt)).1, (numL_small (l := []) (SZN.out j hlt)).2, ← NX.out] at CN
        generalize (Rc.nums r).getD j 0 = x at *
        generalize fl ((Rc.nums r).take j) = lj at *
        obtain ⟨lk, hlk⟩ : ∃ lk, lk = fl ((Rc.nums r).take (j + 1)) := ⟨_, rfl⟩
        rw [← hlk] at CN
        have HLK := Lib.hid hlk
        clear hlk NX
        go_wp2_with (go_at_call 21; (with_reducible refine CN.out.mono ?_); rintro e w3 ⟨A3, c3, rfl, hs3, hb3⟩; have S3 := Lib.hid hs3; have B3 := Lib.hid (BR.out.trans (hb3.mono BR.out.size)); clear hs3 hb3)
        exact ⟨⟨j + 1, by omega, by go_num, (by have h := HLK.out; subst h; exact ⟨A3, c3, rfl, S3.out⟩), B3.out⟩, by simp [intOf]; omega⟩
      · have ej : j = 5 := by omega
        subst ej
        rw [show (Rc.nums r).take 5 = Rc.nums r from rfl] at SL ⊢
        have LL : Hid ((fl (Rc.nums r)).length ≤ 45) := by
          have := Rc.fl_le OK.out.nums
          rw [show (Rc.nums r).length = 5 from rfl] at this
          exact this
        have B2 := Lib.hid (B1.out.trans (BR.out.mono B1.out.size))
        have RA := Lib.hid (RA.out.on BR.out)
        have TL : Hid (textL (fl (Rc.nums r)) r.text = (fl (Rc.nums r) ++ digs r.text.size ++ sb r.text) ∧ textE r.text = 0) := by
          unfold textL textE; rw [if_pos OK.out.text, if_pos OK.out.text]; exact ⟨rfl, rfl⟩
        have CT := Lib.hid (refText_any _ c r.text A _ wr SL.out (by have := LL.out; omega))
        rw [TL.out.1, TL.out.2] at CT
        have L2 : Hid ((fl (Rc.nums r) ++ digs r.text.size ++ sb r.text).length ≤ 900000) := by
          have h3 : (digs r.text.size).length ≤ 9 := digs_nine (by have := OK.out.text; omega)
          have h4 := sb_length r.text
          have := OK.out.text
          have := LL.out
          rw [List.length_append, List.length_append]; show _ ≤ _; omega
        rw [← List.append_assoc, ← List.append_assoc] at EB
        generalize fl (Rc.nums r) = l1 at *
        generalize l1 ++ digs r.text.size ++ sb r.text = l2 at *
        obtain ⟨c0, c1, c2, c3, c4, c5, c6, c7, c8, c9, c10, c11, c12, c13, c14, c15, c16, c17, clt⟩ := RA.out.cs
        by_cases hk : r.kind = 3
        · have hke : (r.kind == 3) = true := by rw [beq_iff_eq]; exact hk
          rw [if_pos hk] at EB
          have LA : Hid (listL l2 (Spc.flds r.sp) = l2 ++ digs 12 ++ fl (Spc.flds r.sp) ∧ listE (Spc.flds r.sp) = 0) := by
            have ha := Rc.all_small OK.out.flds
            unfold listL listE
            rw [Spc.flds_length, if_pos (by omega), if_pos ha, if_pos (by omega), if_pos ha]
            exact ⟨rfl, rfl⟩
          have CF := Lib.hid (fun W => rfields_any r.sp W)
          unfold Spc.val Spc.cells at CF
          rw [← List.append_assoc] at EB
          clear hk
          go_wp2_with (first
            | (go_at_call 22; (with_reducible refine CT.out.mono ?_); rintro e w4 ⟨A4, k4, rfl, hs4, hb4⟩; have S4 := Lib.hid hs4; have B4 := Lib.hid (B2.out.trans (hb4.mono B2.out.size)); have RA := Lib.hid (RA.out.on hb4); clear hs4 hb4 c0 c1 c2 c3 c4 c5 c6 c7 c8 c9 c10 c11 c12 c13 c14 c15 c16 c17 clt; obtain ⟨c0, c1, c2, c3, c4, c5, c6, c7, c8, c9, c10, c11, c12, c13, c14, c15, c16, c17, clt⟩ := RA.out.cs)
            | (go_at_call 24; (with_reducible refine (CF.out _).mono ?_); rintro e w5 ⟨A5, k5, rfl, hs5, hb5⟩; have S5 := Lib.hid hs5; have S4 := Lib.hid (S4.out.on hb5); have B5 := Lib.hid (B4.out.trans (hb5.mono B4.out.size)); clear hs5 hb5)
            | (go_at_call 23; (with_reducible refine (refList_any _ k4 _ _ A4 _ l2 (Spc.flds r.sp) _ S4.out L2.out (own_sli S5.out)).mono ?_); rintro e w6 ⟨A6, k6, rfl, hs6, hb6⟩; have S6 := Lib.hid hs6; have B6 := Lib.hid (B5.out.trans (hb6.mono B5.out.size)); clear hs6 hb6))
          go_ret2
          have h6 := S6.out
          rw [LA.out.1] at h6
          refine ⟨A6, k6, ?_, ?_, B6.out⟩
          · rw [EB.out, ← LA.out.1]; rfl
          · rw [EB.out]; exact h6
        · have hke : (r.kind == 3) = false := by rw [beq_eq_false_iff_ne]; exact hk
          rw [if_neg hk, List.append_nil] at EB
          clear hk
          go_wp2_with (go_at_call 22; (with_reducible refine CT.out.mono ?_); rintro e w4 ⟨A4, k4, rfl, hs4, hb4⟩; have S4 := Lib.hid hs4; have B4 := Lib.hid (B2.out.trans (hb4.mono B2.out.size)); have RA := Lib.hid (RA.out.on hb4); clear hs4 hb4 c0 c1 c2 c3 c4 c5 c6 c7 c8 c9 c10 c11 c12 c13 c14 c15 c16 c17 clt; obtain ⟨c0, c1, c2, c3, c4, c5, c6, c7, c8, c9, c10, c11, c12, c13, c14, c15, c16, c17, clt⟩ := RA.out.cs)
          go_ret2
          rw [EB.out]
          exact ⟨A4, k4, rfl, S4.out, B4.out⟩
end Go.Proofs.YtifokcpkamdkeaaDoor
