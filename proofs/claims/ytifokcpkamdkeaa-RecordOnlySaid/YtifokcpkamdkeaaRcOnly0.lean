/-
  The walk of RecordOnly over any package record that keeps the contracts.
-/
import Derived.Test.YtifokcpkamdkeaaRcC
namespace Go.Proofs.Ytifokcpkamdkeaa
open Go.RowKit Cdc
set_option linter.unusedSimpArgs false

/-- What is asked of package record's Read. -/
abbrev RcRd : Prop := ∀ W A n c l, Sl W A n c l → n ≤ 1000 → Calls Try.prog 7 #[.slice A n c] W (APos W (.tuple #[.agg (Rc.cells (Rc.rdV l)), .int .i64 (Rc.rdE l)]))
theorem rc_eqz (r : Rc.R) (W : World) : (binOp .eql 28 (.agg (Rc.cells r)) (.agg #[.int .i64 0, .int .i64 0, .int .i64 0, .int .i64 0, .int .i64 0, .string ⟨#[]⟩, .int .i64 0, .int .i64 0, .int .i64 0, .int .i64 0, .int .i64 0, .int .i64 0, .int .i64 0, .int .i64 0, .int .i64 0, .int .i64 0, .int .i64 0, .int .i64 0])).run Try.prog W = .ok (.bool (Rc.same r Rc.none_)) W := rec_eq r Rc.none_ W
set_option maxRecDepth 100000 in
set_option maxHeartbeats 3200000 in
theorem rconly_walk (hC : RcC) (hRd : RcRd) (n c : Nat) (A : Option Addr) (l : List Nat) (w : World) (h : Sl w A n c l) :
    Calls Try.prog 5 #[.slice A n c] w fun e w' => e = .returned (.bool true) ∧ Below w.heap.size w w' := by
  have L1 := Lib.hid (rclives_any hC w)
  have SL := Lib.hid (h.few 150)
  have hm1 : min (n : Int) 150 = ((min n 150 : Nat) : Int) := by omega
  have hl1 : ((min n 150 : Nat) : Int) ≤ (c : Int) := by have := h.cap; omega
  have hcp := h.cap
  have hmx := h.max
  unfold maxLen at hmx
  have M150 : Hid (min n 150 ≤ 1000) := by show _ ≤ _; omega
  have ML : Hid (min n 150 = (l.take 150).length) := SL.out.len
  generalize min n 150 = m at *
  generalize l.take 150 = lt at *
  clear h
  obtain ⟨R, hR⟩ : ∃ R, R = Rc.rdV lt := ⟨_, rfl⟩
  have RI : Hid (Rc.In R) := by rw [hR]; exact Rc.rd_in lt
  have CR := Lib.hid (fun W hb => hRd W A m c lt (SL.out.on (w' := W) hb) M150.out)
  have CB := Lib.hid (fun W => hC.bytes W R RI.out)
  have CG := Lib.hid (fun W => hC.right W R RI.out)
  rw [← hR] at CR
  have hgd := rec_guard
  by_cases hw : Rc.whole lt
  · have E0 : Hid (Rc.rdE lt = 0) := (Rc.rd_yes hw).2
    have ER : Hid (Rc.right R = true ∧ Rc.bytes R = lt) := by rw [hR]; exact Rc.rd_only E0.out
    rw [E0.out] at CR
    rw [(Rc.bytes_yes ER.out.1).1, (Rc.bytes_yes ER.out.1).2, ER.out.2] at CB
    rw [ER.out.1] at CG
    clear hw hR
    have hts := txt_same lt
    go_enter Try.func5, Try.ntmps5
    go_upto_region 4 with (go_at_call 6; (with_reducible refine L1.out.mono ?_); rintro e w1 ⟨rfl, hb1⟩; have B1 := Lib.hid hb1; clear hb1)
    go_upto_region 5 with (go_at_call 7; (with_reducible refine (CR.out _ B1.out).mono ?_); rintro e w2 ⟨rfl, hb2⟩; have B2 := Lib.hid (B1.out.trans (hb2.mono B1.out.size)); clear hb2; have hst := rc_storeAt w2 R; have hst2 := rc_store w2 R; unfold Rc.zeros at hst hst2)
    clear hst hst2
    have RA := Lib.hid (RcAt.new w2 R)
    have B3 := Lib.hid (B2.out.alloc (by have := B2.out.size; omega) (.cells (Rc.cells R) 28))
    obtain ⟨g, hg⟩ : ∃ g, g = w2.heap.size := ⟨_, rfl⟩
    rw [← hg] at RA ⊢
    clear hg
    generalize w2.alloc (.cells (Rc.cells R) 28) = w3 at *
    go_upto_region 6 with (first
      | ((with_reducible show wpList _ _ _ ({ dst := some 20, op := .load _ _, type := _, pos := _, after := _, guard := _ } :: _) _ _); refine wpList_load_row rfl 28 (.tmp 3) rfl g rfl 28 _ (0, 0) _ RA.out.row rec_fields rfl (rec_size R) ?_)
      | (go_at_call 10; (with_reducible refine (CB.out _).mono ?_); rintro e w4 ⟨A4, k4, rfl, hs4, hb4⟩; have S4 := Lib.hid hs4; have B4 := Lib.hid (B3.out.trans (hb4.mono B3.out.size)); have RA := Lib.hid (RA.out.on hb4); clear hs4 hb4))
    have S5 := Lib.hid (SL.out.on B4.out)
    have hc1 := conv_rd (c := c) S5.out.rd ML.out
    have hc2 := conv_rd (c := k4) S4.out.rd (n := lt.length) rfl
    go_wp2_with (first
      | ((with_reducible show wpList _ _ _ ({ dst := some 43, op := .load _ _, type := _, pos := _, after := _, guard := _ } :: _) _ _); refine wpList_load_want (by rfl) 28 (.tmp 3) rfl g rfl 28 _ (0, 0) _ RA.out.row rec_fields rfl (rec_size R) ?_)
      | (go_at_call 11; (with_reducible refine (CG.out _).mono ?_); rintro e w5 ⟨rfl, hb5⟩; have B5 := Lib.hid (B4.out.trans (hb5.mono B4.out.size)); clear hb5))
    go_ret
    exact ⟨rfl, B5.out⟩
  · have E0 : Hid (Rc.rdE lt = 2) := (Rc.rd_no hw).2
    have ER : Hid (R = Rc.none_) := by rw [hR]; exact (Rc.rd_no hw).1
    have HB : Hid (Rc.right R = false) := by rw [ER.out]; exact Rc.none_wrong
    rw [E0.out] at CR
    rw [(Rc.bytes_no HB.out).1, (Rc.bytes_no HB.out).2] at CB
    have hez := rc_eqz R
    rw [Rc.same_iff.2 ER.out] at hez
    clear hw hR
    go_enter Try.func5, Try.ntmps5
    go_upto_region 4 with (go_at_call 6; (with_reducible refine L1.out.mono ?_); rintro e w1 ⟨rfl, hb1⟩; have B1 := Lib.hid hb1; clear hb1)
    go_upto_region 5 with (go_at_call 7; (with_reducible refine (CR.out _ B1.out).mono ?_); rintro e w2 ⟨rfl, hb2⟩; have B2 := Lib.hid (B1.out.trans (hb2.mono B1.out.size)); clear hb2; have hst := rc_storeAt w2 R; have hst2 := rc_store w2 R; unfold Rc.zeros at hst hst2)
    clear hst hst2
    have RA := Lib.hid (RcAt.new w2 R)
    have B3 := Lib.hid (B2.out.alloc (by have := B2.out.size; omega) (.cells (Rc.cells R) 28))
    obtain ⟨g, hg⟩ : ∃ g, g = w2.heap.size := ⟨_, rfl⟩
    rw [← hg] at RA ⊢
    clear hg
    generalize w2.alloc (.cells (Rc.cells R) 28) = w3 at *
    go_upto_region 6 with (first
      | ((with_reducible show wpList _ _ _ ({ dst := some 20, op := .load _ _, type := _, pos := _, after := _, guard := _ } :: _) _ _); refine wpList_load_row rfl 28 (.tmp 3) rfl g rfl 28 _ (0, 0) _ RA.out.row rec_fields rfl (rec_size R) ?_)
      | (go_at_call 10; (with_reducible refine (CB.out _).mono ?_); rintro e w4 ⟨A4, k4, rfl, hs4, hb4⟩; have B4 := Lib.hid (B3.out.trans (hb4.mono B3.out.size)); have RA := Lib.hid (RA.out.on hb4); clear hs4 hb4))
    go_wp2_with ((with_reducible show wpList _ _ _ ({ dst := some 26, op := .load _ _, type := _, pos := _, after := _, guard := _ } :: _) _ _); refine wpList_load_row rfl 28 (.tmp 3) rfl g rfl 28 _ (0, 0) _ RA.out.row rec_fields rfl (rec_size R) ?_)
    go_ret
    exact ⟨rfl, B4.out⟩
end Go.Proofs.Ytifokcpkamdkeaa
