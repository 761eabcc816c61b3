/-
  The walk of RecordReads over any package record that keeps the contracts, and the document's Read.
-/
import Derived.Test.YtifokcpkamdkeaaRcOnly0
namespace Go.Proofs.Ytifokcpkamdkeaa
open Go.RowKit Cdc
set_option linter.unusedSimpArgs false

/-- What is asked of the document's Read. -/
def RdC : Prop := ∀ W A n c l, Sl W A n c l → n ≤ 1000 → Calls Try.prog 8 #[.slice A n c] W (APos W (.tuple #[.agg (Rc.cells (Rc.rdV l)), .int .i64 (Rc.rdE l)]))
set_option maxRecDepth 100000 in
set_option maxHeartbeats 3200000 in
theorem rcreads_walk (hC : RcC) (hRd : RcRd) (hR : RdC) (n c : Nat) (A : Option Addr) (l : List Nat) (w : World) (h : Sl w A n c l) :
    Calls Try.prog 3 #[.slice A n c] w fun e w' => e = .returned (.bool true) ∧ Below w.heap.size w w' := by
  have L1 := Lib.hid (rclives_any hC w)
  have SL := Lib.hid (h.few 150)
  have hm1 : min (n : Int) 150 = ((min n 150 : Nat) : Int) := by omega
  have hl1 : ((min n 150 : Nat) : Int) ≤ (c : Int) := by have := h.cap; omega
  have hcp := h.cap
  have hmx := h.max
  unfold maxLen at hmx
  have M150 : Hid (min n 150 ≤ 1000) := by show _ ≤ _; omega
  generalize min n 150 = m at *
  generalize l.take 150 = lt at *
  clear h
  have CR := Lib.hid (fun W hb => hRd W A m c lt (SL.out.on (w' := W) hb) M150.out)
  have CD := Lib.hid (fun W hb => hR W A m c lt (SL.out.on (w' := W) hb) M150.out)
  generalize Rc.rdE lt = er at *
  generalize Rc.rdV lt = R at *
  have hgd := rec_guard
  have heq := rc_eqs R
  go_enter Try.func3, Try.ntmps3
  go_upto_region 4 with (go_at_call 6; (with_reducible refine L1.out.mono ?_); rintro e w1 ⟨rfl, hb1⟩; have B1 := Lib.hid hb1; clear hb1)
  go_upto_region 5 with (go_at_call 7; (with_reducible refine (CR.out _ B1.out).mono ?_); rintro e w2 ⟨rfl, hb2⟩; have B2 := Lib.hid (B1.out.trans (hb2.mono B1.out.size)); clear hb2; have hst := rc_storeAt w2 R; have hst2 := rc_store w2 R; unfold Rc.zeros at hst hst2)
  clear hst hst2
  have RA := Lib.hid (RcAt.new w2 R)
  have B3 := Lib.hid (B2.out.alloc (by have := B2.out.size; omega) (.cells (Rc.cells R) 28))
  obtain ⟨g, hg⟩ : ∃ g, g = w2.heap.size := ⟨_, rfl⟩
  rw [← hg] at RA ⊢
  clear hg
  generalize w2.alloc (.cells (Rc.cells R) 28) = w3 at *
  go_upto_region 6 with (go_at_call 8; (with_reducible refine (CD.out _ B3.out).mono ?_); rintro e w4 ⟨rfl, hb4⟩; have B4 := Lib.hid (B3.out.trans (hb4.mono B3.out.size)); have RA := Lib.hid (RA.out.on hb4); clear hb4; have hst := rc_storeAt w4 R; have hst2 := rc_store w4 R; unfold Rc.zeros at hst hst2)
  clear hst hst2
  have RB := Lib.hid (RcAt.new w4 R)
  have BN := Lib.hid ((Below.refl w4.heap.size w4).alloc (Nat.le_refl _) (.cells (Rc.cells R) 28))
  have RA := Lib.hid (RA.out.on BN.out)
  have B5 := Lib.hid (B4.out.trans (BN.out.mono B4.out.size))
  obtain ⟨g2, hg2⟩ : ∃ g2, g2 = w4.heap.size := ⟨_, rfl⟩
  rw [← hg2] at RB ⊢
  clear hg2 BN
  generalize w4.alloc (.cells (Rc.cells R) 28) = w5 at *
  go_wp2_with (first
    | ((with_reducible show wpList _ _ _ ({ dst := some 24, op := .load _ _, type := _, pos := _, after := _, guard := _ } :: _) _ _); refine wpList_load_row rfl 28 (.tmp 3) rfl g rfl 28 _ (0, 0) _ RA.out.row rec_fields rfl (rec_size R) ?_)
    | ((with_reducible show wpList _ _ _ ({ dst := some 25, op := .load _ _, type := _, pos := _, after := _, guard := _ } :: _) _ _); refine wpList_load_row rfl 28 (.tmp 5) rfl g2 rfl 28 _ (0, 0) _ RB.out.row rec_fields rfl (rec_size R) ?_))
  go_ret
  exact ⟨rfl, B5.out⟩
end Go.Proofs.Ytifokcpkamdkeaa
