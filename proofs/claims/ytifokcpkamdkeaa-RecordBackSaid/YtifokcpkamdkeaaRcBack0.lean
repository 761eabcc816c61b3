/-
  The walk of RecordBack over any package record that keeps the contracts, and the document's Good.
-/
import Derived.Test.YtifokcpkamdkeaaRcReads0
namespace Go.Proofs.Ytifokcpkamdkeaa
open Go.RowKit Cdc
set_option linter.unusedSimpArgs false

theorem u8_in {x : Int} (h : (Lit.int .u8 x).wf = true) : 0 ≤ x ∧ x < 256 := by
  simp [Lit.wf, IntKind.min, IntKind.max, IntKind.signed, IntKind.bits] at h
  omega
set_option maxRecDepth 100000 in
set_option maxHeartbeats 6400000 in
theorem rcback_walk (hC : RcC) (hRd : RcRd) (hG : RgC) (r : Rc.R) (hin : Rc.In r) (more : Int) (hm : 0 ≤ more ∧ more < 256) (w : World) :
    Calls Try.prog 4 #[.agg (Rc.cells r), .int .u8 more] w fun e w' => e = .returned (.bool true) ∧ Below w.heap.size w w' := by
  obtain ⟨y, rfl⟩ := Int.eq_ofNat_of_zero_le hm.1
  have HY : Hid (y < 256) := by show _ < _; have := hm.2; omega
  have R0 := Lib.hid (RcAt.new w r)
  have B0 := Lib.hid ((Below.refl w.heap.size w).alloc (Nat.le_refl _) (.cells (Rc.cells r) 28))
  have L1 := Lib.hid (fun W => rclives_any hC W)
  have CG := Lib.hid (fun W => hG W r hin)
  obtain ⟨G, hGd⟩ : ∃ G, G = Rc.good r := ⟨_, rfl⟩
  have GR : Hid (Rc.right G = true) := by rw [hGd]; exact Rc.good_right r
  have GI : Hid (Rc.In G) := Rc.ok_in (Rc.ok_of GR.out)
  rw [← hGd] at CG
  have CB := Lib.hid (fun W => hC.bytes W G GI.out)
  rw [(Rc.bytes_yes GR.out).1, (Rc.bytes_yes GR.out).2] at CB
  have HRD := Lib.hid (Rc.rd_back GR.out)
  have HCUT := Lib.hid (Rc.rd_cut GR.out)
  have HLONG := Lib.hid (Rc.rd_long GR.out y)
  have HLEN := Lib.hid (Rc.bytes_len GR.out)
  have HPOS := Lib.hid (Rc.bytes_pos G)
  generalize Rc.bytes G = bl at *
  have hgd := rec_guard
  have hne := rc_neqs G
  clear hin hm hGd
  go_enter Try.func4, Try.ntmps4
  go_upto_region 1 with fail
  obtain ⟨g, hg⟩ : ∃ g, g = w.heap.size := ⟨_, rfl⟩
  rw [← hg] at R0 ⊢
  clear hg
  generalize w.alloc (.cells (Rc.cells r) 28) = w0 at *
  go_upto_region 3 with (go_at_call 6; (with_reducible refine (L1.out _).mono ?_); rintro e w1 ⟨rfl, hb1⟩; have R1 := Lib.hid (R0.out.on hb1); have B1 := Lib.hid (B0.out.trans (hb1.mono B0.out.size)); clear hb1)
  go_upto_region 4 with (first
    | ((with_reducible show wpList _ _ _ ({ dst := some 17, op := .load _ _, type := _, pos := _, after := _, guard := _ } :: _) _ _); refine wpList_load_row rfl 28 (.tmp 2) rfl g rfl 28 _ (0, 0) _ R1.out.row rec_fields rfl (rec_size r) ?_)
    | (go_at_call 9; (with_reducible refine (CG.out _).mono ?_); rintro e w2 ⟨rfl, hb2⟩; have B2 := Lib.hid (B1.out.trans (hb2.mono B1.out.size)); clear hb2; have hst := rc_storeAt w2 G; have hst2 := rc_store w2 G; unfold Rc.zeros at hst hst2))
  clear hst hst2
  have RA := Lib.hid (RcAt.new w2 G)
  have B3 := Lib.hid (B2.out.alloc (by have := B2.out.size; omega) (.cells (Rc.cells G) 28))
  obtain ⟨ga, hga⟩ : ∃ ga, ga = w2.heap.size := ⟨_, rfl⟩
  rw [← hga] at RA ⊢
  clear hga
  generalize w2.alloc (.cells (Rc.cells G) 28) = w3 at *
  go_upto_region 5 with (first
    | ((with_reducible show wpList _ _ _ ({ dst := some 20, op := .load _ _, type := _, pos := _, after := _, guard := _ } :: _) _ _); refine wpList_load_row rfl 28 (.tmp 5) rfl ga rfl 28 _ (0, 0) _ RA.out.row rec_fields rfl (rec_size G) ?_)
    | (go_at_call 10; (with_reducible refine (CB.out _).mono ?_); rintro e w4 ⟨A4, k4, rfl, hs4, hb4⟩; have S4 := Lib.hid hs4; have B4 := Lib.hid (B3.out.trans (hb4.mono B3.out.size)); have RA := Lib.hid (RA.out.on hb4); clear hs4 hb4))
  have CR := Lib.hid (fun W hb => hRd W A4 _ k4 bl (S4.out.on (w' := W) hb) (by have := HLEN.out; omega))
  rw [HRD.out.1, HRD.out.2] at CR
  go_upto_region 6 with (go_at_call 7; (with_reducible refine (CR.out _ (Below.refl _ _)).mono ?_); rintro e w5 ⟨rfl, hb5⟩; have S5 := Lib.hid (S4.out.on hb5); have B5 := Lib.hid (B4.out.trans (hb5.mono B4.out.size)); have RA := Lib.hid (RA.out.on hb5); clear hb5; have hst := rc_storeAt w5 G; have hst2 := rc_store w5 G; unfold Rc.zeros at hst hst2)
  clear hst hst2
  have RB := Lib.hid (RcAt.new w5 G)
  have BN := Lib.hid ((Below.refl w5.heap.size w5).alloc (Nat.le_refl _) (.cells (Rc.cells G) 28))
  have RA := Lib.hid (RA.out.on BN.out)
  have S6 := Lib.hid (S5.out.on BN.out)
  have B6 := Lib.hid (B5.out.trans (BN.out.mono B5.out.size))
  obtain ⟨gb, hgb⟩ : ∃ gb, gb = w5.heap.size := ⟨_, rfl⟩
  rw [← hgb] at RB ⊢
  clear hgb BN
  generalize w5.alloc (.cells (Rc.cells G) 28) = w6 at *
  have hz : ((bl.length : Int) == 0) = false := by rw [beq_eq_false_iff_ne]; have := HPOS.out; omega
  go_upto_region 8 with (first
    | ((with_reducible show wpList _ _ _ ({ dst := some 36, op := .load _ _, type := _, pos := _, after := _, guard := _ } :: _) _ _); refine wpList_load_want (by rfl) 28 (.tmp 8) rfl gb rfl 28 _ (0, 0) _ RB.out.row rec_fields rfl (rec_size G) ?_)
    | ((with_reducible show wpList _ _ _ ({ dst := some 37, op := .load _ _, type := _, pos := _, after := _, guard := _ } :: _) _ _); refine wpList_load_want (by rfl) 28 (.tmp 5) rfl ga rfl 28 _ (0, 0) _ RA.out.row rec_fields rfl (rec_size G) ?_))
  have hsub : (bl.length : Int) - 1 = ((bl.length - 1 : Nat) : Int) := by have := HPOS.out; omega
  have hle : ((bl.length - 1 : Nat) : Int) ≤ (k4 : Int) := by have := S6.out.cap; omega
  have ST := Lib.hid (S6.out.take (k := bl.length - 1) (by omega))
  have CC := Lib.hid (fun W hb => hRd W A4 _ k4 _ (ST.out.on (w' := W) hb) (by have := HLEN.out; omega))
  rw [HCUT.out] at CC
  have hwr : wrap64 ((bl.length - 1 : Nat) : Int) = ((bl.length - 1 : Nat) : Int) := IntWalk.wrap64_in _ (by have := HLEN.out; omega)
  obtain ⟨RZ, hRZ⟩ : ∃ RZ, RZ = Rc.rdV (bl.take (bl.length - 1)) := ⟨_, rfl⟩
  rw [← hRZ] at CC
  clear hRZ HCUT ST
  generalize bl.length - 1 = m1 at *
  go_upto_region 9 with (go_at_call 7; (with_reducible refine (CC.out _ (Below.refl _ _)).mono ?_); rintro e w7 ⟨rfl, hb7⟩; have S7 := Lib.hid (S6.out.on hb7); have B7 := Lib.hid (B6.out.trans (hb7.mono B6.out.size)); clear hb7; have hst := rc_storeAt w7 RZ; have hst2 := rc_store w7 RZ; unfold Rc.zeros at hst hst2)
  clear hst hst2
  have BN := Lib.hid ((Below.refl w7.heap.size w7).alloc (Nat.le_refl _) (.cells (Rc.cells RZ) 28))
  have S8 := Lib.hid (S7.out.on BN.out)
  have B8 := Lib.hid (B7.out.trans (BN.out.mono B7.out.size))
  clear BN
  generalize w7.alloc (.cells (Rc.cells RZ) 28) = w8 at *
  have Z0 := Lib.hid (OwnB.none_ w8 w8.heap.size)
  go_upto_region 11 with (at_builtin; refine wpList_append_own_rd rfl (.tmp 54) (.tmp 55) rfl w8.heap.size _ [] rfl Z0.out bl.length k4 A4 bl rfl S8.out (by have := HLEN.out; simp; omega) (Nat.le_refl _) ?_; intro v9 w9 ho9 hb9; have O9 := Lib.hid ho9; have B9 := Lib.hid hb9; clear ho9 hb9)
  go_upto_region 12 with (first
    | (at_builtin; refine wpList_append_byte rfl (.tmp 58) (.tmp 60) rfl w8.heap.size _ ([] ++ bl) rfl O9.out _ y rfl HY.out rfl (by have := HLEN.out; simp; omega) B9.out.size ?_; intro v10 w10 ho10 hb10; rw [List.nil_append] at ho10; obtain ⟨A10, k10, rfl, hs10⟩ := ho10.sl; rw [List.length_append, List.length_singleton] at hs10; have S10 := Lib.hid hs10; have B10 := Lib.hid (B8.out.trans ((B9.out.trans hb10).mono B8.out.size)); clear ho10 hb10 hs10)
    | (go_at_call 7; (with_reducible refine (hRd _ A10 _ k10 _ S10.out (by have := HLEN.out; simp; omega)).mono ?_); rintro e w11 ⟨rfl, hb11⟩; have B11 := Lib.hid (B10.out.trans (hb11.mono B10.out.size)); clear hb11; rw [HLONG.out]; have hst := rc_storeAt w11 (Rc.rdV (bl ++ [y])); have hst2 := rc_store w11 (Rc.rdV (bl ++ [y])); unfold Rc.zeros at hst hst2))
  have B12 := Lib.hid (B11.out.alloc (by have := B11.out.size; omega) (.cells (Rc.cells (Rc.rdV (bl ++ [y]))) 28))
  go_wp2_with fail
  go_ret
  exact ⟨rfl, B12.out⟩
end Go.Proofs.Ytifokcpkamdkeaa
