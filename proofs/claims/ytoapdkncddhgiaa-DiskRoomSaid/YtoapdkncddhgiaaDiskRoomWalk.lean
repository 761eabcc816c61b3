/-
  The walk of the statement DiskRoom.
-/
import Derived.Test.YtoapdkncddhgiaaDskPlay
import Derived.Test.YtoapdkncddhgiaaRegion
import Derived.Deep.CutBlock
import Derived.Deep.DeepCutAuto
namespace Go.Proofs.Ytoapdkncddhgiaa
open Go.RowKit
set_option linter.unusedSimpArgs false

theorem fits_nat (n : Nat) (h : n ≤ 1048576) : Dk.new (n : Int) = ⟨n, 0, []⟩ := by
  unfold Dk.new Dk.fits
  rw [show (max 0 (min (n : Int) 1048576)).toNat = n from by omega]
set_option maxRecDepth 100000 in
set_option maxHeartbeats 6400000 in
theorem droom_walk (rm : Int) (n c : Nat) (A : Option Addr) (ts : List Stp) (w : World) (h : SlT w A n c ts) :
    Calls Try.prog 5 #[.int .i64 rm, .slice A n c] w fun e w' => e = .returned (.bool true) ∧ Below w.heap.size w w' := by
  obtain ⟨R, hR, hR2⟩ : ∃ R : Nat, (IntKind.u64.wrap rm).tmod 200 = (R : Int) ∧ R < 200 := by
    rw [IntKind.wrap_u64]
    have h0 : 0 ≤ rm % 18446744073709551616 := Int.emod_nonneg _ (by omega)
    generalize rm % 18446744073709551616 = x at h0
    refine ⟨(x.tmod 200).toNat, ?_, ?_⟩ <;> rw [Int.tmod_eq_emod_of_nonneg h0] <;> omega
  have H := Lib.hid h
  clear h
  have NW := Lib.hid (fits_nat R (by omega))
  go_enter Try.func5, Try.ntmps5
  go_wp2_with fail
  (with_reducible refine (dlives_at _ (Below.refl _ _)).mono ?_)
  rintro e w1 ⟨rfl, hb1⟩
  have B1 := Lib.hid hb1; clear hb1
  go_wp2_with fail
  (with_reducible refine (dNew_at w1 _ (Below.refl _ _)).mono ?_)
  rw [NW.out]
  rintro e w2 ⟨r, rfl, hr, hd2, hb2, _⟩
  have D2 := Lib.hid hd2
  have B2 := Lib.hid hb2
  have B02 := Lib.hid (B1.out.trans (hb2.mono B1.out.size))
  clear hd2 hb2 hr hR
  have C3 := Lib.hid (early_any n c A ts w w2 H.out B02.out)
  go_wp2_with fail
  (with_reducible refine C3.out.mono ?_)
  rintro e w3 ⟨A3, c3, rfl, ho3, hb3⟩
  have L3 := Lib.hid (early_len ts)
  obtain ⟨es, hes⟩ : ∃ es, es = earlyL ts := ⟨_, rfl⟩
  have E40 := Lib.hid (early_forty ts)
  rw [← hes] at ho3 L3 E40 ⊢
  clear hes C3
  obtain ⟨m, hm⟩ : ∃ m, m = es.length := ⟨_, rfl⟩
  rw [← hm] at ho3 L3 ⊢
  have hm80 : m ≤ 80 := L3.out
  have M := Lib.hid hm
  clear hm
  have P3 : Hid (PRel w (fun i => w1.heap.size ≤ i ∧ (Value.slice A3 m c3).ownBlock ≠ some i) w2.heap.size (.slice A3 m c3) es r ⟨R, 0, []⟩ w3) :=
    ⟨B02.out.trans (hb3.mono B02.out.size), ho3, (D2.out.toX fun i hi hlt => ⟨hi, fun e => by have := ho3.lt i e; omega⟩).below hb3, fun i hi => ⟨Nat.le_trans B1.out.size hi.1, hi.2⟩,
      fun i hi => ⟨Nat.le_trans (Nat.le_trans B2.out.size hb3.size) hi, fun e => by have := ho3.lt i e; omega⟩⟩
  clear ho3 hb3 D2
  generalize (fun i => w1.heap.size ≤ i ∧ (Value.slice A3 m c3).ownBlock ≠ some i) = X at P3
  go_wp2_with fail
  go_loopw [6, 7, 8, 9] (fun i _ _ _ wr => ∃ (j : Nat) (d : Dk.St), j ≤ m ∧ i = .int .i64 j ∧ d.room = R ∧ PRel w X w2.heap.size (.slice A3 m c3) es r d wr) (fun i _ _ _ _ => m - (intOf i).toNat)
  case atStart => exact ⟨0, _, by omega, rfl, rfl, P3.out⟩
  case round =>
    obtain ⟨j, d, hj, rfl, hdr, hp⟩ := hrel
    have P := Lib.hid hp
    have DR := Lib.hid hdr
    clear P3 hp hdr
    by_cases hlt : j < m
    · obtain ⟨t, ht⟩ : ∃ t, es[j]? = some t := ⟨_, List.getElem?_eq_getElem (by have := M.out; omega)⟩
      have HT := Lib.hid ht
      clear ht
      go_upto_region 9 with fail
      go_cut [7, 8] (fun s7 s8 wx => s7 = .string (txt d.l) ∧ s8 = .int .i64 (d.safe : Nat) ∧ PRel w X w2.heap.size (.slice A3 m c3) es r d wx)
      case first =>
        have PD := Lib.hid (P.out.on (Below.refl wr.heap.size wr).drew)
        refine wp_region_held_drew (S := fun _ => True) (by kernel_rfl) trivial (fun hS => ?_)
        refine tkYes 0 (v := ?_) rfl (by kernel_rfl) (fun _ _ _ h => h) rfl ?_ hS ?_
        rotate_left
        · intro W hW; go_simp; (try with_reducible rfl)
        simp only [Act.put, List.setIfInBounds_toArray, List.set_cons_zero, List.set_cons_succ]
        refine tkYes 3 (v := ?_) rfl (by kernel_rfl) (fun _ _ _ h => h) rfl ?_ hS ?_
        rotate_left
        · intro W hW; go_simp; (try with_reducible rfl)
        simp only [Act.put, List.setIfInBounds_toArray, List.set_cons_zero, List.set_cons_succ]
        refine rnOne 1 rfl (by kernel_rfl) rfl (fun K hK => ?_)
        go_simp
        (with_reducible refine (dAll_x _ PD.out.disk).mono ?_)
        rintro e w7 ⟨A7, c7, rfl, ho7, hb7⟩
        have hcvA := fun (W' : World) (hb : Below w7.heap.size w7 W') => conv_rd (c := c7) (ho7.sls.on hb).rd rfl
        have P7 := Lib.hid (PD.out.on hb7)
        clear ho7 hb7
        have HCV := Lib.hid hcvA
        clear hcvA
        have hcv7 := HCV.out w7 (Below.refl _ _)
        refine hK.out _ _ hS (fun _ => ?_)
        clear hK K
        try simp only [Act.put, List.setIfInBounds_toArray, List.set_cons_zero, List.set_cons_succ]
        refine rnTwo 2 4 rfl rfl (by kernel_rfl) rfl rfl (fun K hK => ?_) (fun K hK => ?_)
        · go_simp
          refine hK.out _ _ hS (fun _ => ?_)
          clear hK K
          try simp only [Act.put, List.setIfInBounds_toArray, List.set_cons_zero, List.set_cons_succ]
          refine rnOne 4 rfl (by kernel_rfl) rfl (fun K hK => ?_)
          go_simp
          (with_reducible refine (dSafe_x _ P7.out.disk).mono ?_)
          rintro e w8 ⟨rfl, hb8⟩
          have P8 := Lib.hid (P7.out.on hb8)
          have hcv8 := HCV.out w8 hb8
          clear hb8
          refine hK.out _ _ hS (fun _ => ?_)
          clear hK K
          try simp only [Act.put, List.setIfInBounds_toArray, List.set_cons_zero, List.set_cons_succ]
          refine tkYes 5 (v := ?_) rfl (by kernel_rfl) (fun _ _ _ h => h) rfl ?_ hS ?_
          rotate_left
          · intro W hW; go_simp; (try with_reducible rfl)
          simp only [Act.put, List.setIfInBounds_toArray, List.set_cons_zero, List.set_cons_succ]
          refine tkYes 6 (v := ?_) rfl (by kernel_rfl) (fun _ _ _ h => h) rfl ?_ hS ?_
          rotate_left
          · intro W hW; go_simp; (try with_reducible rfl)
          simp only [Act.put, List.setIfInBounds_toArray, List.set_cons_zero, List.set_cons_succ]
          refine wpAnyH_done (by kernel_rfl) ?_ _
          go_wp2_with fail
          go_meet
          case rel => exact ⟨rfl, rfl, P8.out⟩
        · go_simp
          (with_reducible refine (dSafe_x _ P7.out.disk).mono ?_)
          rintro e w8 ⟨rfl, hb8⟩
          have P8 := Lib.hid (P7.out.on hb8)
          have hcv8 := HCV.out w8 hb8
          clear hb8
          refine hK.out _ _ hS (fun _ => ?_)
          clear hK K
          try simp only [Act.put, List.setIfInBounds_toArray, List.set_cons_zero, List.set_cons_succ]
          refine rnOne 2 rfl (by kernel_rfl) rfl (fun K hK => ?_)
          go_simp
          refine hK.out _ _ hS (fun _ => ?_)
          clear hK K
          refine tkYes 5 (v := ?_) rfl (by kernel_rfl) (fun _ _ _ h => h) rfl ?_ hS ?_
          rotate_left
          · intro W hW; go_simp; (try with_reducible rfl)
          simp only [Act.put, List.setIfInBounds_toArray, List.set_cons_zero, List.set_cons_succ]
          refine tkYes 6 (v := ?_) rfl (by kernel_rfl) (fun _ _ _ h => h) rfl ?_ hS ?_
          rotate_left
          · intro W hW; go_simp; (try with_reducible rfl)
          simp only [Act.put, List.setIfInBounds_toArray, List.set_cons_zero, List.set_cons_succ]
          refine wpAnyH_done (by kernel_rfl) ?_ _
          go_wp2_with fail
          go_meet
          case rel => exact ⟨rfl, rfl, P8.out⟩
      case rest =>
        obtain ⟨rfl, rfl, hp⟩ := hcut
        have PC := Lib.hid hp
        clear hp P
        obtain ⟨g, cs, rfl, _, hcells, A2, n2, c2, rfl, hk1, hk2, hs⟩ := PC.out.row.at_ HT.out
        have q0 := hcells 0 (by omega)
        have q1 := hcells 1 (by omega)
        have q2 := hcells 2 (by omega)
        simp only [List.getElem?_cons_zero, List.getElem?_cons_succ, Nat.add_zero] at q0 q1 q2
        have K1 := Lib.hid hk1
        have K2 := Lib.hid hk2
        have HS := Lib.hid hs
        clear hcells hk1 hk2 hs
        go_upto_block 2 with ((with_reducible refine (kind_any _ _ _ _ _ _).mono ?_); rintro e wk ⟨rfl, hbk⟩; have PK := Lib.hid (PC.out.on hbk); have QK1 := Lib.hid ((hbk.cell (p := ⟨g, j * 3 + 1, none⟩) (block_lt_of_cell q1)).trans q1); have QK2 := Lib.hid ((hbk.cell (p := ⟨g, j * 3 + 2, none⟩) (block_lt_of_cell q2)).trans q2); clear hbk)
        clear q0 q1 q2 PC
        have hkd := (kdN_eq t.1).2
        obtain ⟨kd, hkd2⟩ : ∃ kd, kd = kdN t.1 := ⟨_, rfl⟩
        rw [← hkd2] at hkd ⊢
        clear hkd2
        have HB := Lib.hid (HS.out.on PK.out.below)
        go_cut [9] (fun s9 wx => ∃ (E : Int) (d' : Dk.St), s9 = .int .i64 E ∧ d'.room = R ∧ (E = 0 ∨ (E ≠ 0 ∧ d' = d)) ∧ PRel w X w2.heap.size (.slice (some ⟨g, 0, none⟩) m c3) es r d' wx)
        case first =>
          have q1 := QK1.out
          have q2 := QK2.out
          have hor : kd = 0 ∨ kd = 1 ∨ kd = 2 ∨ kd = 3 ∨ kd = 4 ∨ kd = 5 := by omega
          have SM := Lib.hid (dk_same d)
          have RO := Lib.hid (dk_room d)
          clear hkd
          rcases hor with rfl | rfl | rfl | rfl | rfl | rfl
          iterate 2
            · have hsz : (txt d.l).size = d.l.length := txt_size _
              have hlen := HS.out.len
              have HL := Lib.hid hlen
              have hn40 : n2 ≤ 40 := by have := E40.out j t HT.out; omega
              clear hlen
              by_cases hg : Dk.goes d t.2.2
              · have hw : Dk.writeE d t.2.2 = 0 := by unfold Dk.writeE; rw [if_pos hg]
                have hle : d.l.length + n2 ≤ R := by unfold Dk.goes at hg; have := HL.out; have := DR.out; omega
                have HW := Lib.hid hw
                clear hg hw
                generalize hdl : d.l.length = dl at *
                have hdc : decide ((dl : Int) + (n2 : Int) ≤ (R : Int)) = true := by simp; omega
                clear hdl
                go_wp2_with ((with_reducible refine (dWrite_p _ PK.out HB.out).mono ?_); rintro e w9 ⟨rfl, hp9, hk9⟩; rw [HW.out]; have P9 := Lib.hid hp9; have q29 := (World.cell?_of_block (w := wk) (a := ⟨g, j * 3 + 2, none⟩) (hk9.block g (PK.out.row.lt g rfl).2 (fun hx => (PK.out.inX g hx).2 rfl))).trans q2; clear hp9 hk9)
                go_meet
                case rel => exact ⟨0, _, rfl, (RO.out.1 _).trans DR.out, .inl rfl, P9.out⟩
              · have hw : Dk.writeE d t.2.2 = 4 := by unfold Dk.writeE; rw [if_neg hg]
                have hle : R < d.l.length + n2 := by unfold Dk.goes at hg; have := HL.out; have := DR.out; omega
                have hlr : d.l.length ≤ R := by have := PK.out.disk.okay.2.1; have := DR.out; omega
                have HQ : Hid (Dk.write d t.2.2 = d) := by show _ = _; unfold Dk.write; rw [if_neg hg]
                have HW := Lib.hid hw
                clear hg hw
                generalize hdl : d.l.length = dl at *
                have hdc : decide ((dl : Int) + (n2 : Int) ≤ (R : Int)) = false := by simp; omega
                clear hdl
                go_wp2_with ((with_reducible refine (dWrite_p _ PK.out HB.out).mono ?_); rintro e w9 ⟨rfl, hp9, hk9⟩; rw [HW.out]; have P9 := Lib.hid hp9; have q29 := (World.cell?_of_block (w := wk) (a := ⟨g, j * 3 + 2, none⟩) (hk9.block g (PK.out.row.lt g rfl).2 (fun hx => (PK.out.inX g hx).2 rfl))).trans q2; clear hp9 hk9)
                go_meet
                case rel => exact ⟨4, _, rfl, (RO.out.1 _).trans DR.out, .inr ⟨by omega, HQ.out⟩, P9.out⟩
          · go_wp2_with ((with_reducible refine (dSync_p _ PK.out).mono ?_); rintro e w9 ⟨rfl, hp9, _⟩; have P9 := Lib.hid hp9; clear hp9)
            go_meet
            case rel => exact ⟨0, _, rfl, RO.out.2.1.trans DR.out, .inl rfl, P9.out⟩
          · go_wp2_with fail
            go_meet
            case rel => exact ⟨0, _, rfl, DR.out, .inl rfl, PK.out⟩
          · go_wp2_with ((with_reducible refine (dCut_p _ PK.out K2.out).mono ?_); rintro e w9 ⟨rfl, hp9, _⟩; have P9 := Lib.hid hp9; clear hp9)
            go_meet
            case rel => exact ⟨_, _, rfl, (RO.out.2.2.2.1 _).trans DR.out, SM.out.2.1 _, P9.out⟩
          · go_wp2_with ((with_reducible refine (dSwap_p _ PK.out HB.out).mono ?_); rintro e w9 ⟨rfl, hp9, _⟩; have P9 := Lib.hid hp9; clear hp9)
            go_meet
            case rel => exact ⟨_, _, rfl, (RO.out.2.2.2.2 _).trans DR.out, SM.out.2.2 _, P9.out⟩
        case rest =>
          clear PK HB QK1 QK2
          obtain ⟨E, d', rfl, hr', hor, hp'⟩ := hcut
          have PN := Lib.hid hp'
          have OK := hp'.disk.okay
          have RN := Lib.hid hr'
          have h1 : d'.safe ≤ d'.l.length := OK.1
          have h2 : d'.l.length ≤ R := by have := OK.2.1; omega
          obtain ⟨x, hx⟩ : ∃ x, x = d'.room - d'.l.length := ⟨_, rfl⟩
          have HX := Lib.hid hx
          have h3 : ((d'.l.length : Nat) : Int) + (x : Int) = (R : Int) := by omega
          have C1 := Lib.hid (fun W (h : PRel w X w2.heap.size (.slice (some ⟨g, 0, none⟩) m c3) es r d' W) => dLen_x W h.disk)
          have C2 := Lib.hid (fun W (h : PRel w X w2.heap.size (.slice (some ⟨g, 0, none⟩) m c3) es r d' W) => dRoom_x W h.disk)
          have C3 := Lib.hid (fun W (h : PRel w X w2.heap.size (.slice (some ⟨g, 0, none⟩) m c3) es r d' W) => dSafe_x W h.disk)
          rw [← hx] at C2
          clear hp' OK hr' hx
          obtain ⟨q, hq⟩ : ∃ q, q = d'.l.length := ⟨_, rfl⟩
          rw [← hq] at C1 h1 h2 h3
          obtain ⟨y, hy⟩ : ∃ y, y = d'.safe := ⟨_, rfl⟩
          rw [← hy] at C3 h1
          have HY := Lib.hid hy
          have HQ := Lib.hid hq
          clear hy hq
          rcases hor with rfl | ⟨hE, rfl⟩
          · go_wp2_with (first
              | ((with_reducible refine (C1.out _ PN.out).mono ?_); rintro e wx ⟨rfl, hbx⟩; replace PN := Lib.hid (PN.out.on hbx); clear hbx)
              | ((with_reducible refine (C2.out _ PN.out).mono ?_); rintro e wx ⟨rfl, hbx⟩; replace PN := Lib.hid (PN.out.on hbx); clear hbx)
              | ((with_reducible refine (C3.out _ PN.out).mono ?_); rintro e wx ⟨rfl, hbx⟩; replace PN := Lib.hid (PN.out.on hbx); clear hbx))
            exact ⟨⟨j + 1, d', by omega, by go_num, RN.out, PN.out⟩, by simp [intOf]; omega⟩
          · have hE2 : (E != 0) = true := by rw [bne_iff_ne]; exact hE
            have tt := txt_same d'.l
            have C4 := Lib.hid (fun W (h : PRel w X w2.heap.size (.slice (some ⟨g, 0, none⟩) m c3) es r d' W) => dAll_x W h.disk)
            rw [← HY.out]
            go_wp2_with (first
              | ((with_reducible refine (C1.out _ PN.out).mono ?_); rintro e wx ⟨rfl, hbx⟩; replace PN := Lib.hid (PN.out.on hbx); clear hbx)
              | ((with_reducible refine (C2.out _ PN.out).mono ?_); rintro e wx ⟨rfl, hbx⟩; replace PN := Lib.hid (PN.out.on hbx); clear hbx)
              | ((with_reducible refine (C3.out _ PN.out).mono ?_); rintro e wx ⟨rfl, hbx⟩; replace PN := Lib.hid (PN.out.on hbx); clear hbx)
              | ((with_reducible refine (C4.out _ PN.out).mono ?_); rintro e wx ⟨A7, c7, rfl, ho7, hbx⟩; replace PN := Lib.hid (PN.out.on hbx); have hcv := conv_rd (c := c7) ho7.sls.rd rfl; clear hbx ho7))
            exact ⟨⟨j + 1, d', by omega, by go_num, RN.out, PN.out⟩, by simp [intOf]; omega⟩
    · obtain rfl : j = m := by omega
      go_wp2_with fail
      go_ret
      exact ⟨rfl, P.out.below⟩
end Go.Proofs.Ytoapdkncddhgiaa
