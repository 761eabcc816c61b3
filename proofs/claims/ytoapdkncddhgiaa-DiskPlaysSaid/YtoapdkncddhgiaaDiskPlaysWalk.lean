/-
  The walk of the statement DiskPlays.
-/
import Derived.Test.YtoapdkncddhgiaaDskRef
import Derived.Test.YtoapdkncddhgiaaRegion
import Derived.Deep.CutBlock
import Derived.Deep.DeepCutAuto
namespace Go.Proofs.Ytoapdkncddhgiaa
open Go.RowKit
set_option linter.unusedSimpArgs false

/-- The cell in which the document's disk lies. -/
def RefAt (W : World) (g : Nat) (d : Dk.St) : Prop := W.heap[g]? = some (.cells #[.int .i64 (d.room : Nat), .string (tA d), .string (tB d)] 27 (0, 0))
theorem RefAt.lt {W : World} {g : Nat} {d : Dk.St} (h : RefAt W g d) : g < W.heap.size := (Array.getElem?_eq_some_iff.1 h).1
theorem RefAt.on {W W' : World} {g : Nat} {d : Dk.St} (h : RefAt W g d) (hb : Below W.heap.size W W') : RefAt W' g d := (hb.block g h.lt).trans h
theorem RefAt.facts {W : World} {g : Nat} {d : Dk.St} (h : RefAt W g d) :
    W.cell? ⟨g, 0, none⟩ = some (.int .i64 (d.room : Nat)) ∧ W.cell? ⟨g, 1, none⟩ = some (.string (tA d)) ∧ W.cell? ⟨g, 2, none⟩ = some (.string (tB d)) ∧
      W.frozen? ⟨g, 0, none⟩ = false ∧ W.frozen? ⟨g, 1, none⟩ = false ∧ W.frozen? ⟨g, 2, none⟩ = false :=
  ⟨by rw [cell_of_row W g 0 _ _ _ h]; rfl, by rw [cell_of_row W g 1 _ _ _ h]; rfl, by rw [cell_of_row W g 2 _ _ _ h]; rfl, frozen_of_row W g 0 _ _ h, frozen_of_row W g 1 _ _ h, frozen_of_row W g 2 _ _ h⟩
/-- All three cells stored anew. -/
theorem RefAt.put {W : World} {g : Nat} {d : Dk.St} (h : RefAt W g d) (d' : Dk.St) :
    RefAt (((W.setCell ⟨g, 0, none⟩ (.int .i64 (d'.room : Nat))).setCell ⟨g, 1, none⟩ (.string (tA d'))).setCell ⟨g, 2, none⟩ (.string (tB d'))) g d' := by
  have h1 := heap_setCell_same W g 0 _ _ (.int .i64 (d'.room : Nat)) h
  have h2 := heap_setCell_same _ g 1 _ _ (.string (tA d')) h1
  have h3 := heap_setCell_same _ g 2 _ _ (.string (tB d')) h2
  exact h3
theorem put_grown (W : World) (g : Nat) (x y z : Value) : W.grownBy (((W.setCell ⟨g, 0, none⟩ x).setCell ⟨g, 1, none⟩ y).setCell ⟨g, 2, none⟩ z) (some g) :=
  grown_trans (grown_trans (grown_set _ _ _ _) (grown_set _ _ _ _)) (grown_set _ _ _ _)
/-- What the operations of the last test load. -/
def SRef (g R : Nat) (a b : ByteArray) (W : World) : Prop := W.cell? ⟨g, 0, none⟩ = some (.int .i64 (R : Nat)) ∧ W.cell? ⟨g, 1, none⟩ = some (.string a) ∧ W.cell? ⟨g, 2, none⟩ = some (.string b)
theorem sref_of {W : World} {g R : Nat} {d : Dk.St} (h : RefAt W g d) (hR : R = d.room) : SRef g R (tA d) (tB d) W := by
  subst hR
  obtain ⟨h0, h1, h2, _⟩ := h.facts
  exact ⟨h0, h1, h2⟩
theorem alloc_below (W : World) (o : Obj) : Below W.heap.size W (W.alloc o) := (Below.refl _ _).alloc (Nat.le_refl _) o
theorem blk_on {W W' : World} {g : Nat} {o : Obj} (h : W.heap[g]? = some o) (hb : Below W.heap.size W W') : W'.heap[g]? = some o := (hb.block g (Array.getElem?_eq_some_iff.1 h).1).trans h
theorem blk_other {W W' : World} {g k : Nat} {o : Obj} (h : W.heap[g]? = some o) (hb : W.grownBy W' (some k)) (hg : g ≠ k) : W'.heap[g]? = some o := (hb.block g (Array.getElem?_eq_some_iff.1 h).1 (fun e => hg (by injection e))).trans h
theorem s_facts0 {W : World} {g : Nat} {x y z : Value} {t : TypeId} (h : W.heap[g]? = some (.cells #[x, y, z] t (0, 0))) : W.cell? ⟨g, 0, none⟩ = some x ∧ W.cell? ⟨g, 1, none⟩ = some y ∧ W.cell? ⟨g, 2, none⟩ = some z :=
  ⟨by rw [cell_of_row W g 0 _ _ _ h]; rfl, by rw [cell_of_row W g 1 _ _ _ h]; rfl, by rw [cell_of_row W g 2 _ _ _ h]; rfl⟩
theorem s_facts {W : World} {g : Nat} {x y z : Value} {t : TypeId} (h : W.heap[g]? = some (.cells #[x, y, z] t (0, 0))) : W.cell? ⟨g, 1, none⟩ = some y ∧ W.cell? ⟨g, 2, none⟩ = some z := (s_facts0 h).2
theorem ref_kept {W W' : World} {X : Nat → Prop} {g : Nat} {d : Dk.St} (h : RefAt W g d) (hk : Kept X W W') (hX : ¬ X g) : RefAt W' g d := (hk.block g h.lt hX).trans h
set_option maxRecDepth 100000 in
set_option maxHeartbeats 6400000 in
theorem dplays_walk (rm : Int) (n c : Nat) (A : Option Addr) (ts : List Stp) (w : World) (h : SlT w A n c ts) :
    Calls Try.prog 3 #[.int .i64 rm, .slice A n c] w fun e w' => e = .returned (.bool true) ∧ Below w.heap.size w w' := by
  have H := Lib.hid h
  clear h
  go_enter Try.func3, Try.ntmps3
  go_wp2_with fail
  (with_reducible refine (dlives_at _ (Below.refl _ _)).mono ?_)
  rintro e w1 ⟨rfl, hb1⟩
  have B1 := Lib.hid hb1; clear hb1
  go_wp2_with fail
  (with_reducible refine (dNew_at w1 _ (Below.refl _ _)).mono ?_)
  rintro e w2 ⟨r, rfl, hr, hd2, hb2, _⟩
  have D2 := Lib.hid hd2
  have B2 := Lib.hid hb2
  have B02 := Lib.hid (B1.out.trans (hb2.mono B1.out.size))
  clear hd2 hb2 hr
  go_wp2_with fail
  (with_reducible refine (rNew_any _ _).mono ?_)
  rintro e w3 ⟨rfl, hb3⟩
  have D3 := Lib.hid (D2.out.below hb3)
  have B3 := Lib.hid (B2.out.trans (hb3.mono B2.out.size))
  have B03 := Lib.hid (B1.out.trans (B3.out.mono B1.out.size))
  clear hb3 D2 B2 B02
  obtain ⟨d0, hd0⟩ : ∃ d0, d0 = Dk.new rm := ⟨_, rfl⟩
  rw [← hd0] at D3
  have F0 : Hid (Dk.fits rm = d0.room ∧ tA d0 = ⟨#[]⟩ ∧ tB d0 = ⟨#[]⟩) := by rw [hd0]; exact ⟨rfl, rfl, rfl⟩
  rw [F0.out.1]
  clear hd0
  have R4 : Hid (RefAt (w3.alloc (.cells #[.int .i64 (d0.room : Nat), .string ⟨#[]⟩, .string ⟨#[]⟩] 27)) w3.heap.size d0) := by
    show RefAt _ _ _
    unfold RefAt
    rw [F0.out.2.1, F0.out.2.2]
    exact heap_alloc_new w3 _
  have D4 := Lib.hid (D3.out.below ((Below.refl _ _).alloc (Nat.le_refl _) (.cells #[.int .i64 (d0.room : Nat), .string ⟨#[]⟩, .string ⟨#[]⟩] 27)))
  have B4 := Lib.hid (B3.out.alloc B3.out.size (.cells #[.int .i64 (d0.room : Nat), .string ⟨#[]⟩, .string ⟨#[]⟩] 27))
  have B04 := Lib.hid (B1.out.trans (B4.out.mono B1.out.size))
  obtain ⟨g4, hg4⟩ : ∃ g4, g4 = w3.heap.size := ⟨_, rfl⟩
  have G4 : Hid (w1.heap.size ≤ g4) := by show _ ≤ _; rw [hg4]; exact B3.out.size
  have DX : Hid (DskX w3 (fun i => w1.heap.size ≤ i ∧ i < g4) r d0) := D3.out.toX fun i hi hlt => ⟨hi, by rw [hg4]; exact hlt⟩
  have DX4 := Lib.hid (DX.out.below ((Below.refl _ _).alloc (Nat.le_refl _) (.cells #[.int .i64 (d0.room : Nat), .string ⟨#[]⟩, .string ⟨#[]⟩] 27)))
  have HG4 := Lib.hid hg4
  clear hg4
  go_wp2_with fail
  rw [← HG4.out] at R4 ⊢
  clear F0 B3 B03 D3 D4 DX HG4
  generalize w3.alloc (.cells #[.int .i64 (d0.room : Nat), .string ⟨#[]⟩, .string ⟨#[]⟩] 27) = w4 at *
  have C5 := Lib.hid (early_any n c A ts w w4 H.out B04.out)
  (with_reducible refine C5.out.mono ?_)
  rintro e w5 ⟨A5, c5, rfl, ho5, hb5⟩
  have L5 := Lib.hid (early_len ts)
  have E40 := Lib.hid (early_forty ts)
  obtain ⟨es, hes⟩ : ∃ es, es = earlyL ts := ⟨_, rfl⟩
  rw [← hes] at ho5 L5 E40 ⊢
  clear hes C5
  obtain ⟨m, hm⟩ : ∃ m, m = es.length := ⟨_, rfl⟩
  rw [← hm] at ho5 L5 ⊢
  have hm80 : m ≤ 80 := L5.out
  have M := Lib.hid hm
  clear hm
  have P5 : Hid (PRel w (fun i => w1.heap.size ≤ i ∧ (Value.slice A5 m c5).ownBlock ≠ some i ∧ i ≠ g4) w4.heap.size (.slice A5 m c5) es r d0 w5) := by
    have hg := R4.out.lt
    have hbs := hb5.size
    obtain ⟨v, hv1, hv2⟩ := DX4.out
    refine ⟨B04.out.trans (hb5.mono B04.out.size), ho5, ⟨v, hv1.below hb5, fun i hi => ⟨(hv2 i hi).1, fun e => ?_, ?_⟩⟩, fun i hi => ⟨Nat.le_trans B1.out.size hi.1, hi.2.1⟩, fun i hi => ⟨?_, fun e => ?_, ?_⟩⟩
    · have := ho5.lt i e; have := (hv2 i hi).2; omega
    · have := (hv2 i hi).2; omega
    · have := B4.out.size; omega
    · have := ho5.lt i e; omega
    · omega
  have R5 := Lib.hid (R4.out.on hb5)
  have GX : Hid (¬ (w1.heap.size ≤ g4 ∧ (Value.slice A5 m c5).ownBlock ≠ some g4 ∧ g4 ≠ g4)) := fun hx => hx.2.2 rfl
  have GO : Hid ((Value.slice A5 m c5).ownBlock ≠ some g4) := fun e => by have := ho5.lt g4 e; have := R4.out.lt; omega
  have GW : Hid (w.heap.size ≤ g4) := Nat.le_trans B1.out.size G4.out
  clear ho5 hb5 R4 DX4 B4 B04
  obtain ⟨X, hX⟩ : ∃ X : Nat → Prop, X = (fun i => w1.heap.size ≤ i ∧ (Value.slice A5 m c5).ownBlock ≠ some i ∧ i ≠ g4) := ⟨_, rfl⟩
  have GX2 : Hid (¬ X g4) := by rw [hX]; exact GX.out
  rw [← hX] at P5
  clear hX GX G4
  go_wp2_with fail
  go_loopw [7] (fun i wr => ∃ (j : Nat) (d : Dk.St), j ≤ m ∧ i = .int .i64 j ∧ PRel w X w4.heap.size (.slice A5 m c5) es r d wr ∧ RefAt wr g4 d) (fun i _ => m - (intOf i).toNat)
  case atStart => exact ⟨0, _, by omega, rfl, P5.out, R5.out⟩
  case round =>
    obtain ⟨j, d, hj, rfl, hp, hrf⟩ := hrel
    have P := Lib.hid hp
    have RF := Lib.hid hrf
    clear P5 R5 hp hrf
    by_cases hlt : j < m
    · obtain ⟨t, ht⟩ : ∃ t, es[j]? = some t := ⟨_, List.getElem?_eq_getElem (by have := M.out; omega)⟩
      have HT := Lib.hid ht
      clear ht
      obtain ⟨g, cs, rfl, _, hcells, A2, n2, c2, rfl, hk1, hk2, hs⟩ := P.out.row.at_ HT.out
      have q0 := hcells 0 (by omega)
      have q1 := hcells 1 (by omega)
      have q2 := hcells 2 (by omega)
      simp only [List.getElem?_cons_zero, List.getElem?_cons_succ, Nat.add_zero] at q0 q1 q2
      have K1 := Lib.hid hk1
      have K2 := Lib.hid hk2
      have HS := Lib.hid hs
      clear hcells hk1 hk2 hs
      have BS := Lib.hid ((Below.refl wr.heap.size wr).alloc (Nat.le_refl _) (.cells #[.int .i64 t.1, .int .i64 t.2.1, .slice A2 n2 c2] 32))
      have PS := Lib.hid (P.out.on BS.out)
      have RS := Lib.hid (RF.out.on BS.out)
      have SS : Hid ((wr.alloc (.cells #[.int .i64 t.1, .int .i64 t.2.1, .slice A2 n2 c2] 32)).heap[wr.heap.size]? = some (.cells #[.int .i64 t.1, .int .i64 t.2.1, .slice A2 n2 c2] 32 (0, 0))) := heap_alloc_new wr _
      have GS : Hid (g4 < wr.heap.size) := RF.out.lt
      go_upto_region 10 with fail
      clear q0 q1 q2 P RF BS
      obtain ⟨gs, hgs⟩ : ∃ gs, gs = wr.heap.size := ⟨_, rfl⟩
      rw [← hgs] at SS GS ⊢
      clear hgs
      generalize wr.alloc (.cells #[.int .i64 t.1, .int .i64 t.2.1, .slice A2 n2 c2] 32) = ws at *
      have GSN : Hid (gs ≠ g4) := by show _ ≠ _; have := GS.out; omega
      obtain ⟨z0, z1, z2⟩ := s_facts0 SS.out
      go_upto_block 2 with ((with_reducible refine (kind_any _ _ _ _ _ _).mono ?_); rintro e wk ⟨rfl, hbk⟩; have PK := Lib.hid (PS.out.on hbk); have RK := Lib.hid (RS.out.on hbk); have SK := Lib.hid (blk_on SS.out hbk); clear hbk)
      clear z0 z1 z2 PS RS SS GS
      have hkd := (kdN_eq t.1).2
      obtain ⟨kd, hkd2⟩ : ∃ kd, kd = kdN t.1 := ⟨_, rfl⟩
      rw [← hkd2] at hkd ⊢
      clear hkd2
      go_cut [9] (fun s9 wx => s9 = .bool true ∧ ∃ d', PRel w X w4.heap.size (.slice (some ⟨g, 0, none⟩) m c5) es r d' wx ∧ RefAt wx g4 d')
      case first =>
        have hor : kd = 0 ∨ kd = 1 ∨ kd = 2 ∨ kd = 3 ∨ kd = 4 ∨ kd = 5 := by omega
        clear hkd
        have OK := Lib.hid PK.out.disk.okay
        have hb40 : Hid (t.2.2.length ≤ 1000000000) := Nat.le_trans (E40.out j t HT.out) (by omega)
        have hcv := conv_rd (c := c2) (HS.out.on PK.out.below).rd HS.out.len
        obtain ⟨c0, c1, c2', _, _, _⟩ := RK.out.facts
        obtain ⟨y1, y2⟩ := s_facts SK.out
        rcases hor with rfl | rfl | rfl | rfl | rfl | rfl
        iterate 2
          · obtain ⟨d', E, CR, CD⟩ : ∃ (d' : Dk.St) (E : Int), Hid (∀ W, Calls Try.prog 14 #[.agg #[.int .i64 (d.room : Nat), .string (tA d), .string (tB d)], .string (txt t.2.2)] W (QPost d' E W)) ∧
                Hid (∀ W, PRel w X w4.heap.size (.slice (some ⟨g, 0, none⟩) m c5) es r d W → Calls Try.prog 15 #[.pointer (some ⟨r, 0, none⟩), .slice A2 n2 c2] W (PPost w X w4.heap.size (.slice (some ⟨g, 0, none⟩) m c5) es r d' W (.int .i64 E))) :=
              ⟨Dk.write d t.2.2, Dk.writeE d t.2.2, fun W => qWrite OK.out t.2.2 hb40.out W, fun W hp => dWrite_p W hp (HS.out.on hp.below)⟩
            go_wp2_with (first
              | ((with_reducible refine (CR.out _).mono ?_); rintro e wR ⟨rfl, hbR⟩; have PN := Lib.hid ((PK.out.on hbR).on (alloc_below wR (.cells #[.int .i64 (d'.room : Nat), .string (tA d'), .string (tB d')] 27))); have RN := Lib.hid ((RK.out.on hbR).on (alloc_below wR (.cells #[.int .i64 (d'.room : Nat), .string (tA d'), .string (tB d')] 27))); have SN := Lib.hid (blk_on (blk_on SK.out hbR) (alloc_below wR (.cells #[.int .i64 (d'.room : Nat), .string (tA d'), .string (tB d')] 27))); have P15 := Lib.hid (PN.out.other (put_grown _ g4 (.int .i64 (d'.room : Nat)) (.string (tA d')) (.string (tB d'))) GW.out GX2.out GO.out); have R15 := Lib.hid (RN.out.put d'); have S15 := Lib.hid (blk_other SN.out (put_grown _ g4 (.int .i64 (d'.room : Nat)) (.string (tA d')) (.string (tB d'))) GSN.out); obtain ⟨n0, n1, n2, n3, n4, n5⟩ := RN.out.facts; obtain ⟨z1, z2⟩ := s_facts S15.out; clear hbR)
              | ((with_reducible refine (CD.out _ P15.out).mono ?_); rintro e w16 ⟨rfl, hp16, hk16⟩; have P16 := Lib.hid hp16; have R16 := Lib.hid (ref_kept R15.out hk16 GX2.out); clear hp16 hk16))
            go_meet
            case rel => exact ⟨rfl, _, P16.out, R16.out⟩
        · obtain ⟨d', E, CR, CD⟩ : ∃ (d' : Dk.St) (E : Int), Hid (∀ W, Calls Try.prog 16 #[.agg #[.int .i64 (d.room : Nat), .string (tA d), .string (tB d)]] W (QPost d' E W)) ∧
              Hid (∀ W, PRel w X w4.heap.size (.slice (some ⟨g, 0, none⟩) m c5) es r d W → Calls Try.prog 17 #[.pointer (some ⟨r, 0, none⟩)] W (PPost w X w4.heap.size (.slice (some ⟨g, 0, none⟩) m c5) es r d' W (.int .i64 E))) :=
            ⟨Dk.sync d, (Dk.opens d : Nat), fun W => qSync OK.out W, fun W hp => dSync_p W hp⟩
          go_wp2_with (first
            | ((with_reducible refine (CR.out _).mono ?_); rintro e wR ⟨rfl, hbR⟩; have PN := Lib.hid ((PK.out.on hbR).on (alloc_below wR (.cells #[.int .i64 (d'.room : Nat), .string (tA d'), .string (tB d')] 27))); have RN := Lib.hid ((RK.out.on hbR).on (alloc_below wR (.cells #[.int .i64 (d'.room : Nat), .string (tA d'), .string (tB d')] 27))); have SN := Lib.hid (blk_on (blk_on SK.out hbR) (alloc_below wR (.cells #[.int .i64 (d'.room : Nat), .string (tA d'), .string (tB d')] 27))); have P15 := Lib.hid (PN.out.other (put_grown _ g4 (.int .i64 (d'.room : Nat)) (.string (tA d')) (.string (tB d'))) GW.out GX2.out GO.out); have R15 := Lib.hid (RN.out.put d'); have S15 := Lib.hid (blk_other SN.out (put_grown _ g4 (.int .i64 (d'.room : Nat)) (.string (tA d')) (.string (tB d'))) GSN.out); obtain ⟨n0, n1, n2, n3, n4, n5⟩ := RN.out.facts; obtain ⟨z1, z2⟩ := s_facts S15.out; clear hbR)
            | ((with_reducible refine (CD.out _ P15.out).mono ?_); rintro e w16 ⟨rfl, hp16, hk16⟩; have P16 := Lib.hid hp16; have R16 := Lib.hid (ref_kept R15.out hk16 GX2.out); clear hp16 hk16))
          go_meet
          case rel => exact ⟨rfl, _, P16.out, R16.out⟩
        · obtain ⟨d', E, CR, CD⟩ : ∃ (d' : Dk.St) (E : Int), Hid (∀ W, Calls Try.prog 18 #[.agg #[.int .i64 (d.room : Nat), .string (tA d), .string (tB d)], .int .i64 t.2.1] W (QPost d' E W)) ∧
              Hid (∀ W, PRel w X w4.heap.size (.slice (some ⟨g, 0, none⟩) m c5) es r d W → Calls Try.prog 19 #[.pointer (some ⟨r, 0, none⟩), .int .i64 t.2.1] W (PPost w X w4.heap.size (.slice (some ⟨g, 0, none⟩) m c5) es r d' W (.int .i64 E))) :=
            ⟨Dk.crash d t.2.1, (Dk.lost d t.2.1 : Nat), fun W => qCrash OK.out t.2.1 W, fun W hp => dCrash_p W hp K2.out⟩
          go_wp2_with (first
            | ((with_reducible refine (CR.out _).mono ?_); rintro e wR ⟨rfl, hbR⟩; have PN := Lib.hid ((PK.out.on hbR).on (alloc_below wR (.cells #[.int .i64 (d'.room : Nat), .string (tA d'), .string (tB d')] 27))); have RN := Lib.hid ((RK.out.on hbR).on (alloc_below wR (.cells #[.int .i64 (d'.room : Nat), .string (tA d'), .string (tB d')] 27))); have SN := Lib.hid (blk_on (blk_on SK.out hbR) (alloc_below wR (.cells #[.int .i64 (d'.room : Nat), .string (tA d'), .string (tB d')] 27))); have P15 := Lib.hid (PN.out.other (put_grown _ g4 (.int .i64 (d'.room : Nat)) (.string (tA d')) (.string (tB d'))) GW.out GX2.out GO.out); have R15 := Lib.hid (RN.out.put d'); have S15 := Lib.hid (blk_other SN.out (put_grown _ g4 (.int .i64 (d'.room : Nat)) (.string (tA d')) (.string (tB d'))) GSN.out); obtain ⟨n0, n1, n2, n3, n4, n5⟩ := RN.out.facts; obtain ⟨z1, z2⟩ := s_facts S15.out; clear hbR)
            | ((with_reducible refine (CD.out _ P15.out).mono ?_); rintro e w16 ⟨rfl, hp16, hk16⟩; have P16 := Lib.hid hp16; have R16 := Lib.hid (ref_kept R15.out hk16 GX2.out); clear hp16 hk16))
          go_meet
          case rel => exact ⟨rfl, _, P16.out, R16.out⟩
        · obtain ⟨d', E, CR, CD⟩ : ∃ (d' : Dk.St) (E : Int), Hid (∀ W, Calls Try.prog 20 #[.agg #[.int .i64 (d.room : Nat), .string (tA d), .string (tB d)], .int .i64 t.2.1] W (QPost d' E W)) ∧
              Hid (∀ W, PRel w X w4.heap.size (.slice (some ⟨g, 0, none⟩) m c5) es r d W → Calls Try.prog 21 #[.pointer (some ⟨r, 0, none⟩), .int .i64 t.2.1] W (PPost w X w4.heap.size (.slice (some ⟨g, 0, none⟩) m c5) es r d' W (.int .i64 E))) :=
            ⟨Dk.cut d t.2.1, Dk.cutE d t.2.1, fun W => qCut OK.out t.2.1 W, fun W hp => dCut_p W hp K2.out⟩
          go_wp2_with (first
            | ((with_reducible refine (CR.out _).mono ?_); rintro e wR ⟨rfl, hbR⟩; have PN := Lib.hid ((PK.out.on hbR).on (alloc_below wR (.cells #[.int .i64 (d'.room : Nat), .string (tA d'), .string (tB d')] 27))); have RN := Lib.hid ((RK.out.on hbR).on (alloc_below wR (.cells #[.int .i64 (d'.room : Nat), .string (tA d'), .string (tB d')] 27))); have SN := Lib.hid (blk_on (blk_on SK.out hbR) (alloc_below wR (.cells #[.int .i64 (d'.room : Nat), .string (tA d'), .string (tB d')] 27))); have P15 := Lib.hid (PN.out.other (put_grown _ g4 (.int .i64 (d'.room : Nat)) (.string (tA d')) (.string (tB d'))) GW.out GX2.out GO.out); have R15 := Lib.hid (RN.out.put d'); have S15 := Lib.hid (blk_other SN.out (put_grown _ g4 (.int .i64 (d'.room : Nat)) (.string (tA d')) (.string (tB d'))) GSN.out); obtain ⟨n0, n1, n2, n3, n4, n5⟩ := RN.out.facts; obtain ⟨z1, z2⟩ := s_facts S15.out; clear hbR)
            | ((with_reducible refine (CD.out _ P15.out).mono ?_); rintro e w16 ⟨rfl, hp16, hk16⟩; have P16 := Lib.hid hp16; have R16 := Lib.hid (ref_kept R15.out hk16 GX2.out); clear hp16 hk16))
          go_meet
          case rel => exact ⟨rfl, _, P16.out, R16.out⟩
        · by_cases hod : t.2.1.tmod 2 = 0
          · have heven : (t.2.1.tmod 2 != 0) = false := by rw [hod]; rfl
            go_wp2_with fail
            go_meet
            case rel => exact ⟨rfl, _, PK.out, RK.out⟩
          · obtain ⟨d', E, CR, CD⟩ : ∃ (d' : Dk.St) (E : Int), Hid (∀ W, Calls Try.prog 22 #[.agg #[.int .i64 (d.room : Nat), .string (tA d), .string (tB d)], .string (txt t.2.2)] W (QPost d' E W)) ∧
                Hid (∀ W, PRel w X w4.heap.size (.slice (some ⟨g, 0, none⟩) m c5) es r d W → Calls Try.prog 23 #[.pointer (some ⟨r, 0, none⟩), .slice A2 n2 c2] W (PPost w X w4.heap.size (.slice (some ⟨g, 0, none⟩) m c5) es r d' W (.int .i64 E))) :=
              ⟨Dk.swap d t.2.2, Dk.swapE d t.2.2, fun W => qSwap t.2.2 W, fun W hp => dSwap_p W hp (HS.out.on hp.below)⟩
            have hodd : (t.2.1.tmod 2 != 0) = true := by rw [bne_iff_ne]; exact hod
            go_wp2_with (first
              | ((with_reducible refine (CR.out _).mono ?_); rintro e wR ⟨rfl, hbR⟩; have PN := Lib.hid ((PK.out.on hbR).on (alloc_below wR (.cells #[.int .i64 (d'.room : Nat), .string (tA d'), .string (tB d')] 27))); have RN := Lib.hid ((RK.out.on hbR).on (alloc_below wR (.cells #[.int .i64 (d'.room : Nat), .string (tA d'), .string (tB d')] 27))); have SN := Lib.hid (blk_on (blk_on SK.out hbR) (alloc_below wR (.cells #[.int .i64 (d'.room : Nat), .string (tA d'), .string (tB d')] 27))); have P15 := Lib.hid (PN.out.other (put_grown _ g4 (.int .i64 (d'.room : Nat)) (.string (tA d')) (.string (tB d'))) GW.out GX2.out GO.out); have R15 := Lib.hid (RN.out.put d'); have S15 := Lib.hid (blk_other SN.out (put_grown _ g4 (.int .i64 (d'.room : Nat)) (.string (tA d')) (.string (tB d'))) GSN.out); obtain ⟨n0, n1, n2, n3, n4, n5⟩ := RN.out.facts; obtain ⟨z1, z2⟩ := s_facts S15.out; clear hbR)
              | ((with_reducible refine (CD.out _ P15.out).mono ?_); rintro e w16 ⟨rfl, hp16, hk16⟩; have P16 := Lib.hid hp16; have R16 := Lib.hid (ref_kept R15.out hk16 GX2.out); clear hp16 hk16))
            go_meet
            case rel => exact ⟨rfl, _, P16.out, R16.out⟩
      case rest =>
        clear PK RK SK
        obtain ⟨rfl, d', hp', hr'⟩ := hcut
        have PN := Lib.hid hp'
        have RN := Lib.hid hr'
        have OK := hp'.disk.okay
        obtain ⟨L, hL⟩ : ∃ L, L = d'.l.length := ⟨_, rfl⟩
        obtain ⟨s, hs⟩ : ∃ s, s = d'.safe := ⟨_, rfl⟩
        obtain ⟨o, ho⟩ : ∃ o, o = Dk.opens d' := ⟨_, rfl⟩
        obtain ⟨x, hx⟩ : ∃ x, x = d'.room - d'.l.length := ⟨_, rfl⟩
        obtain ⟨R, hR⟩ : ∃ R, R = d'.room := ⟨_, rfl⟩
        have hz1 : (tA d').size = s := by rw [hs]; exact tA_size OK
        have hz2 : (tB d').size = o := by rw [ho]; exact tB_size d'
        have htab := tAB d'
        have k1 := OK.1
        have k2 := OK.2.1
        have k3 := OK.2.2
        have k4 : Dk.opens d' = d'.l.length - d'.safe := rfl
        have hso : (s : Int) + (o : Int) = (L : Int) := by omega
        have hxi : (R : Int) - (L : Int) = (x : Int) := by omega
        have hov : ¬ 9223372036854775807 < s + o := by omega
        have hl20 : L ≤ 1048576 := by omega
        have hr20 : R ≤ 1048576 := by omega
        have hx20 : x ≤ 1048576 := by omega
        have hwx : IntKind.i64.wrap (x : Int) = (x : Int) := IntWalk.i64_in _ (by omega)
        have C1 := Lib.hid (fun W (h : PRel w X w4.heap.size (.slice (some ⟨g, 0, none⟩) m c5) es r d' W) => dLen_x W h.disk)
        have C2 := Lib.hid (fun W (h : PRel w X w4.heap.size (.slice (some ⟨g, 0, none⟩) m c5) es r d' W) => dRoom_x W h.disk)
        have C3 := Lib.hid (fun W (h : PRel w X w4.heap.size (.slice (some ⟨g, 0, none⟩) m c5) es r d' W) => dSafe_x W h.disk)
        have C4 := Lib.hid (fun W (h : PRel w X w4.heap.size (.slice (some ⟨g, 0, none⟩) m c5) es r d' W) => dAll_x W h.disk)
        rw [← hL] at C1
        rw [← hx] at C2
        rw [← hs] at C3
        obtain ⟨f0, f1, f2, _, _, _⟩ := hr'.facts
        have RR := Lib.hid hR
        have tt := txt_same d'.l
        clear OK hL hs ho hx hR k1 k2 k3 k4 hp' hr'
        go_wp2_with fail
        clear f0 f1 f2
        have PD := Lib.hid (PN.out.on (Below.refl wc.heap.size wc).drew)
        have RD := Lib.hid (RN.out.on (Below.refl wc.heap.size wc).drew)
        refine wp_region_held_drew (S := SRef g4 R (tA d') (tB d')) (by kernel_rfl) (sref_of RD.out RR.out) (fun hS => ?_)
        refine tkYes 0 (v := ?_) rfl (by kernel_rfl) (fun _ _ _ h => h) rfl ?_ hS ?_
        rotate_left
        · intro W hW; go_simp; (try with_reducible rfl)
        simp only [Act.put, List.setIfInBounds_toArray, List.set_cons_zero, List.set_cons_succ]
        refine tkYes 1 (v := ?_) rfl (by kernel_rfl) (fun _ _ _ h => h) rfl ?_ hS ?_
        rotate_left
        · intro W hW; go_simp; (try with_reducible rfl)
        simp only [Act.put, List.setIfInBounds_toArray, List.set_cons_zero, List.set_cons_succ]
        refine tkYes 2 (v := ?_) rfl (by kernel_rfl) (fun _ _ _ h => h) rfl ?_ hS ?_
        rotate_left
        · intro W hW; go_simp; (try with_reducible rfl)
        simp only [Act.put, List.setIfInBounds_toArray, List.set_cons_zero, List.set_cons_succ]
        refine tkYes 3 (v := ?_) rfl (by kernel_rfl) (fun _ _ _ h => h) rfl ?_ hS ?_
        rotate_left
        · intro W hW; go_simp; (try with_reducible rfl)
        simp only [Act.put, List.setIfInBounds_toArray, List.set_cons_zero, List.set_cons_succ]
        refine tkYes 6 (v := ?_) rfl (by kernel_rfl) (fun _ _ _ h => h) rfl ?_ hS ?_
        rotate_left
        · intro W hW; go_simp; (try with_reducible rfl)
        simp only [Act.put, List.setIfInBounds_toArray, List.set_cons_zero, List.set_cons_succ]
        refine tkYes 7 (v := ?_) rfl (by kernel_rfl) (fun _ _ _ h => h) rfl ?_ hS ?_
        rotate_left
        · intro W hW; have hW0 : W.cell? ⟨g4, 0, none⟩ = some (.int .i64 (R : Nat)) := hW.1; have hW1 : W.cell? ⟨g4, 1, none⟩ = some (.string (tA d')) := hW.2.1; have hW2 : W.cell? ⟨g4, 2, none⟩ = some (.string (tB d')) := hW.2.2; go_simp; (try with_reducible rfl)
        simp only [Act.put, List.setIfInBounds_toArray, List.set_cons_zero, List.set_cons_succ]
        refine tkYes 8 (v := ?_) rfl (by kernel_rfl) (fun _ _ _ h => h) rfl ?_ hS ?_
        rotate_left
        · intro W hW; go_simp; (try with_reducible rfl)
        simp only [Act.put, List.setIfInBounds_toArray, List.set_cons_zero, List.set_cons_succ]
        refine tkYes 9 (v := ?_) rfl (by kernel_rfl) (fun _ _ _ h => h) rfl ?_ hS ?_
        rotate_left
        · intro W hW; have hW0 : W.cell? ⟨g4, 0, none⟩ = some (.int .i64 (R : Nat)) := hW.1; have hW1 : W.cell? ⟨g4, 1, none⟩ = some (.string (tA d')) := hW.2.1; have hW2 : W.cell? ⟨g4, 2, none⟩ = some (.string (tB d')) := hW.2.2; go_simp; (try with_reducible rfl)
        simp only [Act.put, List.setIfInBounds_toArray, List.set_cons_zero, List.set_cons_succ]
        refine tkYes 10 (v := ?_) rfl (by kernel_rfl) (fun _ _ _ h => h) rfl ?_ hS ?_
        rotate_left
        · intro W hW; go_simp; (try with_reducible rfl)
        simp only [Act.put, List.setIfInBounds_toArray, List.set_cons_zero, List.set_cons_succ]
        refine rnOne 4 rfl (by kernel_rfl) rfl (fun K hK => ?_)
        go_simp
        (with_reducible refine (C4.out _ PD.out).mono ?_)
        rintro e w7 ⟨A7, c7, rfl, ho7, hbX⟩
        have hcv7 := conv_rd (c := c7) ho7.sls.rd rfl
        clear ho7
        replace RD := Lib.hid (RD.out.on hbX)
        replace PD := Lib.hid (PD.out.on hbX)
        clear hS hbX
        have hS := sref_of RD.out RR.out
        refine hK.out _ _ hS (fun _ => ?_)
        clear hK K
        try simp only [Act.put, List.setIfInBounds_toArray, List.set_cons_zero, List.set_cons_succ]
        refine rnOne 5 rfl (by kernel_rfl) rfl (fun K hK => ?_)
        go_simp
        refine hK.out _ _ hS (fun _ => ?_)
        clear hK K
        refine tkYes 11 (v := ?_) rfl (by kernel_rfl) (fun _ _ _ h => h) rfl ?_ hS ?_
        rotate_left
        · intro W hW; go_simp; (try with_reducible rfl)
        simp only [Act.put, List.setIfInBounds_toArray, List.set_cons_zero, List.set_cons_succ]
        refine tkYes 12 (v := ?_) rfl (by kernel_rfl) (fun _ _ _ h => h) rfl ?_ hS ?_
        rotate_left
        · intro W hW; go_simp; (try with_reducible rfl)
        simp only [Act.put, List.setIfInBounds_toArray, List.set_cons_zero, List.set_cons_succ]
        refine tkYes 13 (v := ?_) rfl (by kernel_rfl) (fun _ _ _ h => h) rfl ?_ hS ?_
        rotate_left
        · intro W hW; go_simp; (try with_reducible rfl)
        simp only [Act.put, List.setIfInBounds_toArray, List.set_cons_zero, List.set_cons_succ]
        refine tkYes 14 (v := ?_) rfl (by kernel_rfl) (fun _ _ _ h => h) rfl ?_ hS ?_
        rotate_left
        · intro W hW; go_simp; (try with_reducible rfl)
        simp only [Act.put, List.setIfInBounds_toArray, List.set_cons_zero, List.set_cons_succ]
        refine tkYes 16 (v := ?_) rfl (by kernel_rfl) (fun _ _ _ h => h) rfl ?_ hS ?_
        rotate_left
        · intro W hW; go_simp; (try with_reducible rfl)
        simp only [Act.put, List.setIfInBounds_toArray, List.set_cons_zero, List.set_cons_succ]
        refine rnOne 15 rfl (by kernel_rfl) rfl (fun K hK => ?_)
        go_simp
        (with_reducible refine (C1.out _ PD.out).mono ?_)
        rintro e w8 ⟨rfl, hbX⟩
        replace RD := Lib.hid (RD.out.on hbX)
        replace PD := Lib.hid (PD.out.on hbX)
        clear hS hbX
        have hS := sref_of RD.out RR.out
        refine hK.out _ _ hS (fun _ => ?_)
        clear hK K
        try simp only [Act.put, List.setIfInBounds_toArray, List.set_cons_zero, List.set_cons_succ]
        refine tkYes 17 (v := ?_) rfl (by kernel_rfl) (fun _ _ _ h => h) rfl ?_ hS ?_
        rotate_left
        · intro W hW; go_simp; (try with_reducible rfl)
        simp only [Act.put, List.setIfInBounds_toArray, List.set_cons_zero, List.set_cons_succ]
        refine tkYes 18 (v := ?_) rfl (by kernel_rfl) (fun _ _ _ h => h) rfl ?_ hS ?_
        rotate_left
        · intro W hW; go_simp; (try with_reducible rfl)
        simp only [Act.put, List.setIfInBounds_toArray, List.set_cons_zero, List.set_cons_succ]
        refine tkYes 19 (v := ?_) rfl (by kernel_rfl) (fun _ _ _ h => h) rfl ?_ hS ?_
        rotate_left
        · intro W hW; go_simp; (try with_reducible rfl)
        simp only [Act.put, List.setIfInBounds_toArray, List.set_cons_zero, List.set_cons_succ]
        refine tkYes 20 (v := ?_) rfl (by kernel_rfl) (fun _ _ _ h => h) rfl ?_ hS ?_
        rotate_left
        · intro W hW; go_simp; (try with_reducible rfl)
        simp only [Act.put, List.setIfInBounds_toArray, List.set_cons_zero, List.set_cons_succ]
        refine tkYes 22 (v := ?_) rfl (by kernel_rfl) (fun _ _ _ h => h) rfl ?_ hS ?_
        rotate_left
        · intro W hW; go_simp; (try with_reducible rfl)
        simp only [Act.put, List.setIfInBounds_toArray, List.set_cons_zero, List.set_cons_succ]
        refine tkYes 23 (v := ?_) rfl (by kernel_rfl) (fun _ _ _ h => h) rfl ?_ hS ?_
        rotate_left
        · intro W hW; have hW0 : W.cell? ⟨g4, 0, none⟩ = some (.int .i64 (R : Nat)) := hW.1; have hW1 : W.cell? ⟨g4, 1, none⟩ = some (.string (tA d')) := hW.2.1; have hW2 : W.cell? ⟨g4, 2, none⟩ = some (.string (tB d')) := hW.2.2; go_simp; (try with_reducible rfl)
        simp only [Act.put, List.setIfInBounds_toArray, List.set_cons_zero, List.set_cons_succ]
        refine tkYes 24 (v := ?_) rfl (by kernel_rfl) (fun _ _ _ h => h) rfl ?_ hS ?_
        rotate_left
        · intro W hW; go_simp; (try with_reducible rfl)
        simp only [Act.put, List.setIfInBounds_toArray, List.set_cons_zero, List.set_cons_succ]
        refine rnOne 21 rfl (by kernel_rfl) rfl (fun K hK => ?_)
        go_simp
        (with_reducible refine (C3.out _ PD.out).mono ?_)
        rintro e w9 ⟨rfl, hbX⟩
        replace RD := Lib.hid (RD.out.on hbX)
        replace PD := Lib.hid (PD.out.on hbX)
        clear hS hbX
        have hS := sref_of RD.out RR.out
        refine hK.out _ _ hS (fun _ => ?_)
        clear hK K
        try simp only [Act.put, List.setIfInBounds_toArray, List.set_cons_zero, List.set_cons_succ]
        refine tkYes 25 (v := ?_) rfl (by kernel_rfl) (fun _ _ _ h => h) rfl ?_ hS ?_
        rotate_left
        · intro W hW; go_simp; (try with_reducible rfl)
        simp only [Act.put, List.setIfInBounds_toArray, List.set_cons_zero, List.set_cons_succ]
        refine tkYes 26 (v := ?_) rfl (by kernel_rfl) (fun _ _ _ h => h) rfl ?_ hS ?_
        rotate_left
        · intro W hW; go_simp; (try with_reducible rfl)
        simp only [Act.put, List.setIfInBounds_toArray, List.set_cons_zero, List.set_cons_succ]
        refine tkYes 27 (v := ?_) rfl (by kernel_rfl) (fun _ _ _ h => h) rfl ?_ hS ?_
        rotate_left
        · intro W hW; go_simp; (try with_reducible rfl)
        simp only [Act.put, List.setIfInBounds_toArray, List.set_cons_zero, List.set_cons_succ]
        refine tkYes 28 (v := ?_) rfl (by kernel_rfl) (fun _ _ _ h => h) rfl ?_ hS ?_
        rotate_left
        · intro W hW; go_simp; (try with_reducible rfl)
        simp only [Act.put, List.setIfInBounds_toArray, List.set_cons_zero, List.set_cons_succ]
        refine tkYes 30 (v := ?_) rfl (by kernel_rfl) (fun _ _ _ h => h) rfl ?_ hS ?_
        rotate_left
        · intro W hW; go_simp; (try with_reducible rfl)
        simp only [Act.put, List.setIfInBounds_toArray, List.set_cons_zero, List.set_cons_succ]
        refine tkYes 31 (v := ?_) rfl (by kernel_rfl) (fun _ _ _ h => h) rfl ?_ hS ?_
        rotate_left
        · intro W hW; have hW0 : W.cell? ⟨g4, 0, none⟩ = some (.int .i64 (R : Nat)) := hW.1; have hW1 : W.cell? ⟨g4, 1, none⟩ = some (.string (tA d')) := hW.2.1; have hW2 : W.cell? ⟨g4, 2, none⟩ = some (.string (tB d')) := hW.2.2; go_simp; (try with_reducible rfl)
        simp only [Act.put, List.setIfInBounds_toArray, List.set_cons_zero, List.set_cons_succ]
        refine tkYes 32 (v := ?_) rfl (by kernel_rfl) (fun _ _ _ h => h) rfl ?_ hS ?_
        rotate_left
        · intro W hW; go_simp; (try with_reducible rfl)
        simp only [Act.put, List.setIfInBounds_toArray, List.set_cons_zero, List.set_cons_succ]
        refine tkYes 33 (v := ?_) rfl (by kernel_rfl) (fun _ _ _ h => h) rfl ?_ hS ?_
        rotate_left
        · intro W hW; go_simp; (try with_reducible rfl)
        simp only [Act.put, List.setIfInBounds_toArray, List.set_cons_zero, List.set_cons_succ]
        refine rnOne 29 rfl (by kernel_rfl) rfl (fun K hK => ?_)
        go_simp
        (with_reducible refine (C2.out _ PD.out).mono ?_)
        rintro e w10 ⟨rfl, hbX⟩
        replace RD := Lib.hid (RD.out.on hbX)
        replace PD := Lib.hid (PD.out.on hbX)
        clear hS hbX
        have hS := sref_of RD.out RR.out
        refine hK.out _ _ hS (fun _ => ?_)
        clear hK K
        try simp only [Act.put, List.setIfInBounds_toArray, List.set_cons_zero, List.set_cons_succ]
        refine tkYes 34 (v := ?_) rfl (by kernel_rfl) (fun _ _ _ h => h) rfl ?_ hS ?_
        rotate_left
        · intro W hW; go_simp; (try with_reducible rfl)
        simp only [Act.put, List.setIfInBounds_toArray, List.set_cons_zero, List.set_cons_succ]
        refine tkYes 35 (v := ?_) rfl (by kernel_rfl) (fun _ _ _ h => h) rfl ?_ hS ?_
        rotate_left
        · intro W hW; go_simp; (try with_reducible rfl)
        simp only [Act.put, List.setIfInBounds_toArray, List.set_cons_zero, List.set_cons_succ]
        refine wpAnyH_done (by kernel_rfl) ?_ _
        go_wp2_with fail
        exact ⟨⟨j + 1, d', by omega, by go_num, PD.out, RD.out⟩, by simp [intOf]; omega⟩
    · obtain rfl : j = m := by omega
      go_wp2_with fail
      go_ret
      exact ⟨rfl, P.out.below⟩
end Go.Proofs.Ytoapdkncddhgiaa
