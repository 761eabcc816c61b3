/-
  The walk of the statement JournalPlays, of whatever journal keeps JC.
-/
import Derived.Test.YtdamnamhbjfnlaaJrnJC
import Derived.Test.YtdamnamhbjfnlaaJrnRef2
import Derived.Test.YtdamnamhbjfnlaaJrnEarly
import Derived.Test.YtdamnamhbjfnlaaFrMake
import Derived.Test.YtdamnamhbjfnlaaRegion
import Derived.Deep.CutBlock
import Derived.Deep.DeepCutAuto
namespace Go.Proofs.Ytdamnamhbjfnlaa
open Go.RowKit
set_option linter.unusedSimpArgs false

/-- What the operations of the last test load. -/
def JRef (g R : Nat) (a b : ByteArray) (W : World) : Prop := W.cell? ⟨g, 0, none⟩ = some (.int .i64 (R : Nat)) ∧ W.cell? ⟨g, 1, none⟩ = some (.string a) ∧ W.cell? ⟨g, 2, none⟩ = some (.string b)
theorem jref_of {W : World} {g R : Nat} {d : Dk.St} (h : RefAt W g d) (hR : R = d.room) : JRef g R (tA d) (tB d) W := by
  subst hR
  obtain ⟨h0, h1, h2, _⟩ := h.facts
  exact ⟨h0, h1, h2⟩
theorem safe_small {d : Dk.St} (h : Dk.Okay d) : Jn.safeN d ≤ 1048576 := by
  unfold Jn.safeN
  refine Nat.le_trans (Fr.scan_count _) ?_
  rw [List.length_take]
  have := h.1
  have := h.2.1
  have := h.2.2
  omega
theorem sls_own {W : World} {B x c : Nat} {A : Option Addr} {ls : List (List Nat)} (hx : x = ls.length) (h : OwnS W B (.slice A x c) ls) : SlS W A x c ls := by
  obtain ⟨A', c', e, h2⟩ := h.sls
  injection e with e1 e2 e3
  subst e1 e2 e3
  exact h2
set_option maxRecDepth 100000 in
set_option maxHeartbeats 12800000 in
theorem jplays_walk {J : JPred} (hJ : JC J) (hl : ∀ W, Calls Try.prog 9 #[] W fun e w' => e = .returned (.bool true) ∧ Below W.heap.size W w')
    (rm : Int) (n c : Nat) (A : Option Addr) (ts : List Stj) (w : World) (h : SlJ w A n c ts) :
    Calls Try.prog 3 #[.int .i64 rm, .slice A n c] w fun e w' => e = .returned (.bool true) ∧ Below w.heap.size w w' := by
  have H := Lib.hid h
  have HJ := Lib.hid hJ
  have HL := Lib.hid hl
  clear h hJ hl
  go_enter Try.func3, Try.ntmps3
  go_wp2_with fail
  (with_reducible refine (HL.out _).mono ?_)
  rintro e w1 ⟨rfl, hb1⟩
  have B1 := Lib.hid hb1; clear hb1
  go_wp2_with fail
  (with_reducible refine (dNew_at w1 _ (Below.refl _ _)).mono ?_)
  rintro e w2 ⟨r, rfl, _, hd2, hb2, _⟩
  obtain ⟨d0, hd0⟩ : ∃ d0, d0 = Dk.new rm := ⟨_, rfl⟩
  have D2 : Hid (DskX w2 (fun i => w1.heap.size ≤ i) r d0) := by
    show DskX _ _ _ _
    rw [hd0]
    exact hd2.toX fun i hi _ => hi
  have B2 := Lib.hid hb2
  have Y0 : Hid (Jn.Byt d0) := by
    show Jn.Byt _
    rw [hd0]
    intro x hx
    cases hx
  have F0 : Hid (Dk.fits rm = d0.room ∧ tA d0 = ⟨#[]⟩ ∧ tB d0 = ⟨#[]⟩ ∧ Jn.opened d0 = d0) := by rw [hd0]; exact ⟨rfl, rfl, rfl, Jn.opened_new rm⟩
  clear hd0 hd2 hb2
  go_wp2_with fail
  (with_reducible refine (HJ.out.make w2 _ r d0 D2.out Y0.out (fun i hi => Nat.le_trans B2.out.size hi)).mono ?_)
  rintro e w3 ⟨q, rfl, hj3, hk3⟩
  rw [F0.out.2.2.2] at hj3
  have J3 := Lib.hid hj3
  have B3 : Hid (Below w1.heap.size w1 w3) := B2.out.trans (hk3.below B2.out.size fun i hi => hi)
  clear hj3 hk3 D2 B2 Y0
  go_wp2_with fail
  (with_reducible refine (rNew_any _ _).mono ?_)
  rintro e w3' ⟨rfl, hb3⟩
  rw [F0.out.1]
  have J3' := Lib.hid (HJ.out.below J3.out hb3)
  have B3' : Hid (Below w1.heap.size w1 w3') := B3.out.trans (hb3.mono B3.out.size)
  clear hb3 J3 B3
  have R4 : Hid (RefAt (w3'.alloc (.cells #[.int .i64 (d0.room : Nat), .string ⟨#[]⟩, .string ⟨#[]⟩] 30)) w3'.heap.size d0) := by
    show RefAt _ _ _
    unfold RefAt
    rw [F0.out.2.1, F0.out.2.2.1]
    exact heap_alloc_new w3' _
  have AB := Lib.hid (alloc_below w3' (.cells #[.int .i64 (d0.room : Nat), .string ⟨#[]⟩, .string ⟨#[]⟩] 30))
  have B4 : Hid (Below w1.heap.size w1 (w3'.alloc (.cells #[.int .i64 (d0.room : Nat), .string ⟨#[]⟩, .string ⟨#[]⟩] 30))) := B3'.out.trans (AB.out.mono B3'.out.size)
  have B04 : Hid (Below w.heap.size w (w3'.alloc (.cells #[.int .i64 (d0.room : Nat), .string ⟨#[]⟩, .string ⟨#[]⟩] 30))) := B1.out.trans (B4.out.mono B1.out.size)
  obtain ⟨g4, hg4⟩ : ∃ g4, g4 = w3'.heap.size := ⟨_, rfl⟩
  have G4 : Hid (w1.heap.size ≤ g4) := by show _ ≤ _; rw [hg4]; exact B3'.out.size
  have J4 : Hid (J (w3'.alloc (.cells #[.int .i64 (d0.room : Nat), .string ⟨#[]⟩, .string ⟨#[]⟩] 30)) (fun i => w1.heap.size ≤ i ∧ i < g4) q r d0) :=
    HJ.out.below (HJ.out.more _ _ _ _ _ _ J3'.out (fun i hi hlt => ⟨hi, by rw [hg4]; exact hlt⟩)) AB.out
  have HG4 := Lib.hid hg4
  clear hg4 B3' J3' AB
  go_wp2_with fail
  rw [← HG4.out] at R4 ⊢
  clear F0 HG4
  generalize w3'.alloc (.cells #[.int .i64 (d0.room : Nat), .string ⟨#[]⟩, .string ⟨#[]⟩] 30) = w4 at *
  have C5 := Lib.hid (jearly_any n c A ts w w4 H.out B04.out)
  (with_reducible refine C5.out.mono ?_)
  rintro e w5 ⟨A5, c5, rfl, ho5, hb5⟩
  have L5 := Lib.hid (jearly_len ts)
  have E40 := Lib.hid (jearly_small ts)
  obtain ⟨es, hes⟩ : ∃ es, es = jearlyL ts := ⟨_, rfl⟩
  rw [← hes] at ho5 L5 E40 ⊢
  clear hes C5
  obtain ⟨m, hm⟩ : ∃ m, m = es.length := ⟨_, rfl⟩
  rw [← hm] at ho5 L5 ⊢
  have hm80 : m ≤ 40 := L5.out
  have M := Lib.hid hm
  clear hm
  obtain ⟨X, hX⟩ : ∃ X : Nat → Prop, X = (fun i => (w1.heap.size ≤ i ∧ i < g4) ∨ w5.heap.size ≤ i) := ⟨_, rfl⟩
  have P0 : Hid (PJ0 w w5 X w4.heap.size g4 (.slice A5 m c5) es) := by
    have h1 := R4.out.lt
    have h2 := hb5.size
    have h3 := B1.out.size
    have h4 := G4.out
    refine ⟨B04.out.trans (hb5.mono B04.out.size), ho5, fun i hi => ?_, ⟨Nat.le_trans h3 h4, h1⟩, B04.out.size⟩
    rw [hX] at hi
    rcases hi with ⟨h5, h6⟩ | h5
    · exact ⟨by omega, .inl (by omega), by omega⟩
    · exact ⟨by omega, .inr h5, by omega⟩
  have P5 : Hid (PJ J w5 X g4 q r d0 w5) :=
    ⟨Kept.refl _ _, HJ.out.more _ _ _ _ _ _ (HJ.out.below J4.out hb5) (fun i hi _ => by rw [hX]; exact .inl hi), fun i hi => by rw [hX]; exact .inr hi⟩
  have R5 := Lib.hid (R4.out.on hb5)
  have GX2 : Hid (¬ X g4) := fun hx => (P0.out.inX g4 hx).2.2 rfl
  clear ho5 hb5 R4 J4 B4 B04 hX G4
  go_wp2_with fail
  go_loopw [8] (fun i wr => ∃ (j : Nat) (d : Dk.St), j ≤ m ∧ i = .int .i64 j ∧ PJ J w5 X g4 q r d wr ∧ RefAt wr g4 d) (fun i _ => m - (intOf i).toNat)
  case atStart => exact ⟨0, _, by omega, rfl, P5.out, R5.out⟩
  case round =>
    obtain ⟨j, d, hj, rfl, hp, hrf⟩ := hrel
    have P := Lib.hid hp
    have RF := Lib.hid hrf
    clear P5 R5 hp hrf
    by_cases hlt : j < m
    · obtain ⟨t, ht⟩ : ∃ t, es[j]? = some t := ⟨_, List.getElem?_eq_getElem (by have := M.out; omega)⟩
      have HT := Lib.hid ht
      clear ht
      obtain ⟨g, A2, n2, c2, A3, n3, c3, rfl, hk1, hk2, hs, hn3, hW⟩ := P0.out.at_ HT.out
      obtain ⟨q0, q1, q2, q3, _⟩ := hW J q r d wr P.out
      simp only [Nat.add_zero] at q0
      have K1 := Lib.hid hk1
      have K2 := Lib.hid hk2
      have HS := Lib.hid hs
      have HW := Lib.hid (fun W d (h : PJ J w5 X g4 q r d W) => (hW J q r d W h).2.2.2.2)
      have N2 : Hid (n2 ≤ 900000000) := by have h1 := hs.len; have h2 := (E40.out j t HT.out).1; show _ ≤ _; omega
      clear hk1 hk2 hs hW hn3
      have BS := Lib.hid (alloc_below wr (.cells #[.int .i64 t.1, .int .i64 t.2.1, .slice A2 n2 c2, .slice A3 n3 c3] 36))
      have PS := Lib.hid (P.out.on HJ.out BS.out)
      have RS := Lib.hid (RF.out.on BS.out)
      have SS : Hid ((wr.alloc (.cells #[.int .i64 t.1, .int .i64 t.2.1, .slice A2 n2 c2, .slice A3 n3 c3] 36)).heap[wr.heap.size]? = some (.cells #[.int .i64 t.1, .int .i64 t.2.1, .slice A2 n2 c2, .slice A3 n3 c3] 36 (0, 0))) := heap_alloc_new wr _
      have GS : Hid (g4 < wr.heap.size) := RF.out.lt
      go_upto_region 11 with fail
      clear q0 q1 q2 q3 P RF BS
      obtain ⟨gs, hgs⟩ : ∃ gs, gs = wr.heap.size := ⟨_, rfl⟩
      rw [← hgs] at SS GS ⊢
      clear hgs
      generalize wr.alloc (.cells #[.int .i64 t.1, .int .i64 t.2.1, .slice A2 n2 c2, .slice A3 n3 c3] 36) = ws at *
      have GSN : Hid (gs ≠ g4) := by show _ ≠ _; have := GS.out; omega
      obtain ⟨z0, z1, z2, z3⟩ := j_facts0 SS.out
      go_upto_block 2 with ((with_reducible refine (jkind_any _ _ _ _ _).mono ?_); rintro e wk ⟨rfl, hbk⟩; have PK := Lib.hid (PS.out.on HJ.out hbk); have RK := Lib.hid (RS.out.on hbk); have SK := Lib.hid (blk_on SS.out hbk); clear hbk)
      clear z0 z1 z2 z3 PS RS SS GS
      have hkd := (jkN_eq t.1).2
      obtain ⟨kd, hkd2⟩ : ∃ kd, kd = jkN t.1 := ⟨_, rfl⟩
      rw [← hkd2] at hkd ⊢
      clear hkd2
      go_cut [10] (fun s9 wx => s9 = .bool true ∧ ∃ d', PJ J w5 X g4 q r d' wx ∧ RefAt wx g4 d')
      case first =>
        have hor : kd = 0 ∨ kd = 1 ∨ kd = 2 ∨ kd = 3 ∨ kd = 4 ∨ kd = 5 := by omega
        clear hkd
        have OK := Lib.hid (HJ.out.okay _ _ _ _ _ PK.out.jr)
        obtain ⟨c0, c1, c2', _, _, _⟩ := RK.out.facts
        obtain ⟨_, y1, y2, y3⟩ := j_facts0 SK.out
        rcases hor with rfl | rfl | rfl | rfl | rfl | rfl
        iterate 2
          · obtain ⟨d', E, CR, CD⟩ : ∃ (d' : Dk.St) (E : Int), Hid (∀ W, Below w.heap.size w W → PJ J w5 X g4 q r d W → Calls Try.prog 15 #[.agg #[.int .i64 (d.room : Nat), .string (tA d), .string (tB d)], .slice A2 n2 c2] W (QPost d' E W)) ∧
                  Hid (∀ W, PJ J w5 X g4 q r d W → Calls Try.prog 16 #[.pointer (some ⟨q, 0, none⟩), .slice A2 n2 c2] W (PJPost J w5 X g4 q r d' W (.int .i64 E))) :=
                ⟨Jn.app d t.2.2.1, Jn.appE d t.2.2.1, fun W hb hp => jqAppend OK.out.1 n2 c2 A2 t.2.2.1 W (HS.out.on hb) N2.out, fun W hp => jAppend_p HJ.out W hp (HS.out.on (P0.out.now hp)) N2.out⟩
            go_wp2_with (first
              | ((with_reducible refine (CR.out _ (P0.out.now PK.out) PK.out).mono ?_); rintro e wR ⟨rfl, hbR⟩; have PN := Lib.hid ((PK.out.on HJ.out hbR).on HJ.out (alloc_below wR (.cells #[.int .i64 (d'.room : Nat), .string (tA d'), .string (tB d')] 30))); have RN := Lib.hid ((RK.out.on hbR).on (alloc_below wR (.cells #[.int .i64 (d'.room : Nat), .string (tA d'), .string (tB d')] 30))); have SN := Lib.hid (blk_on (blk_on SK.out hbR) (alloc_below wR (.cells #[.int .i64 (d'.room : Nat), .string (tA d'), .string (tB d')] 30))); have P15 := Lib.hid (PN.out.other HJ.out (put_grown _ g4 (.int .i64 (d'.room : Nat)) (.string (tA d')) (.string (tB d'))) GX2.out); have R15 := Lib.hid (RN.out.put d'); have S15 := Lib.hid (blk_other SN.out (put_grown _ g4 (.int .i64 (d'.room : Nat)) (.string (tA d')) (.string (tB d'))) GSN.out); obtain ⟨n0, n1, n2', n3', n4, n5⟩ := RN.out.facts; obtain ⟨_, z1, z2, z3⟩ := j_facts0 S15.out; clear hbR)
              | ((with_reducible refine (CD.out _ P15.out).mono ?_); rintro e w16 ⟨rfl, hp16, hk16⟩; have P16 := Lib.hid hp16; have R16 := Lib.hid (ref_kept R15.out hk16 GX2.out); clear hp16 hk16))
            go_meet
            case rel => exact ⟨rfl, _, P16.out, R16.out⟩
        · obtain ⟨x1, hx1⟩ : ∃ x1, x1 = (Jn.ents d).length := ⟨_, rfl⟩
          obtain ⟨x2, hx2⟩ : ∃ x2, x2 = Jn.safeN d := ⟨_, rfl⟩
          have CA := Lib.hid (fun W => jqAll OK.out.1 OK.out.2 W)
          have CB := Lib.hid (fun W => jqSafe OK.out.1 OK.out.2 W)
          have hE : Jn.syncN d = (x1 : Int) - (x2 : Int) := by rw [hx1, hx2]; rfl
          have b1 : x1 ≤ 1048576 := by rw [hx1]; exact Jn.scan_small OK.out.1
          have b2 : x2 ≤ 1048576 := by rw [hx2]; exact safe_small OK.out.1
          rw [← hx1] at CA
          rw [← hx2] at CB
          have hwx : IntKind.i64.wrap ((x1 : Int) - (x2 : Int)) = (x1 : Int) - (x2 : Int) := IntWalk.i64_in _ (by omega)
          clear hx1 hx2
          obtain ⟨d', E, CR, CD⟩ : ∃ (d' : Dk.St) (E : Int), Hid (∀ W, Below w.heap.size w W → PJ J w5 X g4 q r d W → Calls Try.prog 19 #[.agg #[.int .i64 (d.room : Nat), .string (tA d), .string (tB d)]] W (QPost d' E W)) ∧
                Hid (∀ W, PJ J w5 X g4 q r d W → Calls Try.prog 20 #[.pointer (some ⟨q, 0, none⟩)] W (PJPost J w5 X g4 q r d' W (.int .i64 ((x1 : Int) - (x2 : Int))))) :=
              ⟨Dk.sync d, Dk.opens d, fun W hb hp => qSync OK.out.1 W, fun W hp => by have := jSync_p HJ.out W hp; rw [hE] at this; exact this⟩
          go_upto_region 18 with fail
          have PD := Lib.hid (PK.out.on HJ.out (Below.refl wk.heap.size wk).drew)
          have RD := Lib.hid (RK.out.on (Below.refl wk.heap.size wk).drew)
          have SD := Lib.hid (blk_on SK.out (Below.refl wk.heap.size wk).drew)
          clear c0 c1 c2' y1 y2 y3 PK RK SK
          refine wp_region_held_drew (S := fun W => RefAt W g4 d) (by kernel_rfl) RD.out (fun hS => ?_)
          refine tkYes 0 (v := ?_) rfl (by kernel_rfl) (fun _ _ _ h => h) rfl ?_ hS ?_
          rotate_left
          · intro W hW; obtain ⟨q0, q1, q2, _⟩ := RefAt.facts (show RefAt W g4 d from hW); go_simp; (try with_reducible rfl)
          simp only [Act.put, List.setIfInBounds_toArray, List.set_cons_zero, List.set_cons_succ]
          refine tkYes 3 (v := ?_) rfl (by kernel_rfl) (fun _ _ _ h => h) rfl ?_ hS ?_
          rotate_left
          · intro W hW; obtain ⟨q0, q1, q2, _⟩ := RefAt.facts (show RefAt W g4 d from hW); go_simp; (try with_reducible rfl)
          simp only [Act.put, List.setIfInBounds_toArray, List.set_cons_zero, List.set_cons_succ]
          refine rnOne 1 rfl (by kernel_rfl) rfl (fun K hK => ?_)
          go_simp
          (with_reducible refine (CA.out _).mono ?_)
          rintro e w6 ⟨A6, c6, rfl, _, hb6⟩
          replace RD := Lib.hid (RD.out.on hb6)
          replace PD := Lib.hid (PD.out.on HJ.out hb6)
          replace SD := Lib.hid (blk_on SD.out hb6)
          clear hS hb6
          have hS := RD.out
          refine hK.out _ _ hS (fun _ => ?_)
          clear hK K
          try simp only [Act.put, List.setIfInBounds_toArray, List.set_cons_zero, List.set_cons_succ]
          refine tkYes 2 (v := ?_) rfl (by kernel_rfl) (fun _ _ _ h => h) rfl ?_ hS ?_
          rotate_left
          · intro W hW; go_simp; (try with_reducible rfl)
          simp only [Act.put, List.setIfInBounds_toArray, List.set_cons_zero, List.set_cons_succ]
          refine rnOne 4 rfl (by kernel_rfl) rfl (fun K hK => ?_)
          go_simp
          (with_reducible refine (CB.out _).mono ?_)
          rintro e w7 ⟨rfl, hb7⟩
          replace RD := Lib.hid (RD.out.on hb7)
          replace PD := Lib.hid (PD.out.on HJ.out hb7)
          replace SD := Lib.hid (blk_on SD.out hb7)
          clear hS hb7
          have hS := RD.out
          refine hK.out _ _ hS (fun _ => ?_)
          clear hK K
          try simp only [Act.put, List.setIfInBounds_toArray, List.set_cons_zero, List.set_cons_succ]
          refine tkYes 5 (v := ?_) rfl (by kernel_rfl) (fun _ _ _ h => h) rfl ?_ hS ?_
          rotate_left
          · intro W hW; go_simp; (try with_reducible rfl)
          simp only [Act.put, List.setIfInBounds_toArray, List.set_cons_zero, List.set_cons_succ]
          refine tkYes 6 (v := ?_) rfl (by kernel_rfl) (fun _ _ _ h => h) rfl ?_ hS ?_
          rotate_left
          · intro W hW; go_simp; (try with_reducible rfl)
          simp only [Act.put, List.setIfInBounds_toArray, List.set_cons_zero, List.set_cons_succ]
          refine wpAnyH_done (by kernel_rfl) ?_ _
          obtain ⟨c0, c1, c2', _, _, _⟩ := RD.out.facts
          obtain ⟨_, y1, y2, y3⟩ := j_facts0 SD.out
          go_wp2_with (first
            | ((with_reducible refine (CR.out _ (P0.out.now PD.out) PD.out).mono ?_); rintro e wR ⟨rfl, hbR⟩; have PN := Lib.hid ((PD.out.on HJ.out hbR).on HJ.out (alloc_below wR (.cells #[.int .i64 (d'.room : Nat), .string (tA d'), .string (tB d')] 30))); have RN := Lib.hid ((RD.out.on hbR).on (alloc_below wR (.cells #[.int .i64 (d'.room : Nat), .string (tA d'), .string (tB d')] 30))); have SN := Lib.hid (blk_on (blk_on SD.out hbR) (alloc_below wR (.cells #[.int .i64 (d'.room : Nat), .string (tA d'), .string (tB d')] 30))); have P15 := Lib.hid (PN.out.other HJ.out (put_grown _ g4 (.int .i64 (d'.room : Nat)) (.string (tA d')) (.string (tB d'))) GX2.out); have R15 := Lib.hid (RN.out.put d'); have S15 := Lib.hid (blk_other SN.out (put_grown _ g4 (.int .i64 (d'.room : Nat)) (.string (tA d')) (.string (tB d'))) GSN.out); obtain ⟨n0, n1, n2', n3', n4, n5⟩ := RN.out.facts; obtain ⟨_, z1, z2, z3⟩ := j_facts0 S15.out; clear hbR)
            | ((with_reducible refine (CD.out _ P15.out).mono ?_); rintro e w16 ⟨rfl, hp16, hk16⟩; have P16 := Lib.hid hp16; have R16 := Lib.hid (ref_kept R15.out hk16 GX2.out); clear hp16 hk16))
          go_meet
          case rel => exact ⟨rfl, _, P16.out, R16.out⟩
        · obtain ⟨d', E, CR, CD⟩ : ∃ (d' : Dk.St) (E : Int), Hid (∀ W, Below w.heap.size w W → PJ J w5 X g4 q r d W → Calls Try.prog 21 #[.agg #[.int .i64 (d.room : Nat), .string (tA d), .string (tB d)], .int .i64 t.2.1] W (QPost d' E W)) ∧
                Hid (∀ W, PJ J w5 X g4 q r d W → Calls Try.prog 22 #[.pointer (some ⟨q, 0, none⟩), .int .i64 t.2.1] W (PJPost J w5 X g4 q r d' W (.int .i64 E))) :=
              ⟨Jn.crash d t.2.1, Jn.lost d t.2.1, fun W hb hp => jqCrash OK.out.1 OK.out.2 t.2.1 W, fun W hp => jCrash_p HJ.out W hp K2.out⟩
          go_wp2_with (first
            | ((with_reducible refine (CR.out _ (P0.out.now PK.out) PK.out).mono ?_); rintro e wR ⟨rfl, hbR⟩; have PN := Lib.hid ((PK.out.on HJ.out hbR).on HJ.out (alloc_below wR (.cells #[.int .i64 (d'.room : Nat), .string (tA d'), .string (tB d')] 30))); have RN := Lib.hid ((RK.out.on hbR).on (alloc_below wR (.cells #[.int .i64 (d'.room : Nat), .string (tA d'), .string (tB d')] 30))); have SN := Lib.hid (blk_on (blk_on SK.out hbR) (alloc_below wR (.cells #[.int .i64 (d'.room : Nat), .string (tA d'), .string (tB d')] 30))); have P15 := Lib.hid (PN.out.other HJ.out (put_grown _ g4 (.int .i64 (d'.room : Nat)) (.string (tA d')) (.string (tB d'))) GX2.out); have R15 := Lib.hid (RN.out.put d'); have S15 := Lib.hid (blk_other SN.out (put_grown _ g4 (.int .i64 (d'.room : Nat)) (.string (tA d')) (.string (tB d'))) GSN.out); obtain ⟨n0, n1, n2', n3', n4, n5⟩ := RN.out.facts; obtain ⟨_, z1, z2, z3⟩ := j_facts0 S15.out; clear hbR)
            | ((with_reducible refine (CD.out _ P15.out).mono ?_); rintro e w16 ⟨rfl, hp16, hk16⟩; have P16 := Lib.hid hp16; have R16 := Lib.hid (ref_kept R15.out hk16 GX2.out); clear hp16 hk16))
          go_meet
          case rel => exact ⟨rfl, _, P16.out, R16.out⟩
        · obtain ⟨d', E, CR, CD⟩ : ∃ (d' : Dk.St) (E : Int), Hid (∀ W, Below w.heap.size w W → PJ J w5 X g4 q r d W → Calls Try.prog 23 #[.agg #[.int .i64 (d.room : Nat), .string (tA d), .string (tB d)], .slice A2 n2 c2, .int .i64 t.2.1] W (QPost d' E W)) ∧
                Hid (∀ W, PJ J w5 X g4 q r d W → Calls Try.prog 24 #[.pointer (some ⟨q, 0, none⟩), .slice A2 n2 c2, .int .i64 t.2.1] W (PJPost J w5 X g4 q r d' W (.int .i64 E))) :=
              ⟨Jn.torn d t.2.2.1 t.2.1, Jn.tornE d t.2.2.1, fun W hb hp => jqTorn OK.out.1 OK.out.2 n2 c2 A2 t.2.2.1 t.2.1 W (HS.out.on hb) N2.out, fun W hp => jTorn_p HJ.out W hp (HS.out.on (P0.out.now hp)) N2.out K2.out⟩
          go_wp2_with (first
            | ((with_reducible refine (CR.out _ (P0.out.now PK.out) PK.out).mono ?_); rintro e wR ⟨rfl, hbR⟩; have PN := Lib.hid ((PK.out.on HJ.out hbR).on HJ.out (alloc_below wR (.cells #[.int .i64 (d'.room : Nat), .string (tA d'), .string (tB d')] 30))); have RN := Lib.hid ((RK.out.on hbR).on (alloc_below wR (.cells #[.int .i64 (d'.room : Nat), .string (tA d'), .string (tB d')] 30))); have SN := Lib.hid (blk_on (blk_on SK.out hbR) (alloc_below wR (.cells #[.int .i64 (d'.room : Nat), .string (tA d'), .string (tB d')] 30))); have P15 := Lib.hid (PN.out.other HJ.out (put_grown _ g4 (.int .i64 (d'.room : Nat)) (.string (tA d')) (.string (tB d'))) GX2.out); have R15 := Lib.hid (RN.out.put d'); have S15 := Lib.hid (blk_other SN.out (put_grown _ g4 (.int .i64 (d'.room : Nat)) (.string (tA d')) (.string (tB d'))) GSN.out); obtain ⟨n0, n1, n2', n3', n4, n5⟩ := RN.out.facts; obtain ⟨_, z1, z2, z3⟩ := j_facts0 S15.out; clear hbR)
            | ((with_reducible refine (CD.out _ P15.out).mono ?_); rintro e w16 ⟨rfl, hp16, hk16⟩; have P16 := Lib.hid hp16; have R16 := Lib.hid (ref_kept R15.out hk16 GX2.out); clear hp16 hk16))
          go_meet
          case rel => exact ⟨rfl, _, P16.out, R16.out⟩
        · by_cases hod : t.2.1.tmod 2 = 0
          · have heven : (t.2.1.tmod 2 != 0) = false := by rw [hod]; rfl
            go_wp2_with fail
            go_meet
            case rel => exact ⟨rfl, _, PK.out, RK.out⟩
          · have L5 := Lib.hid (E40.out j t HT.out)
            have hl1 : Hid (t.2.2.2.length ≤ 1000) := Nat.le_trans L5.out.2.1 (by omega)
            have hl2 : Hid (∀ p ∈ t.2.2.2, p.length ≤ 900000000) := fun p hp => Nat.le_trans (L5.out.2.2 p hp) (by omega)
            obtain ⟨d', E, CR, CD⟩ : ∃ (d' : Dk.St) (E : Int), Hid (∀ W, Below w.heap.size w W → PJ J w5 X g4 q r d W → Calls Try.prog 25 #[.agg #[.int .i64 (d.room : Nat), .string (tA d), .string (tB d)], .slice A3 n3 c3] W (QPost d' E W)) ∧
                  Hid (∀ W, PJ J w5 X g4 q r d W → Calls Try.prog 26 #[.pointer (some ⟨q, 0, none⟩), .slice A3 n3 c3] W (PJPost J w5 X g4 q r d' W (.int .i64 E))) :=
                ⟨Jn.swap d t.2.2.2, Jn.swapE d t.2.2.2, fun W hb hp => jqSwap n3 c3 A3 t.2.2.2 W (HW.out W d hp) hl1.out hl2.out, fun W hp => jSwap_p HJ.out W hp (HW.out W d hp) hl1.out hl2.out⟩
            have hodd : (t.2.1.tmod 2 != 0) = true := by rw [bne_iff_ne]; exact hod
            go_wp2_with (first
              | ((with_reducible refine (CR.out _ (P0.out.now PK.out) PK.out).mono ?_); rintro e wR ⟨rfl, hbR⟩; have PN := Lib.hid ((PK.out.on HJ.out hbR).on HJ.out (alloc_below wR (.cells #[.int .i64 (d'.room : Nat), .string (tA d'), .string (tB d')] 30))); have RN := Lib.hid ((RK.out.on hbR).on (alloc_below wR (.cells #[.int .i64 (d'.room : Nat), .string (tA d'), .string (tB d')] 30))); have SN := Lib.hid (blk_on (blk_on SK.out hbR) (alloc_below wR (.cells #[.int .i64 (d'.room : Nat), .string (tA d'), .string (tB d')] 30))); have P15 := Lib.hid (PN.out.other HJ.out (put_grown _ g4 (.int .i64 (d'.room : Nat)) (.string (tA d')) (.string (tB d'))) GX2.out); have R15 := Lib.hid (RN.out.put d'); have S15 := Lib.hid (blk_other SN.out (put_grown _ g4 (.int .i64 (d'.room : Nat)) (.string (tA d')) (.string (tB d'))) GSN.out); obtain ⟨n0, n1, n2', n3', n4, n5⟩ := RN.out.facts; obtain ⟨_, z1, z2, z3⟩ := j_facts0 S15.out; clear hbR)
              | ((with_reducible refine (CD.out _ P15.out).mono ?_); rintro e w16 ⟨rfl, hp16, hk16⟩; have P16 := Lib.hid hp16; have R16 := Lib.hid (ref_kept R15.out hk16 GX2.out); clear hp16 hk16))
            go_meet
            case rel => exact ⟨rfl, _, P16.out, R16.out⟩
      case rest =>
        clear PK RK SK
        obtain ⟨rfl, d', hp', hr'⟩ := hcut
        have OK := HJ.out.okay _ _ _ _ _ hp'.jr
        obtain ⟨x1, hx1⟩ : ∃ x1, x1 = (Jn.ents d').length := ⟨_, rfl⟩
        obtain ⟨x2, hx2⟩ : ∃ x2, x2 = Jn.safeN d' := ⟨_, rfl⟩
        have b1 : x1 ≤ 1048576 := by rw [hx1]; exact Jn.scan_small OK.1
        have b2 : x2 ≤ 1048576 := by rw [hx2]; exact safe_small OK.1
        obtain ⟨L, hL⟩ : ∃ L, L = d'.l.length := ⟨_, rfl⟩
        obtain ⟨s, hs⟩ : ∃ s, s = d'.safe := ⟨_, rfl⟩
        obtain ⟨o, ho⟩ : ∃ o, o = Dk.opens d' := ⟨_, rfl⟩
        obtain ⟨x, hx⟩ : ∃ x, x = d'.room - d'.l.length := ⟨_, rfl⟩
        obtain ⟨R, hR⟩ : ∃ R, R = d'.room := ⟨_, rfl⟩
        have hz1 : (tA d').size = s := by rw [hs]; exact tA_size OK.1
        have hz2 : (tB d').size = o := by rw [ho]; exact tB_size d'
        have k1 := OK.1.1
        have k2 := OK.1.2.1
        have k3 := OK.1.2.2
        have k4 : Dk.opens d' = d'.l.length - d'.safe := rfl
        have hxi : (R : Int) - (s : Int) - (o : Int) = (x : Int) := by omega
        have hx20 : x ≤ 1048576 := by omega
        have hr20 : R ≤ 1048576 := by omega
        have hs20 : s ≤ 1048576 := by omega
        have hw1 : IntKind.i64.wrap ((R : Int) - (s : Int)) = (R : Int) - (s : Int) := IntWalk.i64_in _ (by omega)
        have hw2 : IntKind.i64.wrap ((R : Int) - (s : Int) - (o : Int)) = (x : Int) := by rw [hxi]; exact IntWalk.i64_in _ (by omega)
        have CA := Lib.hid (fun W => jqAll OK.1 OK.2 W)
        have CB := Lib.hid (fun W => jqSafe OK.1 OK.2 W)
        have C1 := Lib.hid (fun W (h : PJ J w5 X g4 q r d' W) => HJ.out.all W X q r d' h.jr)
        have C2 := Lib.hid (fun W (h : PJ J w5 X g4 q r d' W) => HJ.out.len W X q r d' h.jr)
        have C3 := Lib.hid (fun W (h : PJ J w5 X g4 q r d' W) => HJ.out.safe W X q r d' h.jr)
        have C4 := Lib.hid (fun W (h : PJ J w5 X g4 q r d' W) => HJ.out.room W X q r d' h.jr)
        unfold JAll at C1
        obtain ⟨ls, hls⟩ : ∃ ls, ls = Jn.ents d' := ⟨_, rfl⟩
        rw [← hls] at C1 CA C2 hx1
        rw [← hx1] at C1 CA C2
        rw [← hx2] at C3 CB
        rw [← hR] at CB
        rw [← hx] at C4
        obtain ⟨f0, f1, f2, _, _, _⟩ := hr'.facts
        have PN := Lib.hid hp'
        have RN := Lib.hid hr'
        have RR := Lib.hid hR
        have HX1 := Lib.hid hx1
        clear OK hL hs ho hx hR k1 k2 k3 k4 hp' hr' hxi hls hx1 hx2
        go_wp2_with fail
        (with_reducible refine (CA.out _).mono ?_)
        rintro e wl ⟨A6, c6, rfl, ho6, hb6⟩
        have RD := Lib.hid ((RN.out.on hb6).on (Below.refl wl.heap.size wl).drew)
        have PD := Lib.hid ((PN.out.on HJ.out hb6).on HJ.out (Below.refl wl.heap.size wl).drew)
        have OD := Lib.hid (ho6.below (Below.refl wl.heap.size wl).drew)
        clear ho6 hb6 RN PN f0 f1 f2
        go_upto_region 36 with fail
        refine wp_region_held_drew (S := JRef g4 R (tA d') (tB d')) (by kernel_rfl) (jref_of RD.out RR.out) (fun hS => ?_)
        refine tkYes 0 (v := ?_) rfl (by kernel_rfl) (fun _ _ _ h => h) rfl ?_ hS ?_
        rotate_left
        · intro W hW; go_simp; (try with_reducible rfl)
        simp only [Act.put, List.setIfInBounds_toArray, List.set_cons_zero, List.set_cons_succ]
        refine tkYes 1 (v := ?_) rfl (by kernel_rfl) (fun _ _ _ h => h) rfl ?_ hS ?_
        rotate_left
        · intro W hW; go_simp; (try with_reducible rfl)
        simp only [Act.put, List.setIfInBounds_toArray, List.set_cons_zero, List.set_cons_succ]
        refine tkYes 2 (v := ?_) rfl (by kernel_rfl) (fun _ _ _ h => h) rfl ?_ hS ?_
        rotate_left
        · intro W hW; go_simp; (try with_reducible rfl)
        simp only [Act.put, List.setIfInBounds_toArray, List.set_cons_zero, List.set_cons_succ]
        refine tkYes 3 (v := ?_) rfl (by kernel_rfl) (fun _ _ _ h => h) rfl ?_ hS ?_
        rotate_left
        · intro W hW; go_simp; (try with_reducible rfl)
        simp only [Act.put, List.setIfInBounds_toArray, List.set_cons_zero, List.set_cons_succ]
        refine tkYes 5 (v := ?_) rfl (by kernel_rfl) (fun _ _ _ h => h) rfl ?_ hS ?_
        rotate_left
        · intro W hW; go_simp; (try with_reducible rfl)
        simp only [Act.put, List.setIfInBounds_toArray, List.set_cons_zero, List.set_cons_succ]
        refine rnOne 4 rfl (by kernel_rfl) rfl (fun K hK => ?_)
        go_simp
        (with_reducible refine (C1.out _ PD.out).mono ?_)
        rintro e w7 ⟨A7, c7, rfl, ho7, hbX⟩
        have O7 := Lib.hid (sls_own HX1.out ho7)
        have O6 := Lib.hid (sls_own HX1.out (OD.out.below hbX))
        clear ho7 OD
        replace RD := Lib.hid (RD.out.on hbX)
        replace PD := Lib.hid (PD.out.on HJ.out hbX)
        clear hS hbX
        have hS := jref_of RD.out RR.out
        refine hK.out _ _ hS (fun _ => ?_)
        clear hK K
        try simp only [Act.put, List.setIfInBounds_toArray, List.set_cons_zero, List.set_cons_succ]
        refine rnOne 6 rfl (by kernel_rfl) rfl (fun K hK => ?_)
        go_simp
        (with_reducible refine (frSame_any x1 c7 c6 A7 A6 ls _ O7.out O6.out (by omega)).mono ?_)
        rintro e w8 ⟨rfl, dd, rfl⟩
        have hbX := Below.drewN (Below.refl w7.heap.size w7) dd
        replace RD := Lib.hid (RD.out.on hbX)
        replace PD := Lib.hid (PD.out.on HJ.out hbX)
        clear hS hbX
        have hS := jref_of RD.out RR.out
        refine hK.out _ _ hS (fun _ => ?_)
        clear hK K
        try simp only [Act.put, List.setIfInBounds_toArray, List.set_cons_zero, List.set_cons_succ]
        refine tkYes 7 (v := ?_) rfl (by kernel_rfl) (fun _ _ _ h => h) rfl ?_ hS ?_
        rotate_left
        · intro W hW; go_simp; (try with_reducible rfl)
        simp only [Act.put, List.setIfInBounds_toArray, List.set_cons_zero, List.set_cons_succ]
        refine tkYes 8 (v := ?_) rfl (by kernel_rfl) (fun _ _ _ h => h) rfl ?_ hS ?_
        rotate_left
        · intro W hW; go_simp; (try with_reducible rfl)
        simp only [Act.put, List.setIfInBounds_toArray, List.set_cons_zero, List.set_cons_succ]
        refine tkYes 9 (v := ?_) rfl (by kernel_rfl) (fun _ _ _ h => h) rfl ?_ hS ?_
        rotate_left
        · intro W hW; go_simp; (try with_reducible rfl)
        simp only [Act.put, List.setIfInBounds_toArray, List.set_cons_zero, List.set_cons_succ]
        refine tkYes 10 (v := ?_) rfl (by kernel_rfl) (fun _ _ _ h => h) rfl ?_ hS ?_
        rotate_left
        · intro W hW; go_simp; (try with_reducible rfl)
        simp only [Act.put, List.setIfInBounds_toArray, List.set_cons_zero, List.set_cons_succ]
        refine tkYes 12 (v := ?_) rfl (by kernel_rfl) (fun _ _ _ h => h) rfl ?_ hS ?_
        rotate_left
        · intro W hW; go_simp; (try with_reducible rfl)
        simp only [Act.put, List.setIfInBounds_toArray, List.set_cons_zero, List.set_cons_succ]
        refine tkYes 13 (v := ?_) rfl (by kernel_rfl) (fun _ _ _ h => h) rfl ?_ hS ?_
        rotate_left
        · intro W hW; go_simp; (try with_reducible rfl)
        simp only [Act.put, List.setIfInBounds_toArray, List.set_cons_zero, List.set_cons_succ]
        refine rnOne 11 rfl (by kernel_rfl) rfl (fun K hK => ?_)
        go_simp
        (with_reducible refine (C2.out _ PD.out).mono ?_)
        rintro e w9 ⟨rfl, hbX⟩
        replace RD := Lib.hid (RD.out.on hbX)
        replace PD := Lib.hid (PD.out.on HJ.out hbX)
        clear hS hbX
        have hS := jref_of RD.out RR.out
        refine hK.out _ _ hS (fun _ => ?_)
        clear hK K
        try simp only [Act.put, List.setIfInBounds_toArray, List.set_cons_zero, List.set_cons_succ]
        refine tkYes 14 (v := ?_) rfl (by kernel_rfl) (fun _ _ _ h => h) rfl ?_ hS ?_
        rotate_left
        · intro W hW; go_simp; (try with_reducible rfl)
        simp only [Act.put, List.setIfInBounds_toArray, List.set_cons_zero, List.set_cons_succ]
        refine tkYes 15 (v := ?_) rfl (by kernel_rfl) (fun _ _ _ h => h) rfl ?_ hS ?_
        rotate_left
        · intro W hW; go_simp; (try with_reducible rfl)
        simp only [Act.put, List.setIfInBounds_toArray, List.set_cons_zero, List.set_cons_succ]
        refine tkYes 16 (v := ?_) rfl (by kernel_rfl) (fun _ _ _ h => h) rfl ?_ hS ?_
        rotate_left
        · intro W hW; go_simp; (try with_reducible rfl)
        simp only [Act.put, List.setIfInBounds_toArray, List.set_cons_zero, List.set_cons_succ]
        refine tkYes 17 (v := ?_) rfl (by kernel_rfl) (fun _ _ _ h => h) rfl ?_ hS ?_
        rotate_left
        · intro W hW; go_simp; (try with_reducible rfl)
        simp only [Act.put, List.setIfInBounds_toArray, List.set_cons_zero, List.set_cons_succ]
        refine tkYes 19 (v := ?_) rfl (by kernel_rfl) (fun _ _ _ h => h) rfl ?_ hS ?_
        rotate_left
        · intro W hW; have hW0 : W.cell? ⟨g4, 0, none⟩ = some (.int .i64 (R : Nat)) := hW.1; have hW1 : W.cell? ⟨g4, 1, none⟩ = some (.string (tA d')) := hW.2.1; have hW2 : W.cell? ⟨g4, 2, none⟩ = some (.string (tB d')) := hW.2.2; go_simp; (try with_reducible rfl)
        simp only [Act.put, List.setIfInBounds_toArray, List.set_cons_zero, List.set_cons_succ]
        refine rnOne 18 rfl (by kernel_rfl) rfl (fun K hK => ?_)
        go_simp
        (with_reducible refine (C3.out _ PD.out).mono ?_)
        rintro e w10 ⟨rfl, hbX⟩
        replace RD := Lib.hid (RD.out.on hbX)
        replace PD := Lib.hid (PD.out.on HJ.out hbX)
        clear hS hbX
        have hS := jref_of RD.out RR.out
        refine hK.out _ _ hS (fun _ => ?_)
        clear hK K
        try simp only [Act.put, List.setIfInBounds_toArray, List.set_cons_zero, List.set_cons_succ]
        refine rnOne 20 rfl (by kernel_rfl) rfl (fun K hK => ?_)
        go_simp
        (with_reducible refine (CB.out _).mono ?_)
        rintro e w11 ⟨rfl, hbX⟩
        replace RD := Lib.hid (RD.out.on hbX)
        replace PD := Lib.hid (PD.out.on HJ.out hbX)
        clear hS hbX
        have hS := jref_of RD.out RR.out
        refine hK.out _ _ hS (fun _ => ?_)
        clear hK K
        try simp only [Act.put, List.setIfInBounds_toArray, List.set_cons_zero, List.set_cons_succ]
        refine tkYes 21 (v := ?_) rfl (by kernel_rfl) (fun _ _ _ h => h) rfl ?_ hS ?_
        rotate_left
        · intro W hW; go_simp; (try with_reducible rfl)
        simp only [Act.put, List.setIfInBounds_toArray, List.set_cons_zero, List.set_cons_succ]
        refine tkYes 22 (v := ?_) rfl (by kernel_rfl) (fun _ _ _ h => h) rfl ?_ hS ?_
        rotate_left
        · intro W hW; go_simp; (try with_reducible rfl)
        simp only [Act.put, List.setIfInBounds_toArray, List.set_cons_zero, List.set_cons_succ]
        refine tkYes 23 (v := ?_) rfl (by kernel_rfl) (fun _ _ _ h => h) rfl ?_ hS ?_
        rotate_left
        · intro W hW; go_simp; (try with_reducible rfl)
        simp only [Act.put, List.setIfInBounds_toArray, List.set_cons_zero, List.set_cons_succ]
        refine tkYes 24 (v := ?_) rfl (by kernel_rfl) (fun _ _ _ h => h) rfl ?_ hS ?_
        rotate_left
        · intro W hW; go_simp; (try with_reducible rfl)
        simp only [Act.put, List.setIfInBounds_toArray, List.set_cons_zero, List.set_cons_succ]
        refine tkYes 26 (v := ?_) rfl (by kernel_rfl) (fun _ _ _ h => h) rfl ?_ hS ?_
        rotate_left
        · intro W hW; go_simp; (try with_reducible rfl)
        simp only [Act.put, List.setIfInBounds_toArray, List.set_cons_zero, List.set_cons_succ]
        refine tkYes 27 (v := ?_) rfl (by kernel_rfl) (fun _ _ _ h => h) rfl ?_ hS ?_
        rotate_left
        · intro W hW; have hW0 : W.cell? ⟨g4, 0, none⟩ = some (.int .i64 (R : Nat)) := hW.1; have hW1 : W.cell? ⟨g4, 1, none⟩ = some (.string (tA d')) := hW.2.1; have hW2 : W.cell? ⟨g4, 2, none⟩ = some (.string (tB d')) := hW.2.2; go_simp; (try with_reducible rfl)
        simp only [Act.put, List.setIfInBounds_toArray, List.set_cons_zero, List.set_cons_succ]
        refine tkYes 28 (v := ?_) rfl (by kernel_rfl) (fun _ _ _ h => h) rfl ?_ hS ?_
        rotate_left
        · intro W hW; go_simp; (try with_reducible rfl)
        simp only [Act.put, List.setIfInBounds_toArray, List.set_cons_zero, List.set_cons_succ]
        refine tkYes 29 (v := ?_) rfl (by kernel_rfl) (fun _ _ _ h => h) rfl ?_ hS ?_
        rotate_left
        · intro W hW; have hW0 : W.cell? ⟨g4, 0, none⟩ = some (.int .i64 (R : Nat)) := hW.1; have hW1 : W.cell? ⟨g4, 1, none⟩ = some (.string (tA d')) := hW.2.1; have hW2 : W.cell? ⟨g4, 2, none⟩ = some (.string (tB d')) := hW.2.2; go_simp; (try with_reducible rfl)
        simp only [Act.put, List.setIfInBounds_toArray, List.set_cons_zero, List.set_cons_succ]
        refine tkYes 30 (v := ?_) rfl (by kernel_rfl) (fun _ _ _ h => h) rfl ?_ hS ?_
        rotate_left
        · intro W hW; go_simp; (try with_reducible rfl)
        simp only [Act.put, List.setIfInBounds_toArray, List.set_cons_zero, List.set_cons_succ]
        refine tkYes 31 (v := ?_) rfl (by kernel_rfl) (fun _ _ _ h => h) rfl ?_ hS ?_
        rotate_left
        · intro W hW; go_simp; (try with_reducible rfl)
        simp only [Act.put, List.setIfInBounds_toArray, List.set_cons_zero, List.set_cons_succ]
        refine tkYes 32 (v := ?_) rfl (by kernel_rfl) (fun _ _ _ h => h) rfl ?_ hS ?_
        rotate_left
        · intro W hW; go_simp; (try with_reducible rfl)
        simp only [Act.put, List.setIfInBounds_toArray, List.set_cons_zero, List.set_cons_succ]
        refine tkYes 33 (v := ?_) rfl (by kernel_rfl) (fun _ _ _ h => h) rfl ?_ hS ?_
        rotate_left
        · intro W hW; have hW0 : W.cell? ⟨g4, 0, none⟩ = some (.int .i64 (R : Nat)) := hW.1; have hW1 : W.cell? ⟨g4, 1, none⟩ = some (.string (tA d')) := hW.2.1; have hW2 : W.cell? ⟨g4, 2, none⟩ = some (.string (tB d')) := hW.2.2; go_simp; (try with_reducible rfl)
        simp only [Act.put, List.setIfInBounds_toArray, List.set_cons_zero, List.set_cons_succ]
        refine tkYes 34 (v := ?_) rfl (by kernel_rfl) (fun _ _ _ h => h) rfl ?_ hS ?_
        rotate_left
        · intro W hW; go_simp; (try with_reducible rfl)
        simp only [Act.put, List.setIfInBounds_toArray, List.set_cons_zero, List.set_cons_succ]
        refine tkYes 35 (v := ?_) rfl (by kernel_rfl) (fun _ _ _ h => h) rfl ?_ hS ?_
        rotate_left
        · intro W hW; go_simp; (try with_reducible rfl)
        simp only [Act.put, List.setIfInBounds_toArray, List.set_cons_zero, List.set_cons_succ]
        refine rnOne 25 rfl (by kernel_rfl) rfl (fun K hK => ?_)
        go_simp
        (with_reducible refine (C4.out _ PD.out).mono ?_)
        rintro e w12 ⟨rfl, hbX⟩
        replace RD := Lib.hid (RD.out.on hbX)
        replace PD := Lib.hid (PD.out.on HJ.out hbX)
        clear hS hbX
        have hS := jref_of RD.out RR.out
        refine hK.out _ _ hS (fun _ => ?_)
        clear hK K
        try simp only [Act.put, List.setIfInBounds_toArray, List.set_cons_zero, List.set_cons_succ]
        refine tkYes 36 (v := ?_) rfl (by kernel_rfl) (fun _ _ _ h => h) rfl ?_ hS ?_
        rotate_left
        · intro W hW; go_simp; (try with_reducible rfl)
        simp only [Act.put, List.setIfInBounds_toArray, List.set_cons_zero, List.set_cons_succ]
        refine tkYes 37 (v := ?_) rfl (by kernel_rfl) (fun _ _ _ h => h) rfl ?_ hS ?_
        rotate_left
        · intro W hW; go_simp; (try with_reducible rfl)
        simp only [Act.put, List.setIfInBounds_toArray, List.set_cons_zero, List.set_cons_succ]
        refine wpAnyH_done (by kernel_rfl) ?_ _
        go_wp2_with fail
        exact ⟨⟨j + 1, d', by omega, by go_num, PD.out, RD.out⟩, by simp [intOf]; omega⟩
    · obtain rfl : j = m := by omega
      go_wp2_with fail
      go_ret
      exact ⟨rfl, P0.out.now P.out⟩
end Go.Proofs.Ytdamnamhbjfnlaa
