/-
  The walk of the statement DiskOwns.
-/
import Derived.Test.YtoapdkncddhgiaaDskTwo
import Derived.Test.YtoapdkncddhgiaaTxt
import Derived.Deep.Cut
namespace Go.Proofs.Ytoapdkncddhgiaa
open Go.RowKit

/-- One byte of the call's own, and what it is behind a store. -/
theorem own_at {w : World} {B n c : Nat} {A : Option Addr} {S : List Nat} (h : OwnB w B (.slice A n c) S) (j : Nat) (hj : j < n) :
    ∃ g x, A = some ⟨g, 0, none⟩ ∧ B ≤ g ∧ g < w.heap.size ∧ x < 256 ∧ w.cell? ⟨g, j, none⟩ = some (.int .u8 ((x : Nat) : Int)) ∧ w.frozen? ⟨g, j, none⟩ = false ∧
      OwnB (w.setCell ⟨g, j, none⟩ (.int .u8 ((((x : Nat) : Int) + 1) % 256))) B (.slice A n c) (S.set j ((x + 1) % 256)) := by
  obtain rfl := h.sls.len
  obtain ⟨g, c', e⟩ := own_form h.1 (by omega)
  injection e with e1 e2 e3
  subst e1 e3
  have hc := h.1.cellAt j (show j < S.length * 1 by omega)
  rw [vals_at (by omega)] at hc
  refine ⟨g, S.getD j 0, rfl, h.from_ _ rfl, block_lt_of_cell hc, ?_, hc, h.1.frozenAt j, ?_⟩
  · exact h.sls.rd.byte j
  · have := h.put j ((S.getD j 0 + 1) % 256) (by omega)
    rw [show (((S.getD j 0 + 1) % 256 : Nat) : Int) = ((S.getD j 0 : Nat) + 1 : Int) % 256 from by omega] at this
    exact this

set_option maxRecDepth 100000 in
set_option maxHeartbeats 3200000 in
theorem downs_walk (n c : Nat) (A : Option Addr) (b : List Nat) (w : World) (hb : Sl w A n c b) :
    Calls Try.prog 6 #[.slice A n c] w fun e w' => e = .returned (.bool true) ∧ Below w.heap.size w w' := by
  obtain ⟨n2, hn2⟩ : ∃ x : Nat, x = min n 100 := ⟨_, rfl⟩
  have hni : min (n : Int) 100 = (n2 : Int) := by omega
  have hnc : n2 ≤ c := by have := hb.cap; omega
  have hnl : n2 ≤ 100 := by omega
  have HA0 := hb.take (k := n2) (by omega)
  generalize b.take n2 = la at HA0
  have HA := Lib.hid HA0
  have hla : n2 = la.length := HA0.len
  have LA := Lib.hid hla
  have HL : Hid (([] : List Nat).length + la.length ≤ 140737488355328) := by show _ ≤ _; simp; omega
  have S1 : Hid (Dk.write ⟨1000, 0, []⟩ la = ⟨1000, 0, la⟩) := by
    have g : Dk.goes ⟨1000, 0, []⟩ la := by simp [Dk.goes]; omega
    show _ = _
    unfold Dk.write; rw [if_pos g]; simp
  have S2 : Hid (Dk.swap ⟨1000, 0, []⟩ la = ⟨1000, la.length, la⟩) := by
    show _ = _
    unfold Dk.swap; rw [if_pos (by simp; omega)]
  clear HA0 hb hn2 hla
  go_enter Try.func6, Try.ntmps6
  go_wp2_with fail
  (with_reducible refine (dlives_at _ (Below.refl _ _)).mono ?_)
  rintro e w1 ⟨rfl, hb1⟩
  have B1 := Lib.hid hb1; clear hb1
  go_wp2_with (at_builtin; refine wpList_append_own_rd rfl (.tmp 12) (.tmp 17) rfl w1.heap.size _ [] rfl (OwnB.none_ _ _) n2 c A la rfl (HA.out.on B1.out) HL.out (Nat.le_refl _) ?_; intro v2 w2 hown2 hb2; rw [List.nil_append] at hown2; obtain ⟨A2, c2, rfl, _⟩ := hown2.sl; have O2 := Lib.hid hown2; have B2 := Lib.hid (B1.out.trans (hb2.mono B1.out.size)); have B12 := Lib.hid hb2; have hcv := conv_rd hown2.sls.rd rfl (c := c2); clear hown2 hb2)
  clear hcv
  (with_reducible refine (dNew_at w2 1000 (Below.refl _ _)).mono ?_)
  rw [safe_one]
  rintro e w3 ⟨r, rfl, hr, hd3, hb3, _⟩
  have D3 := Lib.hid hd3
  have B3 := Lib.hid hb3
  clear hd3 hb3 hr
  go_wp2_with fail
  (with_reducible refine (dWrite_at w3 B3.out D3.out (O2.out.below B3.out).sls).mono ?_)
  rw [S1.out]
  rintro e w4 ⟨rfl, hd4, hb4⟩
  have D4 := Lib.hid hd4
  have B4 := Lib.hid hb4
  clear hd4 hb4
  go_wp2_with fail
  (with_reducible refine (dNew_at w4 1000 (Below.refl _ _)).mono ?_)
  rw [safe_one]
  rintro e w5 ⟨q, rfl, hq, he5, hb5, _⟩
  have E5 := Lib.hid he5
  have B5 := Lib.hid hb5
  clear he5 hb5 hq
  go_wp2_with fail
  (with_reducible refine (dSwap_at w5 B5.out E5.out (O2.out.below (B4.out.trans (B5.out.mono B4.out.size))).sls).mono ?_)
  rw [S2.out]
  rintro e w6 ⟨rfl, he6, hb6⟩
  have D6 := Lib.hid (D4.out.below hb6)
  have E6 := Lib.hid (he6.lower B4.out.size)
  have B6 := Lib.hid (B4.out.trans (hb6.mono B4.out.size))
  clear he6 hb6
  have O6 := Lib.hid (O2.out.below B6.out)
  have BW6 := Lib.hid (B2.out.trans (B6.out.mono B2.out.size))
  obtain ⟨m, hm⟩ : ∃ m, m = la.length := ⟨_, rfl⟩
  rw [← hm] at O6 ⊢
  have M := Lib.hid hm
  have FA : Hid (∀ g, A2 = some ⟨g, 0, none⟩ → 0 < m → g < w2.heap.size) := by
    show ∀ g, _
    intro g hg h0
    exact O2.out.sls.block (by omega) _ hg
  have hm100 : m ≤ 100 := by have := LA.out; omega
  clear hm O2
  go_wp2_with fail
  go_loopw [7] (fun i wr => ∃ (j : Nat) (S : List Nat), j ≤ m ∧ i = .int .i64 j ∧ OwnB wr w1.heap.size (.slice A2 m c2) S ∧ DskB wr w2.heap.size r ⟨1000, 0, la⟩ ∧ DskB wr w2.heap.size q ⟨1000, la.length, la⟩ ∧ Below w.heap.size w wr) (fun i _ => m - (intOf i).toNat)
  case atStart => exact ⟨0, la, by omega, rfl, O6.out, D6.out, E6.out, BW6.out⟩
  case round =>
    obtain ⟨j, S, hj, rfl, ho, hd, he, hbw⟩ := hrel
    have O := Lib.hid ho
    have D := Lib.hid hd
    have E := Lib.hid he
    have BW := Lib.hid hbw
    clear O6 D6 E6 B6 BW6 ho hd he hbw
    by_cases hlt : j < m
    · obtain ⟨g, x, rfl, hg1, hg2, hx, hc, hf, hown⟩ := own_at O.out j hlt
      have OO := Lib.hid hown
      have GG := Lib.hid (FA.out g rfl (by omega))
      have G1 := Lib.hid hg1
      clear hown hg1 hg2
      go_wp2_with fail
      exact ⟨⟨j + 1, _, by omega, by go_num, OO.out, D.out.keep fun i hi _ => heap_set_other _ _ _ _ _ (by have := GG.out; omega), E.out.keep fun i hi _ => heap_set_other _ _ _ _ _ (by have := GG.out; omega),
        BW.out.setCell (Nat.le_trans B1.out.size G1.out) _⟩, by simp [intOf]; omega⟩
    · obtain rfl : j = m := by omega
      clear hlt hj O FA
      go_wp2_with fail
      (with_reducible refine (dAll_at _ D.out).mono ?_)
      rintro e w7 ⟨A7, c7, rfl, ho7, hb7⟩
      have O7 := Lib.hid ho7
      have B7 := Lib.hid hb7
      clear ho7 hb7 M hm100
      obtain ⟨k, hk⟩ : ∃ k, k = la.length := ⟨_, rfl⟩
      simp only at O7 ⊢
      rw [← hk] at O7 ⊢
      have hk100 : k ≤ 100 := by have := LA.out; omega
      clear hk
      go_wp2_with fail
      obtain ⟨W, hW⟩ : ∃ W, W = wr := ⟨_, rfl⟩
      rw [← hW] at O7 B7 D E BW
      clear hW
      go_loopw [9] (fun i wr => ∃ (p : Nat) (S : List Nat), p ≤ k ∧ i = .int .i64 p ∧ OwnB wr W.heap.size (.slice A7 k c7) S ∧ Below W.heap.size W wr) (fun i _ => k - (intOf i).toNat)
      case atStart => exact ⟨0, la, by omega, rfl, O7.out, B7.out⟩
      case round =>
        obtain ⟨p, S2, hp, rfl, ho, hb⟩ := hrel
        have O := Lib.hid ho
        have B := Lib.hid hb
        clear O7 B7 ho hb
        by_cases hlt : p < k
        · obtain ⟨g, x, rfl, hg1, hg2, hx, hc, hf, hown⟩ := own_at O.out p hlt
          have OO := Lib.hid hown
          have G1 := Lib.hid hg1
          clear hown hg1 hg2
          go_wp2_with fail
          exact ⟨⟨p + 1, _, by omega, by go_num, OO.out, B.out.setCell G1.out _⟩, by simp [intOf]; omega⟩
        · obtain rfl : p = k := by omega
          clear hlt hp O
          have D9 := Lib.hid (D.out.below B.out)
          have E9 := Lib.hid (E.out.below B.out)
          have B9 := Lib.hid (BW.out.trans (B.out.mono BW.out.size))
          clear D E B BW
          go_wp2_with fail
          (with_reducible refine (dAll_at _ D9.out).mono ?_)
          rintro e wa ⟨Aa, ca, rfl, hoa, hba⟩
          have Ea := Lib.hid (E9.out.below hba)
          have Ba := Lib.hid (B9.out.trans (hba.mono B9.out.size))
          have hca := conv_rd (c := ca) hoa.sls.rd rfl
          clear hoa hba
          simp only at hca ⊢
          have tt := txt_same la
          go_wp2_with fail
          clear hca
          (with_reducible refine (dAll_at _ Ea.out).mono ?_)
          rintro e wb ⟨Ab, cb, rfl, hob, hbb⟩
          have Bb := Lib.hid (Ba.out.trans (hbb.mono Ba.out.size))
          have hcb := conv_rd (c := cb) hob.sls.rd rfl
          clear hob hbb
          simp only at hcb ⊢
          go_wp2_with fail
          go_ret
          exact ⟨rfl, Bb.out⟩
end Go.Proofs.Ytoapdkncddhgiaa
