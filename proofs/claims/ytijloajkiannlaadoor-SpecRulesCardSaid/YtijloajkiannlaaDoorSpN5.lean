/-
  The developers' package spec: the spec of 12 numbers, and of a text's words.
-/
import Derived.Test.YtijloajkiannlaaDoorSpN1
import Derived.Test.YtijloajkiannlaaDoorSpN3
import Derived.Test.YtijloajkiannlaaDoorSpRef4
import Derived.Test.YtijloajkiannlaaDoorSpRef6
namespace Go.Proofs.YtijloajkiannlaaDoor
open Go.RowKit
set_option linter.unusedSimpArgs false
set_option linter.unusedVariables false

/-- The spec that 12 numbers make, and the error's number. -/
def mkS (l : List Int) : Spc.Sp := if l.length = 12 then Spc.of l else Spc.zero
def mkE (l : List Int) : Int := if l.length = 12 then 0 else 1
/-- Two new blocks: the spec that is being made, and the result. -/
structure Two (w : World) (gs gr : Nat) (o : Spc.Sp) (wx : World) : Prop where
  at_ : wx.heap[gs]? = some (.cells (Spc.cells o) 25 (0, 0))
  res : wx.heap[gr]? = some (.cells (Spc.cells Spc.zero) 25 (0, 0))
  below : Below w.heap.size w wx
  ne : gs ≠ gr
  lo : w.heap.size ≤ gs
  lor : w.heap.size ≤ gr
structure One (w : World) (gr : Nat) (wx : World) : Prop where
  res : wx.heap[gr]? = some (.cells (Spc.cells Spc.zero) 25 (0, 0))
  below : Below w.heap.size w wx
  lor : w.heap.size ≤ gr
theorem Two.start (w : World) : Two w (w.heap.size + 1) w.heap.size Spc.zero ((w.alloc (.cells (Spc.cells Spc.zero) 25)).alloc (.cells (Spc.cells Spc.zero) 25)) := by
  have h1 := heap_alloc_new w (.cells (Spc.cells Spc.zero) 25)
  have hb1 := (Below.refl w.heap.size w).alloc (Nat.le_refl _) (.cells (Spc.cells Spc.zero) 25)
  have hz : (w.alloc (.cells (Spc.cells Spc.zero) 25)).heap.size = w.heap.size + 1 := by simp
  generalize w.alloc (.cells (Spc.cells Spc.zero) 25) = w1 at *
  have h2 := heap_alloc_new w1 (.cells (Spc.cells Spc.zero) 25)
  have hb2 := (Below.refl w1.heap.size w1).alloc (Nat.le_refl _) (.cells (Spc.cells Spc.zero) 25)
  rw [hz] at h2
  exact ⟨h2, (hb2.block w.heap.size (by omega)).trans h1, hb1.trans (hb2.mono (by omega)), by omega, by omega, Nat.le_refl _⟩
theorem Two.on {w wx w' : World} {gs gr : Nat} {o : Spc.Sp} (h : Two w gs gr o wx) (hb : Below wx.heap.size wx w') : Two w gs gr o w' :=
  ⟨(hb.block gs (Array.getElem?_eq_some_iff.1 h.at_).1).trans h.at_, (hb.block gr (Array.getElem?_eq_some_iff.1 h.res).1).trans h.res, h.below.trans (hb.mono h.below.size), h.ne, h.lo, h.lor⟩
theorem Two.set {w wx : World} {gs gr : Nat} {o : Spc.Sp} (h : Two w gs gr o wx) (o' : Spc.Sp) (k : Nat) (v : Int) (he : (Spc.cells o).setIfInBounds k (.int .i64 v) = Spc.cells o') : Two w gs gr o' (wx.setCell ⟨gs, k, none⟩ (.int .i64 v)) := by
  refine ⟨?_, ?_, h.below.setCell h.lo _, h.ne, h.lo, h.lor⟩
  · rw [← he]; exact heap_setCell_same wx gs k _ _ _ h.at_
  · exact ((grown_set wx gs k _).block gr (Array.getElem?_eq_some_iff.1 h.res).1 (by simp; exact fun e => h.ne e.symm)).trans h.res
theorem cells_put {l : List Int} (hl : l.length = 12) {j : Nat} (hj : j < 12) : (Spc.cells (Spc.of (l.take j))).setIfInBounds j (.int .i64 (l.getD j 0)) = Spc.cells (Spc.of (l.take (j + 1))) := by
  obtain ⟨l0, l1, l2, l3, l4, l5, l6, l7, l8, l9, l10, l11, rfl⟩ := twelve hl
  rcases j with _ | _ | _ | _ | _ | _ | _ | _ | _ | _ | _ | _ | j <;> first | rfl | omega
theorem of_take_zero (l : List Int) : Spc.of (l.take 0) = Spc.zero := rfl
theorem of_take_all {l : List Int} (hl : l.length = 12) : Spc.of (l.take 12) = Spc.of l := by rw [List.take_of_length_le (by omega)]
set_option maxRecDepth 100000 in
set_option maxHeartbeats 3200000 in
theorem make_any (l : List Int) (A : Option Addr) (n c : Nat) (w : World) (h : SlI w A n c l) (hn : n ≤ 1000) : Calls Tryd.prog 12 #[.slice A n c] w (APos w (.tuple #[Spc.val (mkS l), .int .i64 (mkE l)])) := by
  have hlen := h.len
  by_cases h12 : l.length = 12
  · have HV : Hid (Spc.val (mkS l) = Spc.val (Spc.of l) ∧ mkE l = 0) := by
      unfold mkS mkE
      show _ ∧ _
      rw [if_pos h12, if_pos h12]; exact ⟨rfl, rfl⟩
    obtain ⟨b, off, rfl, hbl, hc⟩ := h.rd (by omega)
    have hcap := h.cap
    have hmax := h.max
    unfold maxLen at hmax
    have H12 := Lib.hid h12
    have HC : Hid (∀ W, Below w.heap.size w W → ∀ j, j < 12 → W.cell? ⟨b, off + j, none⟩ = some (.int .i64 (l.getD j 0))) := fun W hW j hj => (hW.cell (p := ⟨b, off + j, none⟩) hbl).trans (hc j (by omega))
    obtain rfl : n = 12 := by omega
    have CN : Hid (∀ g W, Calls Tryd.prog 25 #[.pointer (some ⟨g, 0, none⟩)] W fun e w' => e = .returned (.agg (ptrs g)) ∧ Below W.heap.size W w') := numbers_any
    rw [HV.out.2]
    clear h hc hbl hlen h12 hn
    have P1 : Hid (Two w (w.heap.size + 1) w.heap.size Spc.zero ((w.alloc (.cells #[.int .i64 0, .int .i64 0, .int .i64 0, .int .i64 0, .int .i64 0, .int .i64 0, .int .i64 0, .int .i64 0, .int .i64 0, .int .i64 0, .int .i64 0, .int .i64 0] 25)).alloc (.cells #[.int .i64 0, .int .i64 0, .int .i64 0, .int .i64 0, .int .i64 0, .int .i64 0, .int .i64 0, .int .i64 0, .int .i64 0, .int .i64 0, .int .i64 0, .int .i64 0] 25))) := Two.start w
    obtain ⟨gr, hgr⟩ : ∃ gr, gr = w.heap.size := ⟨_, rfl⟩
    obtain ⟨gs, hgs⟩ : ∃ gs, gs = w.heap.size + 1 := ⟨_, rfl⟩
    rw [← hgs, ← hgr] at P1
    have GR := Lib.hid hgr
    have GS := Lib.hid hgs
    clear hgr hgs
    go_enter Tryd.func12, Tryd.ntmps12
    go_wp2_with fail
    rw [← GS.out, ← GR.out]
    generalize (w.alloc (.cells #[.int .i64 0, .int .i64 0, .int .i64 0, .int .i64 0, .int .i64 0, .int .i64 0, .int .i64 0, .int .i64 0, .int .i64 0, .int .i64 0, .int .i64 0, .int .i64 0] 25)).alloc (.cells #[.int .i64 0, .int .i64 0, .int .i64 0, .int .i64 0, .int .i64 0, .int .i64 0, .int .i64 0, .int .i64 0, .int .i64 0, .int .i64 0, .int .i64 0, .int .i64 0] 25) = w1 at *
    refine (CN.out gs w1).mono ?_
    rintro e w2 ⟨rfl, hb2⟩
    have P2 := Lib.hid (P1.out.on hb2)
    clear hb2 P1 CN GR GS
    go_wp2_with fail
    go_loopw [12] (fun i wr => ∃ (j : Nat), j ≤ 12 ∧ i = .int .i64 (j : Nat) ∧ Two w gs gr (Spc.of (l.take j)) wr) (fun i _ => 12 - (intOf i).toNat)
    case atStart => exact ⟨0, by omega, rfl, P2.out⟩
    case round =>
      obtain ⟨j, hj, rfl, hp⟩ := hrel
      have P := Lib.hid hp
      clear hp P2
      by_cases hlt : j < 12
      · have hpj := fun W => ptrs_run gs j hlt W
        have hcj := HC.out wr P.out.below j hlt
        have hcg := sp_at (spAt_of P.out.at_) hlt
        have hfg : wr.frozen? ⟨gs, j, none⟩ = false := frozen_of_row wr gs _ _ _ P.out.at_
        have PX := Lib.hid (P.out.set _ j _ (cells_put H12.out hlt))
        obtain ⟨x, hx⟩ : ∃ x, x = l.getD j 0 := ⟨_, rfl⟩
        rw [← hx] at hcj PX
        have i1 : (0 : Int) ≤ (j : Int) := by omega
        have i2 : (j : Int) < 12 := by omega
        clear hx
        go_wp2_with fail
        exact ⟨⟨j + 1, by omega, by go_num, PX.out⟩, by simp [intOf]; omega⟩
      · obtain rfl : j = 12 := by omega
        have hp := P.out
        rw [of_take_all H12.out] at hp
        obtain ⟨o, ho⟩ : ∃ o, o = Spc.of l := ⟨_, rfl⟩
        rw [← ho] at hp HV
        have PE := Lib.hid hp
        clear hp P ho
        obtain ⟨f0, f1, f2, f3, f4, f5, f6, f7, f8, f9, f10, f11⟩ := spAt_of PE.out.at_
        obtain ⟨q0, q1, q2, q3, q4, q5, q6, q7, q8, q9, q10, q11⟩ := spAt_of (s := Spc.zero) PE.out.res
        obtain ⟨y0, y1, y2, y3, y4, y5, y6, y7, y8, y9, y10, y11⟩ := spFz_of PE.out.res
        simp only [Spc.zero] at q0 q1 q2 q3 q4 q5 q6 q7 q8 q9 q10 q11
        have hP := puts_sp (s := o) (r := Spc.zero) PE.out.res
        have hG := puts_grown gr (Spc.cells o).toList 0 wr
        obtain ⟨W9, hW⟩ : ∃ W9, W9 = puts wr gr 0 (Spc.cells o).toList := ⟨_, rfl⟩
        rw [← hW] at hP hG
        have hB := PE.out.below.grown hG PE.out.below.size (fun i hi => by injection hi with hi; have := PE.out.lor; omega)
        have key : ((((((((((((wr.setCell ⟨gr, 0, none⟩ (.int .i64 o.v)).setCell ⟨gr, 1, none⟩ (.int .i64 o.d)).setCell ⟨gr, 2, none⟩ (.int .i64 o.u)).setCell ⟨gr, 3, none⟩ (.int .i64 o.n)).setCell ⟨gr, 4, none⟩ (.int .i64 o.g)).setCell ⟨gr, 5, none⟩ (.int .i64 o.a)).setCell ⟨gr, 6, none⟩ (.int .i64 o.b)).setCell ⟨gr, 7, none⟩ (.int .i64 o.c)).setCell ⟨gr, 8, none⟩ (.int .i64 o.e)).setCell ⟨gr, 9, none⟩ (.int .i64 o.w)).setCell ⟨gr, 10, none⟩ (.int .i64 o.x)).setCell ⟨gr, 11, none⟩ (.int .i64 o.k)) = W9 := by rw [hW]; rfl
        have KEY := Lib.hid key
        have HP := Lib.hid hP
        have HB := Lib.hid hB
        clear hP hG hW hB key PE
        go_wp2_with fail
        rw [KEY.out]
        clear f0 f1 f2 f3 f4 f5 f6 f7 f8 f9 f10 f11 q0 q1 q2 q3 q4 q5 q6 q7 q8 q9 q10 q11 y0 y1 y2 y3 y4 y5 y6 y7 y8 y9 y10 y11 KEY
        obtain ⟨f0, f1, f2, f3, f4, f5, f6, f7, f8, f9, f10, f11⟩ := spAt_of (s := o) HP.out
        exact bodyPost_ret (v := .tuple #[.agg #[.int .i64 o.v, .int .i64 o.d, .int .i64 o.u, .int .i64 o.n, .int .i64 o.g, .int .i64 o.a, .int .i64 o.b, .int .i64 o.c, .int .i64 o.e, .int .i64 o.w, .int .i64 o.x, .int .i64 o.k], .int .i64 0]) (by simp [results, Tryd.results12, go_sem, f0, f1, f2, f3, f4, f5, f6, f7, f8, f9, f10, f11]) rfl ⟨by rw [HV.out.1]; rfl, HB.out⟩
  · have HV : Hid (Spc.val (mkS l) = .agg #[.int .i64 0, .int .i64 0, .int .i64 0, .int .i64 0, .int .i64 0, .int .i64 0, .int .i64 0, .int .i64 0, .int .i64 0, .int .i64 0, .int .i64 0, .int .i64 0] ∧ mkE l = 1) := by
      unfold mkS mkE
      show _ ∧ _
      rw [if_neg h12, if_neg h12]; exact ⟨rfl, rfl⟩
    have hn12 : ¬ (n : Int) = 12 := by omega
    have hcap := h.cap
    have hmax := h.max
    unfold maxLen at hmax
    have HB := Lib.hid ((Below.refl w.heap.size w).alloc (Nat.le_refl _) (.cells #[.int .i64 0, .int .i64 0, .int .i64 0, .int .i64 0, .int .i64 0, .int .i64 0, .int .i64 0, .int .i64 0, .int .i64 0, .int .i64 0, .int .i64 0, .int .i64 0] 25))
    rw [HV.out.1, HV.out.2]
    clear h hlen h12 HV
    go_enter Tryd.func12, Tryd.ntmps12
    go_wp2_with fail
    exact bodyPost_ret (v := .tuple #[.agg #[.int .i64 0, .int .i64 0, .int .i64 0, .int .i64 0, .int .i64 0, .int .i64 0, .int .i64 0, .int .i64 0, .int .i64 0, .int .i64 0, .int .i64 0, .int .i64 0], .int .i64 1]) (by simp [results, Tryd.results12, go_sem]) rfl ⟨rfl, HB.out⟩
/-! The words of a text. -/
/-- What readForm answers. -/
def rfE (t : List Nat) : Int := if (Spc.words t).length ≠ 12 ∨ ¬ (∀ u ∈ Spc.words t, Spc.numB u = true) then 2 else 0
def rfS (t : List Nat) : Spc.Sp := if rfE t = 0 then Spc.rdS t else Spc.zero
set_option maxRecDepth 100000 in
set_option maxHeartbeats 3200000 in
theorem readForm_any (t : List Nat) (hb : ∀ x ∈ t, x < 256) (hl : t.length ≤ 1000) (w : World) (ht : Tb w) : Calls Tryd.prog 19 #[.string (txt t)] w (APos w (.tuple #[Spc.val (rfS t), .int .i64 (rfE t)])) := by
  have CS := Lib.hid (fun W (h : Tb W) => splitN_any t hb hl W h)
  have HT := Lib.hid ht
  have HT1 := Lib.hid (ht.on ((Below.refl w.heap.size w).alloc (Nat.le_refl _) (.cells #[.int .i64 0, .int .i64 0, .int .i64 0, .int .i64 0, .int .i64 0, .int .i64 0, .int .i64 0, .int .i64 0, .int .i64 0, .int .i64 0, .int .i64 0, .int .i64 0] 25)))
  have HWB := Lib.hid (Spc.words_byte t (fun x => x < 256) hb)
  have HWL := Lib.hid (words_long t)
  have HB1 := Lib.hid ((Below.refl w.heap.size w).alloc (Nat.le_refl _) (.cells #[.int .i64 0, .int .i64 0, .int .i64 0, .int .i64 0, .int .i64 0, .int .i64 0, .int .i64 0, .int .i64 0, .int .i64 0, .int .i64 0, .int .i64 0, .int .i64 0] 25))
  have HNR := Lib.hid heap_alloc_new
  clear ht
  by_cases h12 : (Spc.words t).length = 12
  · have H12 := Lib.hid h12
    clear h12 hb
    go_enter Tryd.func19, Tryd.ntmps19
    go_wp2_with fail
    have hr1 := heap_alloc_new w (.cells (Spc.cells Spc.zero) 25)
    have HR1 : Hid ((w.alloc (.cells #[.int .i64 0, .int .i64 0, .int .i64 0, .int .i64 0, .int .i64 0, .int .i64 0, .int .i64 0, .int .i64 0, .int .i64 0, .int .i64 0, .int .i64 0, .int .i64 0] 25)).heap[w.heap.size]? = some (.cells (Spc.cells Spc.zero) 25 (0, 0))) := hr1
    obtain ⟨gr, hgr⟩ : ∃ gr, gr = w.heap.size := ⟨_, rfl⟩
    rw [← hgr] at HR1 ⊢
    have GR := Lib.hid hgr
    clear hr1 hgr HNR
    generalize w.alloc (.cells #[.int .i64 0, .int .i64 0, .int .i64 0, .int .i64 0, .int .i64 0, .int .i64 0, .int .i64 0, .int .i64 0, .int .i64 0, .int .i64 0, .int .i64 0, .int .i64 0] 25) = w1 at *
    refine (CS.out w1 HT1.out).mono ?_
    rintro e w2 ⟨gq, m, c, rfl, hmc, hc13, hgq, hb2, hyes, _⟩
    obtain ⟨rfl, hcw⟩ := hyes H12.out
    have HR2 : Hid (w2.heap[gr]? = some (.cells (Spc.cells Spc.zero) 25 (0, 0))) := (hb2.block gr (Array.getElem?_eq_some_iff.1 HR1.out).1).trans HR1.out
    have B2 := Lib.hid (HB1.out.trans (hb2.mono HB1.out.size))
    have HC : Hid (∀ W, Below w2.heap.size w2 W → ∀ j, j < 12 → W.cell? ⟨gq, j, none⟩ = some (.string (txt ((Spc.words t).getD j [])))) := fun W hW j hj => (hW.cell (p := ⟨gq, j, none⟩) hgq).trans (hcw j hj)
    have hc12 : 12 ≤ c := hmc
    have hcm : (c : Int) ≤ 13 := by omega
    have LR : Hid (gr < w2.heap.size) := (Array.getElem?_eq_some_iff.1 HR2.out).1
    clear hb2 hyes hcw hgq HR1 HB1 HT1 CS
    have CN : Hid (∀ g W, Calls Tryd.prog 25 #[.pointer (some ⟨g, 0, none⟩)] W fun e w' => e = .returned (.agg (ptrs g)) ∧ Below W.heap.size W w') := numbers_any
    obtain ⟨gs, hgs⟩ : ∃ gs, gs = w2.heap.size := ⟨_, rfl⟩
    have P3 : Hid (Two w gs gr Spc.zero (w2.alloc (.cells #[.int .i64 0, .int .i64 0, .int .i64 0, .int .i64 0, .int .i64 0, .int .i64 0, .int .i64 0, .int .i64 0, .int .i64 0, .int .i64 0, .int .i64 0, .int .i64 0] 25))) := by
      have hb3 := (Below.refl w2.heap.size w2).alloc (Nat.le_refl _) (.cells (Spc.cells Spc.zero) 25)
      have h3 := heap_alloc_new w2 (.cells (Spc.cells Spc.zero) 25)
      rw [← hgs] at h3
      exact ⟨h3, (hb3.block gr LR.out).trans HR2.out, B2.out.trans (hb3.mono B2.out.size), by have := LR.out; omega, by rw [hgs]; exact B2.out.size, by rw [GR.out]; exact Nat.le_refl _⟩
    have B3 : Hid (Below w2.heap.size w2 (w2.alloc (.cells #[.int .i64 0, .int .i64 0, .int .i64 0, .int .i64 0, .int .i64 0, .int .i64 0, .int .i64 0, .int .i64 0, .int .i64 0, .int .i64 0, .int .i64 0, .int .i64 0] 25))) := (Below.refl w2.heap.size w2).alloc (Nat.le_refl _) _
    have GS := Lib.hid hgs
    clear hgs
    go_wp2_with fail
    rw [← GS.out]
    generalize w2.alloc (.cells #[.int .i64 0, .int .i64 0, .int .i64 0, .int .i64 0, .int .i64 0, .int .i64 0, .int .i64 0, .int .i64 0, .int .i64 0, .int .i64 0, .int .i64 0, .int .i64 0] 25) = w3 at *
    refine (CN.out gs w3).mono ?_
    rintro e w4 ⟨rfl, hb4⟩
    have P4 := Lib.hid (P3.out.on hb4)
    have B4 := Lib.hid (B3.out.trans (hb4.mono B3.out.size))
    clear hb4 P3 CN
    go_wp2_with fail
    go_loopw [17] (fun i wr => ∃ (j : Nat), j ≤ 12 ∧ i = .int .i64 (j : Nat) ∧ Two w gs gr (Spc.of (((Spc.words t).map Spc.numV).take j)) wr ∧ Below w2.heap.size w2 wr ∧ ∀ m, m < j → Spc.numB ((Spc.words t).getD m []) = true) (fun i _ => 12 - (intOf i).toNat)
    case atStart => exact ⟨0, by omega, rfl, P4.out, B4.out, fun m hm => absurd hm (by omega)⟩
    case round =>
      obtain ⟨j, hj, rfl, hp, hbr, hnb⟩ := hrel
      have P := Lib.hid hp
      have B := Lib.hid hbr
      have NB := Lib.hid hnb
      clear hp hbr hnb P4 B4
      by_cases hlt : j < 12
      · have hpj := fun W => ptrs_run gs j hlt W
        have hcj := HC.out wr B.out j hlt
        have hjl : j < (Spc.words t).length := by rw [H12.out]; exact hlt
        obtain ⟨u, hu⟩ : ∃ u, u = (Spc.words t).getD j [] := ⟨_, rfl⟩
        have hum : u ∈ Spc.words t := by rw [hu, getD_at hjl]; exact List.getElem_mem hjl
        have C := Lib.hid (readNumber_any u (HWB.out u hum) (Nat.le_trans (HWL.out u hum) hl) wr (HT.out.on P.out.below))
        rw [← hu] at hcj
        have HU := Lib.hid hu
        have i1 : (0 : Int) ≤ (j : Int) := by omega
        have i2 : (j : Int) < 12 := by omega
        have i3 : (j : Int) < c := by omega
        cases hub : Spc.numB u with
        | true =>
          rw [hub, if_pos rfl] at C
          have HN : Hid (Spc.numV u = ((Spc.words t).map Spc.numV).getD j 0) := by
            show _ = _
            rw [getD_at (by rw [List.length_map]; exact hjl), List.getElem_map, hu, getD_at hjl]
          have NB2 : Hid (∀ m, m < j + 1 → Spc.numB ((Spc.words t).getD m []) = true) := fun m hm => by
            rcases Nat.lt_or_ge m j with h | h
            · exact NB.out m h
            · rw [show m = j by omega, ← HU.out]; exact hub
          clear hu hum hub
          go_wp2_with fail
          refine C.out.mono ?_
          rintro e w5 ⟨rfl, hb5⟩
          have P5 := Lib.hid (P.out.on hb5)
          have B5 := Lib.hid (B.out.trans (hb5.mono B.out.size))
          have hcg := sp_at (spAt_of P5.out.at_) hlt
          have hfg : w5.frozen? ⟨gs, j, none⟩ = false := frozen_of_row w5 gs _ _ _ P5.out.at_
          have PX := Lib.hid (P5.out.set _ j _ (cells_put (l := (Spc.words t).map Spc.numV) (by rw [List.length_map]; exact H12.out) hlt))
          rw [← HN.out] at PX
          have BX : Hid (Below w2.heap.size w2 (w5.setCell ⟨gs, j, none⟩ (.int .i64 (Spc.numV u)))) := B5.out.setCell (by rw [GS.out]; exact Nat.le_refl _) _
          clear hb5 C
          go_wp2_with fail
          exact ⟨⟨j + 1, by omega, by go_num, PX.out, BX.out, NB2.out⟩, by simp [intOf]; omega⟩
        | false =>
          have HV : Hid (Spc.val (rfS t) = .agg #[.int .i64 0, .int .i64 0, .int .i64 0, .int .i64 0, .int .i64 0, .int .i64 0, .int .i64 0, .int .i64 0, .int .i64 0, .int .i64 0, .int .i64 0, .int .i64 0] ∧ rfE t = 2) := by
            have e : rfE t = 2 := by
              unfold rfE
              rw [if_pos (.inr (fun h => by have := h u hum; rw [hub] at this; cases this))]
            show _ ∧ _
            refine ⟨?_, e⟩
            unfold rfS
            rw [if_neg (by rw [e]; omega)]; rfl
          rw [hub, if_neg (by simp)] at C
          rw [HV.out.1, HV.out.2]
          clear hu hum hub
          go_wp2_with fail
          refine C.out.mono ?_
          rintro e w5 ⟨rfl, hb5⟩
          have P5 := Lib.hid (P.out.on hb5)
          clear hb5 C P
          obtain ⟨q0, q1, q2, q3, q4, q5, q6, q7, q8, q9, q10, q11⟩ := spAt_of (s := Spc.zero) P5.out.res
          obtain ⟨y0, y1, y2, y3, y4, y5, y6, y7, y8, y9, y10, y11⟩ := spFz_of P5.out.res
          simp only [Spc.zero] at q0 q1 q2 q3 q4 q5 q6 q7 q8 q9 q10 q11
          have hP := puts_sp (s := Spc.zero) (r := Spc.zero) P5.out.res
          have hG := puts_grown gr (Spc.cells Spc.zero).toList 0 w5
          obtain ⟨W9, hW⟩ : ∃ W9, W9 = puts w5 gr 0 (Spc.cells Spc.zero).toList := ⟨_, rfl⟩
          rw [← hW] at hP hG
          have hB := P5.out.below.grown hG P5.out.below.size (fun i hi => by injection hi with hi; have := P5.out.lor; omega)
          have key : ((((((((((((w5.setCell ⟨gr, 0, none⟩ (.int .i64 0)).setCell ⟨gr, 1, none⟩ (.int .i64 0)).setCell ⟨gr, 2, none⟩ (.int .i64 0)).setCell ⟨gr, 3, none⟩ (.int .i64 0)).setCell ⟨gr, 4, none⟩ (.int .i64 0)).setCell ⟨gr, 5, none⟩ (.int .i64 0)).setCell ⟨gr, 6, none⟩ (.int .i64 0)).setCell ⟨gr, 7, none⟩ (.int .i64 0)).setCell ⟨gr, 8, none⟩ (.int .i64 0)).setCell ⟨gr, 9, none⟩ (.int .i64 0)).setCell ⟨gr, 10, none⟩ (.int .i64 0)).setCell ⟨gr, 11, none⟩ (.int .i64 0)) = W9 := by rw [hW]; rfl
          have KEY := Lib.hid key
          have HP := Lib.hid hP
          have HB := Lib.hid hB
          clear hP hG hW hB key P5
          go_wp2_with fail
          rw [KEY.out]
          clear  q0 q1 q2 q3 q4 q5 q6 q7 q8 q9 q10 q11 y0 y1 y2 y3 y4 y5 y6 y7 y8 y9 y10 y11 KEY
          obtain ⟨f0, f1, f2, f3, f4, f5, f6, f7, f8, f9, f10, f11⟩ := spAt_of (s := Spc.zero) HP.out
          simp only [Spc.zero] at f0 f1 f2 f3 f4 f5 f6 f7 f8 f9 f10 f11
          exact bodyPost_ret (v := .tuple #[.agg #[.int .i64 0, .int .i64 0, .int .i64 0, .int .i64 0, .int .i64 0, .int .i64 0, .int .i64 0, .int .i64 0, .int .i64 0, .int .i64 0, .int .i64 0, .int .i64 0], .int .i64 2]) (by simp [results, Tryd.results19, go_sem, f0, f1, f2, f3, f4, f5, f6, f7, f8, f9, f10, f11]) rfl ⟨rfl, HB.out⟩
      · obtain rfl : j = 12 := by omega
        have HV : Hid (rfS t = Spc.rdS t ∧ rfE t = 0) := by
          have e : rfE t = 0 := by
            unfold rfE
            rw [if_neg]
            rintro (h | h)
            · exact h H12.out
            · refine h fun u hu => ?_
              obtain ⟨m, hm, rfl⟩ := List.getElem_of_mem hu
              have := NB.out m (by rw [← H12.out]; exact hm)
              rw [getD_at hm] at this
              exact this
          show _ ∧ _
          refine ⟨?_, e⟩
          unfold rfS
          rw [if_pos e]
        have hp := P.out
        rw [of_take_all (l := (Spc.words t).map Spc.numV) (by rw [List.length_map]; exact H12.out)] at hp
        obtain ⟨o, ho⟩ : ∃ o, o = Spc.rdS t := ⟨_, rfl⟩
        rw [show Spc.of ((Spc.words t).map Spc.numV) = o from ho.symm] at hp
        have PE := Lib.hid hp
        rw [← ho] at HV
        clear hp P ho
        obtain ⟨f0, f1, f2, f3, f4, f5, f6, f7, f8, f9, f10, f11⟩ := spAt_of PE.out.at_
        obtain ⟨q0, q1, q2, q3, q4, q5, q6, q7, q8, q9, q10, q11⟩ := spAt_of (s := Spc.zero) PE.out.res
        obtain ⟨y0, y1, y2, y3, y4, y5, y6, y7, y8, y9, y10, y11⟩ := spFz_of PE.out.res
        simp only [Spc.zero] at q0 q1 q2 q3 q4 q5 q6 q7 q8 q9 q10 q11
        have hP := puts_sp (s := o) (r := Spc.zero) PE.out.res
        have hG := puts_grown gr (Spc.cells o).toList 0 wr
        obtain ⟨W9, hW⟩ : ∃ W9, W9 = puts wr gr 0 (Spc.cells o).toList := ⟨_, rfl⟩
        rw [← hW] at hP hG
        have hB := PE.out.below.grown hG PE.out.below.size (fun i hi => by injection hi with hi; have := PE.out.lor; omega)
        have key : ((((((((((((wr.setCell ⟨gr, 0, none⟩ (.int .i64 o.v)).setCell ⟨gr, 1, none⟩ (.int .i64 o.d)).setCell ⟨gr, 2, none⟩ (.int .i64 o.u)).setCell ⟨gr, 3, none⟩ (.int .i64 o.n)).setCell ⟨gr, 4, none⟩ (.int .i64 o.g)).setCell ⟨gr, 5, none⟩ (.int .i64 o.a)).setCell ⟨gr, 6, none⟩ (.int .i64 o.b)).setCell ⟨gr, 7, none⟩ (.int .i64 o.c)).setCell ⟨gr, 8, none⟩ (.int .i64 o.e)).setCell ⟨gr, 9, none⟩ (.int .i64 o.w)).setCell ⟨gr, 10, none⟩ (.int .i64 o.x)).setCell ⟨gr, 11, none⟩ (.int .i64 o.k)) = W9 := by rw [hW]; rfl
        have KEY := Lib.hid key
        have HP := Lib.hid hP
        have HB := Lib.hid hB
        clear hP hG hW hB key PE
        go_wp2_with fail
        rw [KEY.out]
        clear f0 f1 f2 f3 f4 f5 f6 f7 f8 f9 f10 f11 q0 q1 q2 q3 q4 q5 q6 q7 q8 q9 q10 q11 y0 y1 y2 y3 y4 y5 y6 y7 y8 y9 y10 y11 KEY
        obtain ⟨f0, f1, f2, f3, f4, f5, f6, f7, f8, f9, f10, f11⟩ := spAt_of (s := o) HP.out
        exact bodyPost_ret (v := .tuple #[.agg #[.int .i64 o.v, .int .i64 o.d, .int .i64 o.u, .int .i64 o.n, .int .i64 o.g, .int .i64 o.a, .int .i64 o.b, .int .i64 o.c, .int .i64 o.e, .int .i64 o.w, .int .i64 o.x, .int .i64 o.k], .int .i64 0]) (by simp [results, Tryd.results19, go_sem, f0, f1, f2, f3, f4, f5, f6, f7, f8, f9, f10, f11]) rfl ⟨by rw [HV.out.1, HV.out.2]; rfl, HB.out⟩
  · have HV : Hid (Spc.val (rfS t) = .agg #[.int .i64 0, .int .i64 0, .int .i64 0, .int .i64 0, .int .i64 0, .int .i64 0, .int .i64 0, .int .i64 0, .int .i64 0, .int .i64 0, .int .i64 0, .int .i64 0] ∧ rfE t = 2) := by
      have e : rfE t = 2 := by unfold rfE; rw [if_pos (.inl h12)]
      show _ ∧ _
      refine ⟨?_, e⟩
      unfold rfS
      rw [if_neg (by rw [e]; omega)]; rfl
    have H12 := Lib.hid h12
    rw [HV.out.1, HV.out.2]
    clear h12 hb HV
    go_enter Tryd.func19, Tryd.ntmps19
    go_wp2_with fail
    have hr1 := heap_alloc_new w (.cells (Spc.cells Spc.zero) 25)
    have HR1 : Hid ((w.alloc (.cells #[.int .i64 0, .int .i64 0, .int .i64 0, .int .i64 0, .int .i64 0, .int .i64 0, .int .i64 0, .int .i64 0, .int .i64 0, .int .i64 0, .int .i64 0, .int .i64 0] 25)).heap[w.heap.size]? = some (.cells (Spc.cells Spc.zero) 25 (0, 0))) := hr1
    obtain ⟨gr, hgr⟩ : ∃ gr, gr = w.heap.size := ⟨_, rfl⟩
    rw [← hgr] at HR1 ⊢
    have GR := Lib.hid hgr
    clear hr1 hgr HNR
    generalize w.alloc (.cells #[.int .i64 0, .int .i64 0, .int .i64 0, .int .i64 0, .int .i64 0, .int .i64 0, .int .i64 0, .int .i64 0, .int .i64 0, .int .i64 0, .int .i64 0, .int .i64 0] 25) = w1 at *
    refine (CS.out w1 HT1.out).mono ?_
    rintro e w2 ⟨gq, m, c, rfl, hmc, hc13, hgq, hb2, _, hno⟩
    have hm12 : ¬ (m : Int) = 12 := by have := hno H12.out; omega
    have hm0 : (m : Int) ≤ 13 := by omega
    have P5 : Hid (One w gr w2) := ⟨(hb2.block gr (Array.getElem?_eq_some_iff.1 HR1.out).1).trans HR1.out, HB1.out.trans (hb2.mono HB1.out.size), by rw [GR.out]; exact Nat.le_refl _⟩
    clear hb2 hno hgq HR1 HB1 HT1 CS
    obtain ⟨q0, q1, q2, q3, q4, q5, q6, q7, q8, q9, q10, q11⟩ := spAt_of (s := Spc.zero) P5.out.res
    obtain ⟨y0, y1, y2, y3, y4, y5, y6, y7, y8, y9, y10, y11⟩ := spFz_of P5.out.res
    simp only [Spc.zero] at q0 q1 q2 q3 q4 q5 q6 q7 q8 q9 q10 q11
    have hP := puts_sp (s := Spc.zero) (r := Spc.zero) P5.out.res
    have hG := puts_grown gr (Spc.cells Spc.zero).toList 0 w2
    obtain ⟨W9, hW⟩ : ∃ W9, W9 = puts w2 gr 0 (Spc.cells Spc.zero).toList := ⟨_, rfl⟩
    rw [← hW] at hP hG
    have hB := P5.out.below.grown hG P5.out.below.size (fun i hi => by injection hi with hi; have := P5.out.lor; omega)
    have key : ((((((((((((w2.setCell ⟨gr, 0, none⟩ (.int .i64 0)).setCell ⟨gr, 1, none⟩ (.int .i64 0)).setCell ⟨gr, 2, none⟩ (.int .i64 0)).setCell ⟨gr, 3, none⟩ (.int .i64 0)).setCell ⟨gr, 4, none⟩ (.int .i64 0)).setCell ⟨gr, 5, none⟩ (.int .i64 0)).setCell ⟨gr, 6, none⟩ (.int .i64 0)).setCell ⟨gr, 7, none⟩ (.int .i64 0)).setCell ⟨gr, 8, none⟩ (.int .i64 0)).setCell ⟨gr, 9, none⟩ (.int .i64 0)).setCell ⟨gr, 10, none⟩ (.int .i64 0)).setCell ⟨gr, 11, none⟩ (.int .i64 0)) = W9 := by rw [hW]; rfl
    have KEY := Lib.hid key
    have HP := Lib.hid hP
    have HB := Lib.hid hB
    clear hP hG hW hB key P5
    go_wp2_with fail
    rw [KEY.out]
    clear  q0 q1 q2 q3 q4 q5 q6 q7 q8 q9 q10 q11 y0 y1 y2 y3 y4 y5 y6 y7 y8 y9 y10 y11 KEY
    obtain ⟨f0, f1, f2, f3, f4, f5, f6, f7, f8, f9, f10, f11⟩ := spAt_of (s := Spc.zero) HP.out
    simp only [Spc.zero] at f0 f1 f2 f3 f4 f5 f6 f7 f8 f9 f10 f11
    exact bodyPost_ret (v := .tuple #[.agg #[.int .i64 0, .int .i64 0, .int .i64 0, .int .i64 0, .int .i64 0, .int .i64 0, .int .i64 0, .int .i64 0, .int .i64 0, .int .i64 0, .int .i64 0, .int .i64 0], .int .i64 2]) (by simp [results, Tryd.results19, go_sem, f0, f1, f2, f3, f4, f5, f6, f7, f8, f9, f10, f11]) rfl ⟨rfl, HB.out⟩
end Go.Proofs.YtijloajkiannlaaDoor
