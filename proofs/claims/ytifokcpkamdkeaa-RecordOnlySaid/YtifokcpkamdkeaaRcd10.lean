/-
  The developers' package spec: the spec of 12 numbers.
  One way alone: bytes that are read with no error, as a record that may be, are those that are written of it. No condition.
  Package record: Read. Written by wip/tools/gen/rkread.py. No condition.
  Package record keeps the contracts. No condition.
-/
import Derived.Test.YtifokcpkamdkeaaSpN1
import Derived.Test.YtifokcpkamdkeaaSpRef4
import Derived.Test.YtifokcpkamdkeaaRcDec
import Derived.Test.YtifokcpkamdkeaaRkW
import Derived.Test.YtifokcpkamdkeaaRcOnly0
import Derived.Test.YtifokcpkamdkeaaRcRead
import Derived.Test.YtifokcpkamdkeaaCdcList
namespace Go.Proofs.Ytifokcpkamdkeaa
open Go.RowKit
set_option linter.unusedSimpArgs false
set_option linter.unusedVariables false

/-- The spec that 12 numbers make, and the error's number. -/
def mkS (l : List Int) : Spc.Sp := if l.length = 12 then Spc.of l else Spc.zero
def mkE (l : List Int) : Int := if l.length = 12 then 0 else 1
/-- Two new blocks: the spec that is being made, and the result. -/
structure Two (w : World) (gs gr : Nat) (o : Spc.Sp) (wx : World) : Prop where
  at_ : wx.heap[gs]? = some (.cells (Spc.cells o) 26 (0, 0))
  res : wx.heap[gr]? = some (.cells (Spc.cells Spc.zero) 26 (0, 0))
  below : Below w.heap.size w wx
  ne : gs ≠ gr
  lo : w.heap.size ≤ gs
  lor : w.heap.size ≤ gr
structure One (w : World) (gr : Nat) (wx : World) : Prop where
  res : wx.heap[gr]? = some (.cells (Spc.cells Spc.zero) 26 (0, 0))
  below : Below w.heap.size w wx
  lor : w.heap.size ≤ gr
theorem Two.start (w : World) : Two w (w.heap.size + 1) w.heap.size Spc.zero ((w.alloc (.cells (Spc.cells Spc.zero) 26)).alloc (.cells (Spc.cells Spc.zero) 26)) := by
  have h1 := heap_alloc_new w (.cells (Spc.cells Spc.zero) 26)
  have hb1 := (Below.refl w.heap.size w).alloc (Nat.le_refl _) (.cells (Spc.cells Spc.zero) 26)
  have hz : (w.alloc (.cells (Spc.cells Spc.zero) 26)).heap.size = w.heap.size + 1 := by simp
  generalize w.alloc (.cells (Spc.cells Spc.zero) 26) = w1 at *
  have h2 := heap_alloc_new w1 (.cells (Spc.cells Spc.zero) 26)
  have hb2 := (Below.refl w1.heap.size w1).alloc (Nat.le_refl _) (.cells (Spc.cells Spc.zero) 26)
  rw [hz] at h2
  exact ⟨h2, (hb2.block w.heap.size (by omega)).trans h1, hb1.trans (hb2.mono (by omega)), by omega, by omega, Nat.le_refl _⟩
theorem Two.on {w wx w' : World} {gs gr : Nat} {o : Spc.Sp} (h : Two w gs gr o wx) (hb : Below wx.heap.size wx w') : Two w gs gr o w' :=
  ⟨(hb.block gs (Array.getElem?_eq_some_iff.1 h.at_).1).trans h.at_, (hb.block gr (Array.getElem?_eq_some_iff.1 h.res).1).trans h.res, h.below.trans (hb.mono h.below.size), h.ne, h.lo, h.lor⟩
theorem Two.set {w wx : World} {gs gr : Nat} {o : Spc.Sp} (h : Two w gs gr o wx) (o' : Spc.Sp) (k : Nat) (v : Int) (he : (Spc.cells o).setIfInBounds k (.int .i64 v) = Spc.cells o') : Two w gs gr o' (wx.setCell ⟨gs, k, none⟩ (.int .i64 v)) := by
  refine ⟨?_, ?_, h.below.setCell h.lo _, h.ne, h.lo, h.lor⟩
  · rw [← he]; exact heap_setCell_same wx gs k _ _ _ h.at_
  · exact ((grown_set wx gs k _).block gr (Array.getElem?_eq_some_iff.1 h.res).1 (by simp; exact fun e => h.ne e.symm)).trans h.res
theorem cells_put {l : List Int} (hl : l.length = 12) {j : Nat} (hj : j < 12) : (Spc.cells (Spc.of (l.take j))).setIfInBounds j (.int .i64 (l.getD j 0)) = Spc.cells (Spc.of (l.take (j + 1))) := by
  obtain ⟨l0, l1, l2, l3, l4, l5, l6, l7, l8, l9, l10, l11, rfl⟩ := twelve hl
  rcases j with _ | _ | _ | _ | _ | _ | _ | _ | _ | _ | _ | _ | j <;> first | rfl | omega
theorem of_take_zero (l : List Int) : Spc.of (l.take 0) = Spc.zero := rfl
theorem of_take_all {l : List Int} (hl : l.length = 12) : Spc.of (l.take 12) = Spc.of l := by rw [List.take_of_length_le (by omega)]
set_option maxRecDepth 100000 in
set_option maxHeartbeats 3200000 in
theorem make_any (l : List Int) (A : Option Addr) (n c : Nat) (w : World) (h : SlI w A n c l) (hn : n ≤ 1000) : Calls Try.prog 17 #[.slice A n c] w (APos w (.tuple #[Spc.val (mkS l), .int .i64 (mkE l)])) := by
  have hlen := h.len
  by_cases h12 : l.length = 12
  · have HV : Hid (Spc.val (mkS l) = Spc.val (Spc.of l) ∧ mkE l = 0) := by
      unfold mkS mkE
      show _ ∧ _
      rw [if_pos h12, if_pos h12]; exact ⟨rfl, rfl⟩
    obtain ⟨b, off, rfl, hbl, hc⟩ := h.rd (by omega)
    have hcap := h.cap
    have hmax := h.max
    unfold maxLen at hmax
    have H12 := Lib.hid h12
    have HC : Hid (∀ W, Below w.heap.size w W → ∀ j, j < 12 → W.cell? ⟨b, off + j, none⟩ = some (.int .i64 (l.getD j 0))) := fun W hW j hj => (hW.cell (p := ⟨b, off + j, none⟩) hbl).trans (hc j (by omega))
    obtain rfl : n = 12 := by omega
    have CN : Hid (∀ g W, Calls Try.prog 40 #[.pointer (some ⟨g, 0, none⟩)] W fun e w' => e = .returned (.agg (ptrs g)) ∧ Below W.heap.size W w') := numbers_any
    rw [HV.out.2]
    clear h hc hbl hlen h12 hn
    have P1 : Hid (Two w (w.heap.size + 1) w.heap.size Spc.zero ((w.alloc (.cells #[.int .i64 0, .int .i64 0, .int .i64 0, .int .i64 0, .int .i64 0, .int .i64 0, .int .i64 0, .int .i64 0, .int .i64 0, .int .i64 0, .int .i64 0, .int .i64 0] 26)).alloc (.cells #[.int .i64 0, .int .i64 0, .int .i64 0, .int .i64 0, .int .i64 0, .int .i64 0, .int .i64 0, .int .i64 0, .int .i64 0, .int .i64 0, .int .i64 0, .int .i64 0] 26))) := Two.start w
    obtain ⟨gr, hgr⟩ : ∃ gr, gr = w.heap.size := ⟨_, rfl⟩
    obtain ⟨gs, hgs⟩ : ∃ gs, gs = w.heap.size + 1 := ⟨_, rfl⟩
    rw [← hgs, ← hgr] at P1
    have GR := Lib.hid hgr
    have GS := Lib.hid hgs
    clear hgr hgs
    go_enter Try.func17, Try.ntmps17
    go_wp2_with fail
    rw [← GS.out, ← GR.out]
    generalize (w.alloc (.cells #[.int .i64 0, .int .i64 0, .int .i64 0, .int .i64 0, .int .i64 0, .int .i64 0, .int .i64 0, .int .i64 0, .int .i64 0, .int .i64 0, .int .i64 0, .int .i64 0] 26)).alloc (.cells #[.int .i64 0, .int .i64 0, .int .i64 0, .int .i64 0, .int .i64 0, .int .i64 0, .int .i64 0, .int .i64 0, .int .i64 0, .int .i64 0, .int .i64 0, .int .i64 0] 26) = w1 at *
    refine (CN.out gs w1).mono ?_
    rintro e w2 ⟨rfl, hb2⟩
    have P2 := Lib.hid (P1.out.on hb2)
    clear hb2 P1 CN GR GS
    go_wp2_with fail
    go_loopw [12] (fun i wr => ∃ (j : Nat), j ≤ 12 ∧ i = .int .i64 (j : Nat) ∧ Two w gs gr (Spc.of (l.take j)) wr) (fun i _ => 12 - (intOf i).toNat)
    case atStart => exact ⟨0, by omega, rfl, P2.out⟩
    case round =>
      obtain ⟨j, hj, rfl, hp⟩ := hrel
      have P := Lib.hid hp
      clear hp P2
      by_cases hlt : j < 12
      · have hpj := fun W => ptrs_run gs j hlt W
        have hcj := HC.out wr P.out.below j hlt
        have hcg := sp_at (spAt_of P.out.at_) hlt
        have hfg : wr.frozen? ⟨gs, j, none⟩ = false := frozen_of_row wr gs _ _ _ P.out.at_
        have PX := Lib.hid (P.out.set _ j _ (cells_put H12.out hlt))
        obtain ⟨x, hx⟩ : ∃ x, x = l.getD j 0 := ⟨_, rfl⟩
        rw [← hx] at hcj PX
        have i1 : (0 : Int) ≤ (j : Int) := by omega
        have i2 : (j : Int) < 12 := by omega
        clear hx
        go_wp2_with fail
        exact ⟨⟨j + 1, by omega, by go_num, PX.out⟩, by simp [intOf]; omega⟩
      · obtain rfl : j = 12 := by omega
        have hp := P.out
        rw [of_take_all H12.out] at hp
        obtain ⟨o, ho⟩ : ∃ o, o = Spc.of l := ⟨_, rfl⟩
        rw [← ho] at hp HV
        have PE := Lib.hid hp
        clear hp P ho
        obtain ⟨f0, f1, f2, f3, f4, f5, f6, f7, f8, f9, f10, f11⟩ := spAt_of PE.out.at_
        obtain ⟨q0, q1, q2, q3, q4, q5, q6, q7, q8, q9, q10, q11⟩ := spAt_of (s := Spc.zero) PE.out.res
        obtain ⟨y0, y1, y2, y3, y4, y5, y6, y7, y8, y9, y10, y11⟩ := spFz_of PE.out.res
        simp only [Spc.zero] at q0 q1 q2 q3 q4 q5 q6 q7 q8 q9 q10 q11
        have hP := puts_sp (s := o) (r := Spc.zero) PE.out.res
        have hG := puts_grown gr (Spc.cells o).toList 0 wr
        obtain ⟨W9, hW⟩ : ∃ W9, W9 = puts wr gr 0 (Spc.cells o).toList := ⟨_, rfl⟩
        rw [← hW] at hP hG
        have hB := PE.out.below.grown hG PE.out.below.size (fun i hi => by injection hi with hi; have := PE.out.lor; omega)
        have key : ((((((((((((wr.setCell ⟨gr, 0, none⟩ (.int .i64 o.v)).setCell ⟨gr, 1, none⟩ (.int .i64 o.d)).setCell ⟨gr, 2, none⟩ (.int .i64 o.u)).setCell ⟨gr, 3, none⟩ (.int .i64 o.n)).setCell ⟨gr, 4, none⟩ (.int .i64 o.g)).setCell ⟨gr, 5, none⟩ (.int .i64 o.a)).setCell ⟨gr, 6, none⟩ (.int .i64 o.b)).setCell ⟨gr, 7, none⟩ (.int .i64 o.c)).setCell ⟨gr, 8, none⟩ (.int .i64 o.e)).setCell ⟨gr, 9, none⟩ (.int .i64 o.w)).setCell ⟨gr, 10, none⟩ (.int .i64 o.x)).setCell ⟨gr, 11, none⟩ (.int .i64 o.k)) = W9 := by rw [hW]; rfl
        have KEY := Lib.hid key
        have HP := Lib.hid hP
        have HB := Lib.hid hB
        clear hP hG hW hB key PE
        go_wp2_with fail
        rw [KEY.out]
        clear f0 f1 f2 f3 f4 f5 f6 f7 f8 f9 f10 f11 q0 q1 q2 q3 q4 q5 q6 q7 q8 q9 q10 q11 y0 y1 y2 y3 y4 y5 y6 y7 y8 y9 y10 y11 KEY
        obtain ⟨f0, f1, f2, f3, f4, f5, f6, f7, f8, f9, f10, f11⟩ := spAt_of (s := o) HP.out
        exact bodyPost_ret (v := .tuple #[.agg #[.int .i64 o.v, .int .i64 o.d, .int .i64 o.u, .int .i64 o.n, .int .i64 o.g, .int .i64 o.a, .int .i64 o.b, .int .i64 o.c, .int .i64 o.e, .int .i64 o.w, .int .i64 o.x, .int .i64 o.k], .int .i64 0]) (by simp [results, Try.results17, go_sem, f0, f1, f2, f3, f4, f5, f6, f7, f8, f9, f10, f11]) rfl ⟨by rw [HV.out.1]; rfl, HB.out⟩
  · have HV : Hid (Spc.val (mkS l) = .agg #[.int .i64 0, .int .i64 0, .int .i64 0, .int .i64 0, .int .i64 0, .int .i64 0, .int .i64 0, .int .i64 0, .int .i64 0, .int .i64 0, .int .i64 0, .int .i64 0] ∧ mkE l = 1) := by
      unfold mkS mkE
      show _ ∧ _
      rw [if_neg h12, if_neg h12]; exact ⟨rfl, rfl⟩
    have hn12 : ¬ (n : Int) = 12 := by omega
    have hcap := h.cap
    have hmax := h.max
    unfold maxLen at hmax
    have HB := Lib.hid ((Below.refl w.heap.size w).alloc (Nat.le_refl _) (.cells #[.int .i64 0, .int .i64 0, .int .i64 0, .int .i64 0, .int .i64 0, .int .i64 0, .int .i64 0, .int .i64 0, .int .i64 0, .int .i64 0, .int .i64 0, .int .i64 0] 26))
    rw [HV.out.1, HV.out.2]
    clear h hlen h12 HV
    go_enter Try.func17, Try.ntmps17
    go_wp2_with fail
    exact bodyPost_ret (v := .tuple #[.agg #[.int .i64 0, .int .i64 0, .int .i64 0, .int .i64 0, .int .i64 0, .int .i64 0, .int .i64 0, .int .i64 0, .int .i64 0, .int .i64 0, .int .i64 0, .int .i64 0], .int .i64 1]) (by simp [results, Try.results17, go_sem]) rfl ⟨rfl, HB.out⟩
end Go.Proofs.Ytifokcpkamdkeaa
namespace Go.Proofs.Ytifokcpkamdkeaa
open Go.RowKit Cdc
namespace Rc
abbrev By (s : St) : Prop := ∀ x ∈ s.l, x < 256
theorem num_only {s : St} (hb : By s) (h : (num s).e = 0) : s.e = 0 ∧ s.l = digs (numV s) ++ (num s).l ∧ By (num s) := by
  unfold num at h ⊢
  unfold numV
  by_cases he : s.e = 0
  · rw [if_pos he] at h ⊢
    rw [if_pos he]
    by_cases hd : dk s.l = 0
    · rw [if_pos hd] at h; cases h
    · rw [if_neg hd, digs_dn hb hd]
      exact ⟨he, (List.take_append_drop _ _).symm, fun x hx => hb x (List.mem_of_mem_drop hx)⟩
  · rw [if_neg he] at h; exact absurd h he
theorem nums_only {s : St} (hb : By s) : ∀ k, (numsAt s k).e = 0 → s.e = 0 ∧ s.l = (numsV s k).flatMap digs ++ (numsAt s k).l ∧ By (numsAt s k)
  | 0, h => ⟨h, rfl, hb⟩
  | k + 1, h => by
    have hx : (num (numsAt s k)).e = 0 := h
    have hk : (numsAt s k).e = 0 := by
      by_cases hk : (numsAt s k).e = 0
      · exact hk
      · rw [num_err hk] at hx; exact hx
    obtain ⟨h1, h2, h3⟩ := nums_only hb k hk
    obtain ⟨h4, h5, h6⟩ := num_only h3 hx
    refine ⟨h1, ?_, h6⟩
    show s.l = (numsV s k ++ [numV (numsAt s k)]).flatMap digs ++ (num (numsAt s k)).l
    rw [List.flatMap_append, List.append_assoc, List.flatMap_cons, List.flatMap_nil, List.append_nil, ← h5]
    exact h2
theorem cnt_only {s : St} (hb : By s) (h : (cnt s).e = 0) : s.e = 0 ∧ s.l = digs (cntV s) ++ (cnt s).l ∧ By (cnt s) := by
  unfold cnt at h ⊢
  unfold cntV
  by_cases hc : numV s ≤ 64
  · rw [if_pos hc] at h ⊢
    rw [if_pos hc]
    exact num_only hb h
  · rw [if_neg hc] at h; cases h
theorem tk_only {s : St} (hb : By s) {n : Nat} (h : (tk s n).e = 0) : s.e = 0 ∧ s.l = tkV s n ++ (tk s n).l ∧ (tkV s n).length = n ∧ By (tk s n) := by
  unfold tk at h ⊢
  unfold tkV
  by_cases he : s.e = 0
  · rw [if_pos he] at h ⊢
    rw [if_pos he]
    by_cases hn : n ≤ s.l.length
    · rw [if_pos hn, if_pos hn]
      exact ⟨he, (List.take_append_drop _ _).symm, by rw [List.length_take]; omega, fun x hx => hb x (List.mem_of_mem_drop hx)⟩
    · rw [if_neg hn] at h; cases h
  · rw [if_neg he] at h; exact absurd h he
theorem text_only {s : St} (hb : By s) (h : (Cdc.text s).e = 0) : s.e = 0 ∧ s.l = digs (textV s).length ++ (textV s ++ (Cdc.text s).l) ∧ By (Cdc.text s) := by
  by_cases hc : (cnt s).e = 0
  · obtain ⟨h1, h2, h3⟩ := cnt_only hb hc
    obtain ⟨h4, h5, h6, h7⟩ := tk_only (n := cntV s) h3 h
    refine ⟨h1, ?_, h7⟩
    show s.l = digs (tkV (cnt s) (cntV s)).length ++ (tkV (cnt s) (cntV s) ++ (tk (cnt s) (cntV s)).l)
    rw [h6, ← h5]
    exact h2
  · have : (tk (cnt s) (cntV s)).e = 0 := h
    unfold tk at this
    rw [if_neg hc] at this
    exact absurd this hc
theorem list_only {s : St} (hb : By s) (h : (Cdc.list s).e = 0) : s.e = 0 ∧ s.l = digs (listV s).length ++ ((listV s).flatMap digs ++ (Cdc.list s).l) := by
  obtain ⟨h4, h5, h6⟩ : (cnt s).e = 0 ∧ (By (cnt s) → (cnt s).l = (numsV (cnt s) (cntV s)).flatMap digs ++ (numsAt (cnt s) (cntV s)).l) ∧ True := by
    by_cases hc : (cnt s).e = 0
    · exact ⟨hc, fun h3 => (nums_only h3 (cntV s) h).2.1, trivial⟩
    · have h0 : (numsAt (cnt s) 0).e ≠ 0 := hc
      have := numsAt_err h0 (cntV s)
      rw [Nat.zero_add] at this
      have hx : (numsAt (cnt s) (cntV s)).e = 0 := h
      rw [this] at hx
      exact absurd hx hc
  obtain ⟨h1, h2, h3⟩ := cnt_only hb h4
  refine ⟨h1, ?_⟩
  have e1 : listV s = numsV (cnt s) (cntV s) := by unfold listV; rw [if_pos h]
  rw [e1, numsV_length]
  show s.l = digs (cntV s) ++ ((numsV (cnt s) (cntV s)).flatMap digs ++ (numsAt (cnt s) (cntV s)).l)
  rw [← h5 h3]
  exact h2
theorem fl_nI (l : List Nat) : fl (nI l) = l.flatMap digs := by
  rw [fl_nat]
  unfold nI
  rw [List.map_map]
  congr 1
  induction l with
  | nil => rfl
  | cons x t ih => rw [List.map_cons, ih]; rfl
theorem sb_txt {l : List Nat} (h : ∀ x ∈ l, x < 256) : sb (txt l) = l := by
  have : txt (sb (txt l)) = txt l := txt_sb _
  have h2 := txt_eq (sb_byte (txt l)) h
  rw [this] at h2
  have h3 : ((txt l).toList == (txt l).toList) = true := by simp
  rw [h3] at h2
  exact of_decide_eq_true h2.symm
theorem five {l : List Int} (h : l.length = 5) : [l.getD 0 0, l.getD 1 0, l.getD 2 0, l.getD 3 0, l.getD 4 0] = l := by
  match l, h with
  | [a, b, c, d, e], _ => rfl
theorem whole_of {l : List Nat} (hb : ∀ x ∈ l, x < 256) (he : endE (k3 l) = 0) (hr : right (dec l) = true) : whole l := by
  refine ⟨hr, ?_⟩
  have h3 : (k3 l).e = 0 ∧ (k3 l).l = [] := by
    unfold endE at he
    split at he
    · cases he
    · exact ⟨he, List.length_eq_zero_iff.1 (by omega)⟩
  have hv : (nI (numsV ⟨l, 0⟩ 5)).length = 5 := by rw [nI_length, numsV_length]
  have hn : nums (dec l) = v1 l := five hv
  have hkk : (dec l).kind = (v1 l).getD 0 0 := rfl
  have key : (k2 l).e = 0 ∧ (By (k2 l) → (k2 l).l = (if (dec l).kind = 3 then digs 12 ++ fl (Spc.flds (dec l).sp) else [])) := by
    unfold k3 at h3
    by_cases hk : (v1 l).getD 0 0 = 3
    · rw [if_pos hk] at h3
      have hm : Spc.May (dec l).sp := (ok_of hr).begin_ (hkk.trans hk)
      have hl : (listV (k2 l)).length = 12 := by
        by_cases hl : (listV (k2 l)).length = 12
        · exact hl
        · exfalso
          have e0 : (dec l).sp = Spc.zero := by
            show s3 l = _
            unfold s3
            rw [if_pos hk, if_neg hl]
          rw [e0] at hm
          have := Spc.chk_of hm
          revert this
          decide
      have es : (dec l).sp = Spc.of (nI (listV (k2 l))) := by
        show s3 l = _
        unfold s3
        rw [if_pos hk, if_pos hl]
      have he2 : (k2 l).e = 0 := by
        by_cases h2 : (k2 l).e = 0
        · exact h2
        · exfalso
          have hx : (Cdc.list (k2 l)).e = 0 := h3.1
          have hc : cnt (k2 l) = k2 l := by
            unfold cnt
            rw [numV_err h2, if_pos (by omega), num_err h2]
          have h0 : (numsAt (cnt (k2 l)) 0).e ≠ 0 := by rw [hc]; exact h2
          have := numsAt_err h0 (cntV (k2 l))
          rw [Nat.zero_add] at this
          have hx2 : (numsAt (cnt (k2 l)) (cntV (k2 l))).e = 0 := hx
          rw [this] at hx2
          exact h0 hx2
      refine ⟨he2, fun h2 => ?_⟩
      have := (list_only h2 h3.1).2
      rw [h3.2, List.append_nil, hl] at this
      rw [this, if_pos (hkk.trans hk), es, Spc.flds_of (by rw [nI_length]; exact hl), fl_nI]
    · rw [if_neg hk] at h3
      exact ⟨h3.1, fun _ => by rw [h3.2, if_neg (fun h => hk (hkk.symm.trans h))]⟩
  have ht : (Cdc.text (k1 l)).e = 0 := key.1
  have h1e : (numsAt ⟨l, 0⟩ 5).e = 0 := by
    by_cases h1 : (k1 l).e = 0
    · exact h1
    · exfalso
      have hc : cnt (k1 l) = k1 l := by
        unfold cnt
        rw [numV_err h1, if_pos (by omega), num_err h1]
      have hx : (tk (cnt (k1 l)) (cntV (k1 l))).e = 0 := ht
      rw [hc] at hx
      unfold tk at hx
      rw [if_neg h1] at hx
      exact h1 hx
  obtain ⟨_, ha, hb1⟩ := nums_only (s := ⟨l, 0⟩) hb 5 h1e
  obtain ⟨_, hc, hb2⟩ := text_only (s := k1 l) hb1 ht
  have hd := key.2 hb2
  have htv : ∀ x ∈ textV (k1 l), x < 256 := fun x hx => hb1 x (by
    rw [show (numsAt ⟨l, 0⟩ 5).l = (k1 l).l from rfl, hc]
    exact List.mem_append_right _ (List.mem_append_left _ hx))
  unfold bytes
  rw [← hd, hn]
  have e5 : (dec l).text = txt (textV (k1 l)) := rfl
  rw [e5, txt_size, sb_txt htv, List.append_assoc]
  have e6 : (k2 l).l = (Cdc.text (k1 l)).l := rfl
  rw [e6, ← hc]
  have e7 : fl (v1 l) = (numsV ⟨l, 0⟩ 5).flatMap digs := fl_nI _
  rw [e7]
  exact ha.symm
end Rc
end Go.Proofs.Ytifokcpkamdkeaa
namespace Go.Proofs.Ytifokcpkamdkeaa
open Go.RowKit Cdc
set_option linter.unusedSimpArgs false
set_option linter.unusedVariables false

namespace Rc
/-- The record of the first numbers. -/
def pt (v : List Int) : R := ⟨v.getD 0 0, v.getD 1 0, v.getD 2 0, v.getD 3 0, v.getD 4 0, ⟨#[]⟩, Spc.zero⟩
theorem pt_next {v : List Int} {k : Nat} (x : Int) (hk : v.length = k) (h : k < 5) : (cells (pt v)).setIfInBounds k (.int .i64 x) = cells (pt (v ++ [x])) := by
  subst hk
  match v, h with
  | [], _ => rfl
  | [_], _ => rfl
  | [_, _], _ => rfl
  | [_, _, _], _ => rfl
  | [_, _, _, _], _ => rfl
theorem no_byte (o : R) (x : Int) : ∀ v ∈ (cells o).toList, v ≠ .int .u8 x := by
  intro v hv e
  subst e
  simp [cells] at hv
theorem listV_len (s : St) : (listV s).length ≤ 64 := by
  unfold listV
  split
  · rw [numsV_length]; exact cntV_le s
  · simp
end Rc
/-- A reader stays where a cell of a record is stored. -/
theorem rdr_far {w : World} {r g : Nat} {s : St} {o : Rc.R} (h : Rdr w r s) (hg : RcAt w g o) (hne : r ≠ g) (k : Nat) (v : Value) : Rdr (w.setCell ⟨g, k, none⟩ v) r s := by
  obtain ⟨A, c, h1, h2, h3, h4, h5⟩ := h
  have G := grown_set w g k v
  refine ⟨A, c, (G.block r (Array.getElem?_eq_some_iff.1 h1).1 (by simp; exact hne)).trans h1, ⟨h2.1, fun hl => ?_⟩, h3, h4, h5⟩
  obtain ⟨b, o', e, hb, hc⟩ := h2.2 hl
  have hbg : b ≠ g := fun e => by
    subst e
    have h0 := hc 0 hl
    rw [cell_of_row w b (o' + 0) _ _ _ hg.row] at h0
    exact Rc.no_byte o _ _ (Array.mem_toList_iff.2 (Array.mem_of_getElem? h0)) rfl
  refine ⟨b, o', e, hb, fun j hj => ?_⟩
  have hbs : b < w.heap.size := Nat.lt_trans hb (Array.getElem?_eq_some_iff.1 h1).1
  rw [← hc j hj]
  exact World.cell?_of_block (w := w) (G.block b hbs (by simp; exact hbg))
theorem rc_grown {w w' : World} {g r : Nat} {o : Rc.R} (h : RcAt w g o) (hg : w.grownBy w' (some r)) (hne : g ≠ r) : RcAt w' g o := ⟨(hg.block g h.cs.lt (by simp; exact hne)).trans h.row⟩
theorem rc_frz {w : World} {g : Nat} {o : Rc.R} (h : RcAt w g o) (i : Nat) : w.frozen? ⟨g, i, none⟩ = false := frozen_of_row w g i _ _ h.row
set_option maxRecDepth 100000 in
set_option maxHeartbeats 6400000 in
theorem kread_any : RcRd := by
  intro W A n c l h hn
  obtain rfl : n = l.length := h.len
  have HL : Hid (l.length ≤ 1000) := hn
  have HB : Hid (∀ x ∈ l, x < 256) := h.rd.1
  obtain ⟨gr, hgr⟩ : ∃ gr, gr = W.heap.size := ⟨_, rfl⟩
  obtain ⟨g, hg⟩ : ∃ g, g = gr + 1 := ⟨_, rfl⟩
  have BA := (Below.refl W.heap.size W).alloc (Nat.le_refl _) (.cells #[.int .i64 0, .int .i64 0, .int .i64 0, .int .i64 0, .int .i64 0, .string ⟨#[]⟩, .int .i64 0, .int .i64 0, .int .i64 0, .int .i64 0, .int .i64 0, .int .i64 0, .int .i64 0, .int .i64 0, .int .i64 0, .int .i64 0, .int .i64 0, .int .i64 0] 28)
  have BB := (Below.refl (W.alloc (.cells #[.int .i64 0, .int .i64 0, .int .i64 0, .int .i64 0, .int .i64 0, .string ⟨#[]⟩, .int .i64 0, .int .i64 0, .int .i64 0, .int .i64 0, .int .i64 0, .int .i64 0, .int .i64 0, .int .i64 0, .int .i64 0, .int .i64 0, .int .i64 0, .int .i64 0] 28)).heap.size (W.alloc (.cells #[.int .i64 0, .int .i64 0, .int .i64 0, .int .i64 0, .int .i64 0, .string ⟨#[]⟩, .int .i64 0, .int .i64 0, .int .i64 0, .int .i64 0, .int .i64 0, .int .i64 0, .int .i64 0, .int .i64 0, .int .i64 0, .int .i64 0, .int .i64 0, .int .i64 0] 28))).alloc (Nat.le_refl _) (.cells #[.int .i64 0, .int .i64 0, .int .i64 0, .int .i64 0, .int .i64 0, .string ⟨#[]⟩, .int .i64 0, .int .i64 0, .int .i64 0, .int .i64 0, .int .i64 0, .int .i64 0, .int .i64 0, .int .i64 0, .int .i64 0, .int .i64 0, .int .i64 0, .int .i64 0] 28)
  have BX := BA.trans (BB.mono BA.size)
  have E1 : (W.alloc (.cells #[.int .i64 0, .int .i64 0, .int .i64 0, .int .i64 0, .int .i64 0, .string ⟨#[]⟩, .int .i64 0, .int .i64 0, .int .i64 0, .int .i64 0, .int .i64 0, .int .i64 0, .int .i64 0, .int .i64 0, .int .i64 0, .int .i64 0, .int .i64 0, .int .i64 0] 28)).heap.size = g := by rw [hg, hgr]; exact World.size_alloc _ _
  have R0 : RcAt ((W.alloc (.cells #[.int .i64 0, .int .i64 0, .int .i64 0, .int .i64 0, .int .i64 0, .string ⟨#[]⟩, .int .i64 0, .int .i64 0, .int .i64 0, .int .i64 0, .int .i64 0, .int .i64 0, .int .i64 0, .int .i64 0, .int .i64 0, .int .i64 0, .int .i64 0, .int .i64 0] 28)).alloc (.cells #[.int .i64 0, .int .i64 0, .int .i64 0, .int .i64 0, .int .i64 0, .string ⟨#[]⟩, .int .i64 0, .int .i64 0, .int .i64 0, .int .i64 0, .int .i64 0, .int .i64 0, .int .i64 0, .int .i64 0, .int .i64 0, .int .i64 0, .int .i64 0, .int .i64 0] 28)) g (Rc.pt []) := by
    have := heap_alloc_new (W.alloc (.cells #[.int .i64 0, .int .i64 0, .int .i64 0, .int .i64 0, .int .i64 0, .string ⟨#[]⟩, .int .i64 0, .int .i64 0, .int .i64 0, .int .i64 0, .int .i64 0, .int .i64 0, .int .i64 0, .int .i64 0, .int .i64 0, .int .i64 0, .int .i64 0, .int .i64 0] 28)) (.cells #[.int .i64 0, .int .i64 0, .int .i64 0, .int .i64 0, .int .i64 0, .string ⟨#[]⟩, .int .i64 0, .int .i64 0, .int .i64 0, .int .i64 0, .int .i64 0, .int .i64 0, .int .i64 0, .int .i64 0, .int .i64 0, .int .i64 0, .int .i64 0, .int .i64 0] 28)
    rw [E1] at this
    exact ⟨this⟩
  have X0 : RcAt ((W.alloc (.cells #[.int .i64 0, .int .i64 0, .int .i64 0, .int .i64 0, .int .i64 0, .string ⟨#[]⟩, .int .i64 0, .int .i64 0, .int .i64 0, .int .i64 0, .int .i64 0, .int .i64 0, .int .i64 0, .int .i64 0, .int .i64 0, .int .i64 0, .int .i64 0, .int .i64 0] 28)).alloc (.cells #[.int .i64 0, .int .i64 0, .int .i64 0, .int .i64 0, .int .i64 0, .string ⟨#[]⟩, .int .i64 0, .int .i64 0, .int .i64 0, .int .i64 0, .int .i64 0, .int .i64 0, .int .i64 0, .int .i64 0, .int .i64 0, .int .i64 0, .int .i64 0, .int .i64 0] 28)) gr Rc.none_ := by
    have h1 : RcAt (W.alloc (.cells #[.int .i64 0, .int .i64 0, .int .i64 0, .int .i64 0, .int .i64 0, .string ⟨#[]⟩, .int .i64 0, .int .i64 0, .int .i64 0, .int .i64 0, .int .i64 0, .int .i64 0, .int .i64 0, .int .i64 0, .int .i64 0, .int .i64 0, .int .i64 0, .int .i64 0] 28)) W.heap.size Rc.none_ := ⟨heap_alloc_new W (.cells #[.int .i64 0, .int .i64 0, .int .i64 0, .int .i64 0, .int .i64 0, .string ⟨#[]⟩, .int .i64 0, .int .i64 0, .int .i64 0, .int .i64 0, .int .i64 0, .int .i64 0, .int .i64 0, .int .i64 0, .int .i64 0, .int .i64 0, .int .i64 0, .int .i64 0] 28)⟩
    rw [hgr]
    exact h1.on BB
  have SX : ((W.alloc (.cells #[.int .i64 0, .int .i64 0, .int .i64 0, .int .i64 0, .int .i64 0, .string ⟨#[]⟩, .int .i64 0, .int .i64 0, .int .i64 0, .int .i64 0, .int .i64 0, .int .i64 0, .int .i64 0, .int .i64 0, .int .i64 0, .int .i64 0, .int .i64 0, .int .i64 0] 28)).alloc (.cells #[.int .i64 0, .int .i64 0, .int .i64 0, .int .i64 0, .int .i64 0, .string ⟨#[]⟩, .int .i64 0, .int .i64 0, .int .i64 0, .int .i64 0, .int .i64 0, .int .i64 0, .int .i64 0, .int .i64 0, .int .i64 0, .int .i64 0, .int .i64 0, .int .i64 0] 28)).heap.size = g + 1 := by rw [World.size_alloc, E1]
  have SL := h.on BX
  go_enter Try.func7, Try.ntmps7
  go_upto_region 2 with fail
  simp only [World.size_alloc, ← hgr, ← hg] at ⊢
  clear E1 BA BB
  generalize (W.alloc (.cells #[.int .i64 0, .int .i64 0, .int .i64 0, .int .i64 0, .int .i64 0, .string ⟨#[]⟩, .int .i64 0, .int .i64 0, .int .i64 0, .int .i64 0, .int .i64 0, .int .i64 0, .int .i64 0, .int .i64 0, .int .i64 0, .int .i64 0, .int .i64 0, .int .i64 0] 28)).alloc (.cells #[.int .i64 0, .int .i64 0, .int .i64 0, .int .i64 0, .int .i64 0, .string ⟨#[]⟩, .int .i64 0, .int .i64 0, .int .i64 0, .int .i64 0, .int .i64 0, .int .i64 0, .int .i64 0, .int .i64 0, .int .i64 0, .int .i64 0, .int .i64 0, .int .i64 0] 28) = X at *
  have HG : Hid (W.heap.size ≤ gr ∧ W.heap.size ≤ g ∧ gr ≠ g) := ⟨by omega, by omega, by omega⟩
  have HGX : Hid (g < X.heap.size ∧ gr < X.heap.size) := ⟨by omega, by omega⟩
  clear hgr hg h hn SX
  have RA := Lib.hid R0
  have RX := Lib.hid X0
  have B1 := Lib.hid BX
  have CR := Lib.hid (reader_any l.length c A l X SL (by have := HL.out; omega))
  have CNB := Lib.hid (fun W => rnumbers_any g W)
  clear R0 X0 BX SL
  go_wp2_with (first
    | (go_at_call 13; (with_reducible refine CR.out.mono ?_); rintro e w2 ⟨rd, rfl, hrd, hge, hb⟩; have RR := Lib.hid hrd; have HR : Hid (g ≠ rd ∧ gr ≠ rd ∧ W.heap.size ≤ rd) := ⟨by have := HGX.out; omega, by have := HGX.out; omega, by have := HGX.out; have := HG.out; omega⟩; have RA := Lib.hid (RA.out.on hb); have RX := Lib.hid (RX.out.on hb); have B1 := Lib.hid (B1.out.trans (hb.mono B1.out.size)); clear hrd hge hb)
    | (go_at_call 14; (with_reducible refine (CNB.out _).mono ?_); rintro e w3 ⟨rfl, hb⟩; have RR := Lib.hid (RR.out.below hb); have RA := Lib.hid (RA.out.on hb); have RX := Lib.hid (RX.out.on hb); have B1 := Lib.hid (B1.out.trans (hb.mono B1.out.size)); clear hb))
  go_loopw [11] (fun i wr => ∃ k : Nat, k ≤ 5 ∧ i = .int .i64 k ∧ RcAt wr g (Rc.pt (nI (numsV ⟨l, 0⟩ k))) ∧ RcAt wr gr Rc.none_ ∧ Rdr wr rd (numsAt ⟨l, 0⟩ k) ∧ Below W.heap.size W wr) (fun i _ => 5 - (intOf i).toNat)
  case atStart => exact ⟨0, by omega, rfl, RA.out, RX.out, RR.out, B1.out⟩
  case round =>
    obtain ⟨k, hk, rfl, hra, hrx, hrr, hbr⟩ := hrel
    clear RA RX RR B1 CR CNB
    have RA := Lib.hid hra
    have RX := Lib.hid hrx
    have RR := Lib.hid hrr
    have B1 := Lib.hid hbr
    clear hra hrx hrr hbr
    by_cases hlt : k < 5
    · have hpj := fun W => rptrs_run g k hlt W
      have CN := Lib.hid (numb_any wr rd (numsAt ⟨l, 0⟩ k) RR.out (Nat.le_trans (nums_len ⟨l, 0⟩ k) (Nat.le_trans HL.out (by omega))))
      have HX : Hid (nI (numsV ⟨l, 0⟩ (k + 1)) = nI (numsV ⟨l, 0⟩ k) ++ [((numV (numsAt ⟨l, 0⟩ k) : Nat) : Int)]) := nI_snoc _ _
      have HLN : Hid ((nI (numsV ⟨l, 0⟩ k)).length = k) := by show _ = _; rw [nI_length, numsV_length]
      have HT : Hid (num (numsAt ⟨l, 0⟩ k) = numsAt ⟨l, 0⟩ (k + 1)) := rfl
      rw [HT.out] at CN
      generalize numV (numsAt ⟨l, 0⟩ k) = x at *
      go_wp2_with (go_at_call 15; (with_reducible refine CN.out.mono ?_); rintro e w4 ⟨rfl, hr4, hg4⟩; have RR4 := Lib.hid hr4; have RA4 := Lib.hid (rc_grown RA.out hg4 HR.out.1); have RX4 := Lib.hid (rc_grown RX.out hg4 HR.out.2.1); have B4 := Lib.hid (B1.out.grown hg4 B1.out.size (fun i hi => by injection hi with hi; have := HR.out; omega)); have hcj := rc_at RA4.out hlt; have hfz := rc_frz RA4.out k; clear hr4 hg4)
      refine ⟨⟨k + 1, by omega, by go_num, ?_, rc_far RX4.out HG.out.2.2 _ _, rdr_far RR4.out RA4.out (fun e => HR.out.1 e.symm) _ _, B4.out.setCell (p := ⟨g, k, none⟩) HG.out.2.1 _⟩, by simp [intOf]; omega⟩
      rw [HX.out]
      exact rc_set RA4.out _ k _ (Rc.pt_next _ HLN.out hlt)
    · obtain rfl : k = 5 := by omega
      clear hk hlt
      have EK1 : Hid (numsAt ⟨l, 0⟩ 5 = Rc.k1 l) := rfl
      have EV1 : Hid (nI (numsV ⟨l, 0⟩ 5) = Rc.v1 l) := rfl
      have LK : Hid ((Rc.k1 l).l.length ≤ 1000) := Nat.le_trans (nums_len ⟨l, 0⟩ 5) HL.out
      rw [EK1.out] at RR
      rw [EV1.out] at RA
      have CT := Lib.hid (rtext_any wr rd (Rc.k1 l) RR.out (Nat.le_trans LK.out (by omega)))
      have ET : Hid (text (Rc.k1 l) = Rc.k2 l) := rfl
      have ETV : Hid (txt (textV (Rc.k1 l)) = Rc.t2 l) := rfl
      have LK2 : Hid ((Rc.k2 l).l.length ≤ 1000) := Nat.le_trans (text_less _) LK.out
      unfold TextPost at CT
      rw [ET.out, ETV.out] at CT
      obtain ⟨kd, hkd⟩ : ∃ kd, kd = (Rc.v1 l).getD 0 0 := ⟨_, rfl⟩
      obtain ⟨x1, hx1⟩ : ∃ x, x = (Rc.v1 l).getD 1 0 := ⟨_, rfl⟩
      obtain ⟨x2, hx2⟩ : ∃ x, x = (Rc.v1 l).getD 2 0 := ⟨_, rfl⟩
      obtain ⟨x3, hx3⟩ : ∃ x, x = (Rc.v1 l).getD 3 0 := ⟨_, rfl⟩
      obtain ⟨x4, hx4⟩ : ∃ x, x = (Rc.v1 l).getD 4 0 := ⟨_, rfl⟩
      have EDEC : Hid (Rc.dec l = ⟨kd, x1, x2, x3, x4, Rc.t2 l, Rc.s3 l⟩) := by rw [hkd, hx1, hx2, hx3, hx4]; rfl
      have EK3 : Hid (Rc.k3 l = if kd = 3 then list (Rc.k2 l) else Rc.k2 l) := by rw [hkd]; rfl
      have ES3 : Hid (Rc.s3 l = if kd = 3 then (if (listV (Rc.k2 l)).length = 12 then Spc.of (nI (listV (Rc.k2 l))) else Spc.zero) else Spc.zero) := by rw [hkd]; rfl
      have EPT : Rc.pt (Rc.v1 l) = ⟨kd, x1, x2, x3, x4, ⟨#[]⟩, Spc.zero⟩ := by rw [hkd, hx1, hx2, hx3, hx4]; rfl
      rw [EPT] at RA
      clear hkd hx1 hx2 hx3 hx4 EPT
      generalize Rc.t2 l = tt at *
      go_upto_region 9 with (go_at_call 16; (with_reducible refine CT.out.mono ?_); rintro e w5 ⟨rfl, hr5, hg5⟩; have RR5 := Lib.hid hr5; have RA5 := Lib.hid (rc_grown RA.out hg5 HR.out.1); have RX5 := Lib.hid (rc_grown RX.out hg5 HR.out.2.1); have B5 := Lib.hid (B1.out.grown hg5 B1.out.size (fun i hi => by injection hi with hi; have := HR.out; omega)); clear hr5 hg5; obtain ⟨c0, c1, c2, c3, c4, c5, c6, c7, c8, c9, c10, c11, c12, c13, c14, c15, c16, c17, clt⟩ := RA5.out.cs; have hfz := rc_frz RA5.out 5)
      clear c0 c1 c2 c3 c4 c5 c6 c7 c8 c9 c10 c11 c12 c13 c14 c15 c16 c17 clt hfz
      have RR6 := Lib.hid (rdr_far RR5.out RA5.out (fun e => HR.out.1 e.symm) 5 (.string tt))
      have RA6 := Lib.hid (rc_set RA5.out ⟨kd, x1, x2, x3, x4, tt, Spc.zero⟩ 5 (.string tt) rfl)
      have RX6 := Lib.hid (rc_far RX5.out HG.out.2.2 5 (.string tt))
      have B6 := Lib.hid (B5.out.setCell (p := ⟨g, 5, none⟩) HG.out.2.1 (.string tt))
      clear RR5 RA5 RX5 B5 RR RA RX B1 CT LK ET ETV EK1 EV1
      generalize w5.setCell ⟨g, 5, none⟩ (.string tt) = w6 at *
      obtain ⟨c0, c1, c2, c3, c4, c5, c6, c7, c8, c9, c10, c11, c12, c13, c14, c15, c16, c17, clt⟩ := RA6.out.cs
      simp only at c0
      go_upto_if 24 with fail
      clear c0 c1 c2 c3 c4 c5 c6 c7 c8 c9 c10 c11 c12 c13 c14 c15 c16 c17 clt
      go_cut [] from 24 to 32 (fun wx => RcAt wx g (Rc.dec l) ∧ RcAt wx gr Rc.none_ ∧ Rdr wx rd (Rc.k3 l) ∧ Below W.heap.size W wx)
      case first =>
        by_cases hk : kd = 3
        · have hke : (kd == 3) = true := by rw [beq_iff_eq]; exact hk
          rw [if_pos hk] at EK3 ES3
          clear hk
          have CLS := Lib.hid (rlist_any w6 rd (Rc.k2 l) RR6.out (Nat.le_trans LK2.out (by omega)))
          have L64 := Lib.hid (Rc.listV_len (Rc.k2 l))
          unfold ListPost at CLS
          rw [← EK3.out] at CLS
          have EMK : Hid (mkS (nI (listV (Rc.k2 l))) = Rc.s3 l) := by
            show _ = _
            rw [ES3.out]
            unfold mkS
            rw [nI_length]
          have CM := Lib.hid (fun W A c h => make_any (nI (listV (Rc.k2 l))) A (listV (Rc.k2 l)).length c W h (by have := L64.out; omega))
          rw [EMK.out] at CM
          generalize Rc.s3 l = sp at *
          obtain ⟨pv, pd, pu, pn, pg, pa, pb, pc, pe, pw, px, pk⟩ := sp
          unfold APos Spc.val Spc.cells at CM
          simp only at CM
          generalize mkE (nI (listV (Rc.k2 l))) = me at *
          go_wp2_with (first
            | (go_at_call 18; (with_reducible refine CLS.out.mono ?_); rintro e w7 ⟨A7, k7, rfl, hs7, hr7, hg7⟩; have S7 := Lib.hid hs7; have RR7 := Lib.hid hr7; have R7 := Lib.hid (rc_grown RA6.out hg7 HR.out.1); have RX7 := Lib.hid (rc_grown RX6.out hg7 HR.out.2.1); have B7 := Lib.hid (B6.out.grown hg7 B6.out.size (fun i hi => by injection hi with hi; have := HR.out; omega)); clear hs7 hr7 hg7)
            | (go_at_call 17; (with_reducible refine (CM.out _ _ _ S7.out).mono ?_); rintro e w8 ⟨rfl, hb8⟩; have RR7 := Lib.hid (RR7.out.below hb8); have R7 := Lib.hid (R7.out.on hb8); have RX7 := Lib.hid (RX7.out.on hb8); have B7 := Lib.hid (B7.out.trans (hb8.mono B7.out.size)); clear hb8; have hz := fun i => rc_frz R7.out i; obtain ⟨c0, c1, c2, c3, c4, c5, c6, c7, c8, c9, c10, c11, c12, c13, c14, c15, c16, c17, clt⟩ := R7.out.cs))
          have RR7 := Lib.hid (rdr_far RR7.out R7.out (by have := HR.out; omega) 6 (.int .i64 pv))
          have R7 := Lib.hid (rc_set R7.out ⟨kd, x1, x2, x3, x4, tt, ⟨pv, 0, 0, 0, 0, 0, 0, 0, 0, 0, 0, 0⟩⟩ 6 (.int .i64 pv) rfl)
          have RX7 := Lib.hid (rc_far RX7.out (g := g) (by have := HG.out; omega) 6 (.int .i64 pv))
          have B7 := Lib.hid (B7.out.setCell (p := ⟨g, 6, none⟩) HG.out.2.1 (.int .i64 pv))
          have RR7 := Lib.hid (rdr_far RR7.out R7.out (by have := HR.out; omega) 7 (.int .i64 pd))
          have R7 := Lib.hid (rc_set R7.out ⟨kd, x1, x2, x3, x4, tt, ⟨pv, pd, 0, 0, 0, 0, 0, 0, 0, 0, 0, 0⟩⟩ 7 (.int .i64 pd) rfl)
          have RX7 := Lib.hid (rc_far RX7.out (g := g) (by have := HG.out; omega) 7 (.int .i64 pd))
          have B7 := Lib.hid (B7.out.setCell (p := ⟨g, 7, none⟩) HG.out.2.1 (.int .i64 pd))
          have RR7 := Lib.hid (rdr_far RR7.out R7.out (by have := HR.out; omega) 8 (.int .i64 pu))
          have R7 := Lib.hid (rc_set R7.out ⟨kd, x1, x2, x3, x4, tt, ⟨pv, pd, pu, 0, 0, 0, 0, 0, 0, 0, 0, 0⟩⟩ 8 (.int .i64 pu) rfl)
          have RX7 := Lib.hid (rc_far RX7.out (g := g) (by have := HG.out; omega) 8 (.int .i64 pu))
          have B7 := Lib.hid (B7.out.setCell (p := ⟨g, 8, none⟩) HG.out.2.1 (.int .i64 pu))
          have RR7 := Lib.hid (rdr_far RR7.out R7.out (by have := HR.out; omega) 9 (.int .i64 pn))
          have R7 := Lib.hid (rc_set R7.out ⟨kd, x1, x2, x3, x4, tt, ⟨pv, pd, pu, pn, 0, 0, 0, 0, 0, 0, 0, 0⟩⟩ 9 (.int .i64 pn) rfl)
          have RX7 := Lib.hid (rc_far RX7.out (g := g) (by have := HG.out; omega) 9 (.int .i64 pn))
          have B7 := Lib.hid (B7.out.setCell (p := ⟨g, 9, none⟩) HG.out.2.1 (.int .i64 pn))
          have RR7 := Lib.hid (rdr_far RR7.out R7.out (by have := HR.out; omega) 10 (.int .i64 pg))
          have R7 := Lib.hid (rc_set R7.out ⟨kd, x1, x2, x3, x4, tt, ⟨pv, pd, pu, pn, pg, 0, 0, 0, 0, 0, 0, 0⟩⟩ 10 (.int .i64 pg) rfl)
          have RX7 := Lib.hid (rc_far RX7.out (g := g) (by have := HG.out; omega) 10 (.int .i64 pg))
          have B7 := Lib.hid (B7.out.setCell (p := ⟨g, 10, none⟩) HG.out.2.1 (.int .i64 pg))
          have RR7 := Lib.hid (rdr_far RR7.out R7.out (by have := HR.out; omega) 11 (.int .i64 pa))
          have R7 := Lib.hid (rc_set R7.out ⟨kd, x1, x2, x3, x4, tt, ⟨pv, pd, pu, pn, pg, pa, 0, 0, 0, 0, 0, 0⟩⟩ 11 (.int .i64 pa) rfl)
          have RX7 := Lib.hid (rc_far RX7.out (g := g) (by have := HG.out; omega) 11 (.int .i64 pa))
          have B7 := Lib.hid (B7.out.setCell (p := ⟨g, 11, none⟩) HG.out.2.1 (.int .i64 pa))
          have RR7 := Lib.hid (rdr_far RR7.out R7.out (by have := HR.out; omega) 12 (.int .i64 pb))
          have R7 := Lib.hid (rc_set R7.out ⟨kd, x1, x2, x3, x4, tt, ⟨pv, pd, pu, pn, pg, pa, pb, 0, 0, 0, 0, 0⟩⟩ 12 (.int .i64 pb) rfl)
          have RX7 := Lib.hid (rc_far RX7.out (g := g) (by have := HG.out; omega) 12 (.int .i64 pb))
          have B7 := Lib.hid (B7.out.setCell (p := ⟨g, 12, none⟩) HG.out.2.1 (.int .i64 pb))
          have RR7 := Lib.hid (rdr_far RR7.out R7.out (by have := HR.out; omega) 13 (.int .i64 pc))
          have R7 := Lib.hid (rc_set R7.out ⟨kd, x1, x2, x3, x4, tt, ⟨pv, pd, pu, pn, pg, pa, pb, pc, 0, 0, 0, 0⟩⟩ 13 (.int .i64 pc) rfl)
          have RX7 := Lib.hid (rc_far RX7.out (g := g) (by have := HG.out; omega) 13 (.int .i64 pc))
          have B7 := Lib.hid (B7.out.setCell (p := ⟨g, 13, none⟩) HG.out.2.1 (.int .i64 pc))
          have RR7 := Lib.hid (rdr_far RR7.out R7.out (by have := HR.out; omega) 14 (.int .i64 pe))
          have R7 := Lib.hid (rc_set R7.out ⟨kd, x1, x2, x3, x4, tt, ⟨pv, pd, pu, pn, pg, pa, pb, pc, pe, 0, 0, 0⟩⟩ 14 (.int .i64 pe) rfl)
          have RX7 := Lib.hid (rc_far RX7.out (g := g) (by have := HG.out; omega) 14 (.int .i64 pe))
          have B7 := Lib.hid (B7.out.setCell (p := ⟨g, 14, none⟩) HG.out.2.1 (.int .i64 pe))
          have RR7 := Lib.hid (rdr_far RR7.out R7.out (by have := HR.out; omega) 15 (.int .i64 pw))
          have R7 := Lib.hid (rc_set R7.out ⟨kd, x1, x2, x3, x4, tt, ⟨pv, pd, pu, pn, pg, pa, pb, pc, pe, pw, 0, 0⟩⟩ 15 (.int .i64 pw) rfl)
          have RX7 := Lib.hid (rc_far RX7.out (g := g) (by have := HG.out; omega) 15 (.int .i64 pw))
          have B7 := Lib.hid (B7.out.setCell (p := ⟨g, 15, none⟩) HG.out.2.1 (.int .i64 pw))
          have RR7 := Lib.hid (rdr_far RR7.out R7.out (by have := HR.out; omega) 16 (.int .i64 px))
          have R7 := Lib.hid (rc_set R7.out ⟨kd, x1, x2, x3, x4, tt, ⟨pv, pd, pu, pn, pg, pa, pb, pc, pe, pw, px, 0⟩⟩ 16 (.int .i64 px) rfl)
          have RX7 := Lib.hid (rc_far RX7.out (g := g) (by have := HG.out; omega) 16 (.int .i64 px))
          have B7 := Lib.hid (B7.out.setCell (p := ⟨g, 16, none⟩) HG.out.2.1 (.int .i64 px))
          have RR7 := Lib.hid (rdr_far RR7.out R7.out (by have := HR.out; omega) 17 (.int .i64 pk))
          have R7 := Lib.hid (rc_set R7.out ⟨kd, x1, x2, x3, x4, tt, ⟨pv, pd, pu, pn, pg, pa, pb, pc, pe, pw, px, pk⟩⟩ 17 (.int .i64 pk) rfl)
          have RX7 := Lib.hid (rc_far RX7.out (g := g) (by have := HG.out; omega) 17 (.int .i64 pk))
          have B7 := Lib.hid (B7.out.setCell (p := ⟨g, 17, none⟩) HG.out.2.1 (.int .i64 pk))
          go_meet
          case rel => exact ⟨by rw [EDEC.out]; exact R7.out, RX7.out, RR7.out, B7.out⟩
        · have hke : (kd == 3) = false := by rw [beq_eq_false_iff_ne]; exact hk
          rw [if_neg hk] at EK3 ES3
          clear hk
          go_wp2_with fail
          go_meet
          case rel => exact ⟨by rw [EDEC.out, ES3.out]; exact RA6.out, RX6.out, by rw [EK3.out]; exact RR6.out, B6.out⟩
      case rest =>
        obtain ⟨hra, hrx, hrr, hbr⟩ := hcut
        clear RA6 RX6 RR6 B6 EK3 ES3 EDEC LK2
        have RA := Lib.hid hra
        have RX := Lib.hid hrx
        have B1 := Lib.hid hbr
        have CE := Lib.hid (end_any wc rd (Rc.k3 l) hrr)
        have CRT := Lib.hid (fun W => kright_any (Rc.dec l) (Rc.dec_in l) W)
        clear hra hrx hrr hbr
        by_cases hee : endE (Rc.k3 l) = 0
        · rw [hee] at CE
          cases hr : Rc.right (Rc.dec l) with
          | true =>
            rw [hr] at CRT
            have RDV : Hid (Rc.rdV l = Rc.dec l ∧ Rc.rdE l = 0) := Rc.rd_yes (Rc.whole_of HB.out hee hr)
            clear hee hr
            go_wp2_with (first
              | (go_at_call 19; (with_reducible refine CE.out.mono ?_); rintro e w8 ⟨rfl, rfl⟩)
              | ((with_reducible show wpList _ _ _ ({ dst := some 36, op := .load _ _, type := _, pos := _, after := _, guard := _ } :: _) _ _); refine wpList_load_want (by rfl) 28 (.tmp 4) rfl g rfl 28 _ (0, 0) _ RA.out.row rec_fields rfl (rec_size (Rc.dec l)) ?_)
              | (go_at_call 11; (with_reducible refine (CRT.out _).mono ?_); rintro e w9 ⟨rfl, hb9⟩; have RA9 := Lib.hid (RA.out.on hb9); have RX9 := Lib.hid (RX.out.on hb9); have B9 := Lib.hid (B1.out.trans (hb9.mono B1.out.size)); clear hb9)
              | ((with_reducible show wpList _ _ _ ({ dst := some 41, op := .load _ _, type := _, pos := _, after := _, guard := _ } :: _) _ _); refine wpList_load_row rfl 28 (.tmp 4) rfl g rfl 28 _ (0, 0) _ RA9.out.row rec_fields rfl (rec_size (Rc.dec l)) ?_)
              | ((with_reducible show wpList _ _ _ ({ dst := none, op := .store _ _ _, type := _, pos := _, after := _, guard := _ } :: _) _ _); refine wpList_store_rec rfl (.tmp 2) (.tmp 41) rfl gr (Rc.dec l) _ rfl rfl RX9.out ?_))
            exact bodyPost_ret (rc_results Try.results7 _ _ gr (Rc.dec l) rfl ⟨setRow_heap _ gr _ _ _ _ RX9.out.row⟩) rfl ⟨by rw [RDV.out.1, RDV.out.2]; rfl, below_setRow B9.out HG.out.1 _⟩
          | false =>
            rw [hr] at CRT
            have RDV : Hid (Rc.rdV l = Rc.none_ ∧ Rc.rdE l = 2) := Rc.rd_no (fun h => by rw [h.1] at hr; cases hr)
            clear hee hr
            go_wp2_with (first
              | (go_at_call 19; (with_reducible refine CE.out.mono ?_); rintro e w8 ⟨rfl, rfl⟩)
              | ((with_reducible show wpList _ _ _ ({ dst := some 36, op := .load _ _, type := _, pos := _, after := _, guard := _ } :: _) _ _); refine wpList_load_want (by rfl) 28 (.tmp 4) rfl g rfl 28 _ (0, 0) _ RA.out.row rec_fields rfl (rec_size (Rc.dec l)) ?_)
              | (go_at_call 11; (with_reducible refine (CRT.out _).mono ?_); rintro e w9 ⟨rfl, hb9⟩; have RX9 := Lib.hid (RX.out.on hb9); have B9 := Lib.hid (B1.out.trans (hb9.mono B1.out.size)); clear hb9)
              | ((with_reducible show wpList _ _ _ ({ dst := none, op := .store _ _ _, type := _, pos := _, after := _, guard := _ } :: _) _ _); refine wpList_store_rec rfl (.tmp 2) (.tmp 40) rfl gr Rc.none_ _ rfl rfl RX9.out ?_))
            exact bodyPost_ret (rc_results Try.results7 _ _ gr Rc.none_ rfl ⟨setRow_heap _ gr _ _ _ _ RX9.out.row⟩) rfl ⟨by rw [RDV.out.1, RDV.out.2]; rfl, below_setRow B9.out HG.out.1 _⟩
        · have hne : (endE (Rc.k3 l) != 0) = true := by rw [bne_iff_ne]; exact hee
          have RDV : Hid (Rc.rdV l = Rc.none_ ∧ Rc.rdE l = 2) := Rc.rd_no (fun h => hee (Rc.whole_end h))
          clear hee CRT
          generalize endE (Rc.k3 l) = ee at *
          go_wp2_with (first
            | (go_at_call 19; (with_reducible refine CE.out.mono ?_); rintro e w8 ⟨rfl, rfl⟩)
            | ((with_reducible show wpList _ _ _ ({ dst := none, op := .store _ _ _, type := _, pos := _, after := _, guard := _ } :: _) _ _); refine wpList_store_rec rfl (.tmp 2) (.tmp 40) rfl gr Rc.none_ _ rfl rfl RX.out ?_))
          exact bodyPost_ret (rc_results Try.results7 _ _ gr Rc.none_ rfl ⟨setRow_heap _ gr _ _ _ _ RX.out.row⟩) rfl ⟨by rw [RDV.out.1, RDV.out.2]; rfl, below_setRow B1.out HG.out.1 _⟩
end Go.Proofs.Ytifokcpkamdkeaa
namespace Go.Proofs.Ytifokcpkamdkeaa
theorem rcrd_any : RcRd := kread_any
end Go.Proofs.Ytifokcpkamdkeaa
