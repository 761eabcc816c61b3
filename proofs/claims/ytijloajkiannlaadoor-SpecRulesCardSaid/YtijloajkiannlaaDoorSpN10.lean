/-
  The developers' package spec: the spec of a text.
-/
import Derived.Test.YtijloajkiannlaaDoorSpN5
import Derived.Test.YtijloajkiannlaaDoorSpN9
import Derived.Test.YtijloajkiannlaaDoorSpRef8
import Derived.Deep.Cut
namespace Go.Proofs.YtijloajkiannlaaDoor
open Go.RowKit
set_option linter.unusedSimpArgs false
set_option linter.unusedVariables false

theorem rf_form {t : List Nat} (h : rfE t ≠ 0) : rfE t = 2 ∧ Spc.rdE t = 2 ∧ Spc.rdV t = Spc.zero ∧ rfS t = Spc.zero := by
  have h1 : (Spc.words t).length ≠ 12 ∨ ¬ (∀ u ∈ Spc.words t, Spc.numB u = true) := by
    unfold rfE at h
    by_cases hc : (Spc.words t).length ≠ 12 ∨ ¬ (∀ u ∈ Spc.words t, Spc.numB u = true)
    · exact hc
    · rw [if_neg hc] at h; exact absurd rfl h
  have e1 : rfE t = 2 := by unfold rfE; rw [if_pos h1]
  have e2 : Spc.rdE t = 2 := by unfold Spc.rdE; rw [if_pos h1]
  refine ⟨e1, e2, ?_, ?_⟩
  · unfold Spc.rdV; rw [if_neg (by rw [e2]; omega)]
  · unfold rfS; rw [if_neg (by rw [e1]; omega)]
theorem rf_spec {t : List Nat} (h : rfE t = 0) : Spc.rdE t = Spc.chkE (Spc.rdS t) ∧ rfS t = Spc.rdS t := by
  have h1 : ¬ ((Spc.words t).length ≠ 12 ∨ ¬ (∀ u ∈ Spc.words t, Spc.numB u = true)) := by
    unfold rfE at h
    by_cases hc : (Spc.words t).length ≠ 12 ∨ ¬ (∀ u ∈ Spc.words t, Spc.numB u = true)
    · rw [if_pos hc] at h; omega
    · exact hc
  refine ⟨?_, ?_⟩
  · unfold Spc.rdE; rw [if_neg h1]
  · unfold rfS; rw [if_pos h]
set_option maxRecDepth 100000 in
set_option maxHeartbeats 3200000 in
theorem read_any (t : List Nat) (hb : ∀ x ∈ t, x < 256) (hl : t.length ≤ 1000) (w : World) (ht : Tb w) : Calls Tryd.prog 8 #[.string (txt t)] w (RPost t w) := by
  have CF := Lib.hid (fun W (h : Tb W) => readForm_any t hb hl W h)
  have HT1 := Lib.hid (ht.on ((Below.refl w.heap.size w).alloc (Nat.le_refl _) (.cells #[.int .i64 0, .int .i64 0, .int .i64 0, .int .i64 0, .int .i64 0, .int .i64 0, .int .i64 0, .int .i64 0, .int .i64 0, .int .i64 0, .int .i64 0, .int .i64 0] 25)))
  have HB1 := Lib.hid ((Below.refl w.heap.size w).alloc (Nat.le_refl _) (.cells #[.int .i64 0, .int .i64 0, .int .i64 0, .int .i64 0, .int .i64 0, .int .i64 0, .int .i64 0, .int .i64 0, .int .i64 0, .int .i64 0, .int .i64 0, .int .i64 0] 25))
  have CC := Lib.hid (fun W => check_any (Spc.rdS t) (rdS_in hb) W)
  unfold RPost
  clear ht
  by_cases he : rfE t = 0
  · obtain ⟨h1, h2⟩ := rf_spec he
    rw [he, h2] at CF
    unfold CPost at CC
    obtain ⟨o, ho⟩ : ∃ o, o = Spc.rdS t := ⟨_, rfl⟩
    rw [← ho] at CF CC h1
    rw [show Spc.val o = .agg #[.int .i64 o.v, .int .i64 o.d, .int .i64 o.u, .int .i64 o.n, .int .i64 o.g, .int .i64 o.a, .int .i64 o.b, .int .i64 o.c, .int .i64 o.e, .int .i64 o.w, .int .i64 o.x, .int .i64 o.k] from rfl] at CF CC
    by_cases hc : Spc.chk o = 0
    · have e0 : Spc.chkE o = 0 := by unfold Spc.chkE; rw [if_pos hc]
      have HV : Hid (Spc.rdV t = o ∧ Spc.rdE t = 0) := by
        show _ ∧ _
        refine ⟨?_, by rw [h1, e0]⟩
        unfold Spc.rdV
        rw [if_pos (by rw [h1, e0]), ho]
      rw [hc, e0] at CC
      clear he h1 h2 hc e0 ho hb
      go_enter Tryd.func8, Tryd.ntmps8
      go_wp2_with fail
      have hr1 := heap_alloc_new w (.cells (Spc.cells Spc.zero) 25)
      have HR1 : Hid ((w.alloc (.cells #[.int .i64 0, .int .i64 0, .int .i64 0, .int .i64 0, .int .i64 0, .int .i64 0, .int .i64 0, .int .i64 0, .int .i64 0, .int .i64 0, .int .i64 0, .int .i64 0] 25)).heap[w.heap.size]? = some (.cells (Spc.cells Spc.zero) 25 (0, 0))) := hr1
      obtain ⟨gr, hgr⟩ : ∃ gr, gr = w.heap.size := ⟨_, rfl⟩
      rw [← hgr] at HR1 ⊢
      have GR := Lib.hid hgr
      clear hr1 hgr
      generalize w.alloc (.cells #[.int .i64 0, .int .i64 0, .int .i64 0, .int .i64 0, .int .i64 0, .int .i64 0, .int .i64 0, .int .i64 0, .int .i64 0, .int .i64 0, .int .i64 0, .int .i64 0] 25) = w1 at *
      refine (CF.out w1 HT1.out).mono ?_
      rintro e w2 ⟨rfl, hb2⟩
      have HR2 : Hid (w2.heap[gr]? = some (.cells (Spc.cells Spc.zero) 25 (0, 0))) := (hb2.block gr (Array.getElem?_eq_some_iff.1 HR1.out).1).trans HR1.out
      have B2 := Lib.hid (HB1.out.trans (hb2.mono HB1.out.size))
      have LR : Hid (gr < w2.heap.size) := (Array.getElem?_eq_some_iff.1 HR2.out).1
      clear hb2 HR1 HB1 HT1 CF
      obtain ⟨gs, hgs⟩ : ∃ gs, gs = w2.heap.size := ⟨_, rfl⟩
      have P3 : Hid (Two w gs gr o (w2.alloc (.cells #[.int .i64 o.v, .int .i64 o.d, .int .i64 o.u, .int .i64 o.n, .int .i64 o.g, .int .i64 o.a, .int .i64 o.b, .int .i64 o.c, .int .i64 o.e, .int .i64 o.w, .int .i64 o.x, .int .i64 o.k] 25))) := by
        have hb3 := (Below.refl w2.heap.size w2).alloc (Nat.le_refl _) (.cells (Spc.cells o) 25)
        have h3 := heap_alloc_new w2 (.cells (Spc.cells o) 25)
        rw [← hgs] at h3
        exact ⟨h3, (hb3.block gr LR.out).trans HR2.out, B2.out.trans (hb3.mono B2.out.size), by have := LR.out; omega, by rw [hgs]; exact B2.out.size, by rw [GR.out]; exact Nat.le_refl _⟩
      have GS := Lib.hid hgs
      clear hgs HR2 B2 LR GR
      go_wp2_with fail
      rw [← GS.out]
      generalize w2.alloc (.cells #[.int .i64 o.v, .int .i64 o.d, .int .i64 o.u, .int .i64 o.n, .int .i64 o.g, .int .i64 o.a, .int .i64 o.b, .int .i64 o.c, .int .i64 o.e, .int .i64 o.w, .int .i64 o.x, .int .i64 o.k] 25) = w3 at *
      refine (CC.out w3).mono ?_
      rintro e w4 ⟨rfl, hb4⟩
      have P4 := Lib.hid (P3.out.on hb4)
      clear hb4 P3 GS
      go_upto_region 7 with fail
      obtain ⟨f0, f1, f2, f3, f4, f5, f6, f7, f8, f9, f10, f11⟩ := spAt_of P4.out.at_
      obtain ⟨q0, q1, q2, q3, q4, q5, q6, q7, q8, q9, q10, q11⟩ := spAt_of (s := Spc.zero) P4.out.res
      obtain ⟨y0, y1, y2, y3, y4, y5, y6, y7, y8, y9, y10, y11⟩ := spFz_of P4.out.res
      simp only [Spc.zero] at q0 q1 q2 q3 q4 q5 q6 q7 q8 q9 q10 q11
      have hP := puts_sp (s := o) (r := Spc.zero) P4.out.res
      have hG := puts_grown gr (Spc.cells o).toList 0 w4
      obtain ⟨W9, hW⟩ : ∃ W9, W9 = puts w4 gr 0 (Spc.cells o).toList := ⟨_, rfl⟩
      rw [← hW] at hP hG
      have hB := P4.out.below.grown hG P4.out.below.size (fun i hi => by injection hi with hi; have := P4.out.lor; omega)
      have key : ((((((((((((w4.setCell ⟨gr, 0, none⟩ (.int .i64 o.v)).setCell ⟨gr, 1, none⟩ (.int .i64 o.d)).setCell ⟨gr, 2, none⟩ (.int .i64 o.u)).setCell ⟨gr, 3, none⟩ (.int .i64 o.n)).setCell ⟨gr, 4, none⟩ (.int .i64 o.g)).setCell ⟨gr, 5, none⟩ (.int .i64 o.a)).setCell ⟨gr, 6, none⟩ (.int .i64 o.b)).setCell ⟨gr, 7, none⟩ (.int .i64 o.c)).setCell ⟨gr, 8, none⟩ (.int .i64 o.e)).setCell ⟨gr, 9, none⟩ (.int .i64 o.w)).setCell ⟨gr, 10, none⟩ (.int .i64 o.x)).setCell ⟨gr, 11, none⟩ (.int .i64 o.k)) = W9 := by rw [hW]; rfl
      have KEY := Lib.hid key
      have HP := Lib.hid hP
      have HB := Lib.hid hB
      clear hP hG hW hB key P4
      go_wp2_with fail
      rw [KEY.out]
      clear f0 f1 f2 f3 f4 f5 f6 f7 f8 f9 f10 f11 q0 q1 q2 q3 q4 q5 q6 q7 q8 q9 q10 q11 y0 y1 y2 y3 y4 y5 y6 y7 y8 y9 y10 y11 KEY
      obtain ⟨f0, f1, f2, f3, f4, f5, f6, f7, f8, f9, f10, f11⟩ := spAt_of (s := o) HP.out
      exact bodyPost_ret (v := .tuple #[.agg #[.int .i64 o.v, .int .i64 o.d, .int .i64 o.u, .int .i64 o.n, .int .i64 o.g, .int .i64 o.a, .int .i64 o.b, .int .i64 o.c, .int .i64 o.e, .int .i64 o.w, .int .i64 o.x, .int .i64 o.k], .int .i64 0]) (by simp [results, Tryd.results8, go_sem, f0, f1, f2, f3, f4, f5, f6, f7, f8, f9, f10, f11]) rfl ⟨by rw [HV.out.1, HV.out.2]; rfl, HB.out⟩
    · have e0 : Spc.chkE o = 11 := by unfold Spc.chkE; rw [if_neg hc]
      have HV : Hid (Spc.val (Spc.rdV t) = .agg #[.int .i64 0, .int .i64 0, .int .i64 0, .int .i64 0, .int .i64 0, .int .i64 0, .int .i64 0, .int .i64 0, .int .i64 0, .int .i64 0, .int .i64 0, .int .i64 0] ∧ Spc.rdE t = 11) := by
        show _ ∧ _
        refine ⟨?_, by rw [h1, e0]⟩
        unfold Spc.rdV
        rw [if_neg (by rw [h1, e0]; omega)]; rfl
      rw [e0] at CC
      clear he h1 h2 hc e0 ho hb
      generalize Spc.chk o = kk at CC
      go_enter Tryd.func8, Tryd.ntmps8
      go_wp2_with fail
      have hr1 := heap_alloc_new w (.cells (Spc.cells Spc.zero) 25)
      have HR1 : Hid ((w.alloc (.cells #[.int .i64 0, .int .i64 0, .int .i64 0, .int .i64 0, .int .i64 0, .int .i64 0, .int .i64 0, .int .i64 0, .int .i64 0, .int .i64 0, .int .i64 0, .int .i64 0] 25)).heap[w.heap.size]? = some (.cells (Spc.cells Spc.zero) 25 (0, 0))) := hr1
      obtain ⟨gr, hgr⟩ : ∃ gr, gr = w.heap.size := ⟨_, rfl⟩
      rw [← hgr] at HR1 ⊢
      have GR := Lib.hid hgr
      clear hr1 hgr
      generalize w.alloc (.cells #[.int .i64 0, .int .i64 0, .int .i64 0, .int .i64 0, .int .i64 0, .int .i64 0, .int .i64 0, .int .i64 0, .int .i64 0, .int .i64 0, .int .i64 0, .int .i64 0] 25) = w1 at *
      refine (CF.out w1 HT1.out).mono ?_
      rintro e w2 ⟨rfl, hb2⟩
      have HR2 : Hid (w2.heap[gr]? = some (.cells (Spc.cells Spc.zero) 25 (0, 0))) := (hb2.block gr (Array.getElem?_eq_some_iff.1 HR1.out).1).trans HR1.out
      have B2 := Lib.hid (HB1.out.trans (hb2.mono HB1.out.size))
      have LR : Hid (gr < w2.heap.size) := (Array.getElem?_eq_some_iff.1 HR2.out).1
      clear hb2 HR1 HB1 HT1 CF
      obtain ⟨gs, hgs⟩ : ∃ gs, gs = w2.heap.size := ⟨_, rfl⟩
      have P3 : Hid (Two w gs gr o (w2.alloc (.cells #[.int .i64 o.v, .int .i64 o.d, .int .i64 o.u, .int .i64 o.n, .int .i64 o.g, .int .i64 o.a, .int .i64 o.b, .int .i64 o.c, .int .i64 o.e, .int .i64 o.w, .int .i64 o.x, .int .i64 o.k] 25))) := by
        have hb3 := (Below.refl w2.heap.size w2).alloc (Nat.le_refl _) (.cells (Spc.cells o) 25)
        have h3 := heap_alloc_new w2 (.cells (Spc.cells o) 25)
        rw [← hgs] at h3
        exact ⟨h3, (hb3.block gr LR.out).trans HR2.out, B2.out.trans (hb3.mono B2.out.size), by have := LR.out; omega, by rw [hgs]; exact B2.out.size, by rw [GR.out]; exact Nat.le_refl _⟩
      have GS := Lib.hid hgs
      clear hgs HR2 B2 LR GR
      go_wp2_with fail
      rw [← GS.out]
      generalize w2.alloc (.cells #[.int .i64 o.v, .int .i64 o.d, .int .i64 o.u, .int .i64 o.n, .int .i64 o.g, .int .i64 o.a, .int .i64 o.b, .int .i64 o.c, .int .i64 o.e, .int .i64 o.w, .int .i64 o.x, .int .i64 o.k] 25) = w3 at *
      refine (CC.out w3).mono ?_
      rintro e w4 ⟨rfl, hb4⟩
      have P4 := Lib.hid (P3.out.on hb4)
      clear hb4 P3 GS
      go_upto_region 6 with fail
      obtain ⟨q0, q1, q2, q3, q4, q5, q6, q7, q8, q9, q10, q11⟩ := spAt_of (s := Spc.zero) P4.out.res
      obtain ⟨y0, y1, y2, y3, y4, y5, y6, y7, y8, y9, y10, y11⟩ := spFz_of P4.out.res
      simp only [Spc.zero] at q0 q1 q2 q3 q4 q5 q6 q7 q8 q9 q10 q11
      have hP := puts_sp (s := Spc.zero) (r := Spc.zero) P4.out.res
      have hG := puts_grown gr (Spc.cells Spc.zero).toList 0 w4
      obtain ⟨W9, hW⟩ : ∃ W9, W9 = puts w4 gr 0 (Spc.cells Spc.zero).toList := ⟨_, rfl⟩
      rw [← hW] at hP hG
      have hB := P4.out.below.grown hG P4.out.below.size (fun i hi => by injection hi with hi; have := P4.out.lor; omega)
      have key : ((((((((((((w4.setCell ⟨gr, 0, none⟩ (.int .i64 0)).setCell ⟨gr, 1, none⟩ (.int .i64 0)).setCell ⟨gr, 2, none⟩ (.int .i64 0)).setCell ⟨gr, 3, none⟩ (.int .i64 0)).setCell ⟨gr, 4, none⟩ (.int .i64 0)).setCell ⟨gr, 5, none⟩ (.int .i64 0)).setCell ⟨gr, 6, none⟩ (.int .i64 0)).setCell ⟨gr, 7, none⟩ (.int .i64 0)).setCell ⟨gr, 8, none⟩ (.int .i64 0)).setCell ⟨gr, 9, none⟩ (.int .i64 0)).setCell ⟨gr, 10, none⟩ (.int .i64 0)).setCell ⟨gr, 11, none⟩ (.int .i64 0)) = W9 := by rw [hW]; rfl
      have KEY := Lib.hid key
      have HP := Lib.hid hP
      have HB := Lib.hid hB
      clear hP hG hW hB key P4
      go_wp2_with fail
      rw [KEY.out]
      clear  q0 q1 q2 q3 q4 q5 q6 q7 q8 q9 q10 q11 y0 y1 y2 y3 y4 y5 y6 y7 y8 y9 y10 y11 KEY
      obtain ⟨f0, f1, f2, f3, f4, f5, f6, f7, f8, f9, f10, f11⟩ := spAt_of (s := Spc.zero) HP.out
      simp only [Spc.zero] at f0 f1 f2 f3 f4 f5 f6 f7 f8 f9 f10 f11
      exact bodyPost_ret (v := .tuple #[.agg #[.int .i64 0, .int .i64 0, .int .i64 0, .int .i64 0, .int .i64 0, .int .i64 0, .int .i64 0, .int .i64 0, .int .i64 0, .int .i64 0, .int .i64 0, .int .i64 0], .int .i64 11]) (by simp [results, Tryd.results8, go_sem, f0, f1, f2, f3, f4, f5, f6, f7, f8, f9, f10, f11]) rfl ⟨by rw [HV.out.1, HV.out.2], HB.out⟩
  · obtain ⟨h1, h2, h3, h4⟩ := rf_form he
    rw [h1, h4] at CF
    rw [show Spc.val Spc.zero = .agg #[.int .i64 0, .int .i64 0, .int .i64 0, .int .i64 0, .int .i64 0, .int .i64 0, .int .i64 0, .int .i64 0, .int .i64 0, .int .i64 0, .int .i64 0, .int .i64 0] from rfl] at CF
    have HV : Hid (Spc.val (Spc.rdV t) = .agg #[.int .i64 0, .int .i64 0, .int .i64 0, .int .i64 0, .int .i64 0, .int .i64 0, .int .i64 0, .int .i64 0, .int .i64 0, .int .i64 0, .int .i64 0, .int .i64 0] ∧ Spc.rdE t = 2) := by
      show _ ∧ _
      rw [h3]
      exact ⟨rfl, h2⟩
    clear he h1 h2 h3 h4 hb CC
    go_enter Tryd.func8, Tryd.ntmps8
    go_wp2_with fail
    have hr1 := heap_alloc_new w (.cells (Spc.cells Spc.zero) 25)
    have HR1 : Hid ((w.alloc (.cells #[.int .i64 0, .int .i64 0, .int .i64 0, .int .i64 0, .int .i64 0, .int .i64 0, .int .i64 0, .int .i64 0, .int .i64 0, .int .i64 0, .int .i64 0, .int .i64 0] 25)).heap[w.heap.size]? = some (.cells (Spc.cells Spc.zero) 25 (0, 0))) := hr1
    obtain ⟨gr, hgr⟩ : ∃ gr, gr = w.heap.size := ⟨_, rfl⟩
    rw [← hgr] at HR1 ⊢
    have GR := Lib.hid hgr
    clear hr1 hgr
    generalize w.alloc (.cells #[.int .i64 0, .int .i64 0, .int .i64 0, .int .i64 0, .int .i64 0, .int .i64 0, .int .i64 0, .int .i64 0, .int .i64 0, .int .i64 0, .int .i64 0, .int .i64 0] 25) = w1 at *
    refine (CF.out w1 HT1.out).mono ?_
    rintro e w2 ⟨rfl, hb2⟩
    have HR2 : Hid (w2.heap[gr]? = some (.cells (Spc.cells Spc.zero) 25 (0, 0))) := (hb2.block gr (Array.getElem?_eq_some_iff.1 HR1.out).1).trans HR1.out
    have B2 := Lib.hid (HB1.out.trans (hb2.mono HB1.out.size))
    have LR : Hid (gr < w2.heap.size) := (Array.getElem?_eq_some_iff.1 HR2.out).1
    clear hb2 HR1 HB1 HT1 CF
    obtain ⟨gs, hgs⟩ : ∃ gs, gs = w2.heap.size := ⟨_, rfl⟩
    have P3 : Hid (Two w gs gr Spc.zero (w2.alloc (.cells #[.int .i64 0, .int .i64 0, .int .i64 0, .int .i64 0, .int .i64 0, .int .i64 0, .int .i64 0, .int .i64 0, .int .i64 0, .int .i64 0, .int .i64 0, .int .i64 0] 25))) := by
      have hb3 := (Below.refl w2.heap.size w2).alloc (Nat.le_refl _) (.cells (Spc.cells Spc.zero) 25)
      have h3 := heap_alloc_new w2 (.cells (Spc.cells Spc.zero) 25)
      rw [← hgs] at h3
      exact ⟨h3, (hb3.block gr LR.out).trans HR2.out, B2.out.trans (hb3.mono B2.out.size), by have := LR.out; omega, by rw [hgs]; exact B2.out.size, by rw [GR.out]; exact Nat.le_refl _⟩
    have GS := Lib.hid hgs
    clear hgs HR2 B2 LR GR
    obtain ⟨q0, q1, q2, q3, q4, q5, q6, q7, q8, q9, q10, q11⟩ := spAt_of (s := Spc.zero) P3.out.res
    obtain ⟨y0, y1, y2, y3, y4, y5, y6, y7, y8, y9, y10, y11⟩ := spFz_of P3.out.res
    simp only [Spc.zero] at q0 q1 q2 q3 q4 q5 q6 q7 q8 q9 q10 q11
    clear q0 q1 q2 q3 q4 q5 q6 q7 q8 q9 q10 q11 y0 y1 y2 y3 y4 y5 y6 y7 y8 y9 y10 y11
    go_upto_region 3 with fail
    rw [← GS.out]
    generalize w2.alloc (.cells #[.int .i64 0, .int .i64 0, .int .i64 0, .int .i64 0, .int .i64 0, .int .i64 0, .int .i64 0, .int .i64 0, .int .i64 0, .int .i64 0, .int .i64 0, .int .i64 0] 25) = w3 at *
    obtain ⟨q0, q1, q2, q3, q4, q5, q6, q7, q8, q9, q10, q11⟩ := spAt_of (s := Spc.zero) P3.out.res
    obtain ⟨y0, y1, y2, y3, y4, y5, y6, y7, y8, y9, y10, y11⟩ := spFz_of P3.out.res
    simp only [Spc.zero] at q0 q1 q2 q3 q4 q5 q6 q7 q8 q9 q10 q11
    have hP := puts_sp (s := Spc.zero) (r := Spc.zero) P3.out.res
    have hG := puts_grown gr (Spc.cells Spc.zero).toList 0 w3
    obtain ⟨W9, hW⟩ : ∃ W9, W9 = puts w3 gr 0 (Spc.cells Spc.zero).toList := ⟨_, rfl⟩
    rw [← hW] at hP hG
    have hB := P3.out.below.grown hG P3.out.below.size (fun i hi => by injection hi with hi; have := P3.out.lor; omega)
    have key : ((((((((((((w3.setCell ⟨gr, 0, none⟩ (.int .i64 0)).setCell ⟨gr, 1, none⟩ (.int .i64 0)).setCell ⟨gr, 2, none⟩ (.int .i64 0)).setCell ⟨gr, 3, none⟩ (.int .i64 0)).setCell ⟨gr, 4, none⟩ (.int .i64 0)).setCell ⟨gr, 5, none⟩ (.int .i64 0)).setCell ⟨gr, 6, none⟩ (.int .i64 0)).setCell ⟨gr, 7, none⟩ (.int .i64 0)).setCell ⟨gr, 8, none⟩ (.int .i64 0)).setCell ⟨gr, 9, none⟩ (.int .i64 0)).setCell ⟨gr, 10, none⟩ (.int .i64 0)).setCell ⟨gr, 11, none⟩ (.int .i64 0)) = W9 := by rw [hW]; rfl
    have KEY := Lib.hid key
    have HP := Lib.hid hP
    have HB := Lib.hid hB
    clear hP hG hW hB key P3
    go_wp2_with fail
    rw [KEY.out]
    clear  q0 q1 q2 q3 q4 q5 q6 q7 q8 q9 q10 q11 y0 y1 y2 y3 y4 y5 y6 y7 y8 y9 y10 y11 KEY
    obtain ⟨f0, f1, f2, f3, f4, f5, f6, f7, f8, f9, f10, f11⟩ := spAt_of (s := Spc.zero) HP.out
    simp only [Spc.zero] at f0 f1 f2 f3 f4 f5 f6 f7 f8 f9 f10 f11
    exact bodyPost_ret (v := .tuple #[.agg #[.int .i64 0, .int .i64 0, .int .i64 0, .int .i64 0, .int .i64 0, .int .i64 0, .int .i64 0, .int .i64 0, .int .i64 0, .int .i64 0, .int .i64 0, .int .i64 0], .int .i64 2]) (by simp [results, Tryd.results8, go_sem, f0, f1, f2, f3, f4, f5, f6, f7, f8, f9, f10, f11]) rfl ⟨by rw [HV.out.1, HV.out.2], HB.out⟩
end Go.Proofs.YtijloajkiannlaaDoor
