import Derived.Test.YtnacjhnfkkddcaaGreatDoorNl12
import Derived.Test.YtnacjhnfkkddcaaGreatDoorNl08
import Derived.Test.YtnacjhnfkkddcaaGreatDoorNl09
import Derived.Test.YtnacjhnfkkddcaaGreatDoorNl10
namespace Go.Proofs.YtnacjhnfkkddcaaGreatDoor
open Go.RowKit Go.Maps
set_option maxRecDepth 100000
set_option linter.unusedSimpArgs false
set_option linter.unusedVariables false
theorem k0_on {B : Nat} {a b c : World} (h : KeptFrom B a b) (hs : a.heap.size ≤ b.heap.size) (hb : Below b.heap.size b c) : KeptFrom B a c := fun i h1 h2 => (hb.block i (by omega)).trans (h i h1 h2)
set_option maxRecDepth 100000 in
set_option maxHeartbeats 6400000 in
theorem kright_any (r : Rc.R) (hin : Rc.In r) (w : World) : Calls Tryz.prog 48 #[.agg (Rc.cells r)] w (APos w (.bool (Rc.right r))) := by
  have HI := Lib.hid hin
  have RA := Lib.hid (RcAt.new w r)
  have B1 := Lib.hid ((Below.refl w.heap.size w).alloc (Nat.le_refl _) (.cells (Rc.cells r) 53))
  have I0 : Hid (Spc.i64 r.kind) := hin.nums _ (by simp [Rc.nums])
  have I2 : Hid (Spc.i64 r.who) := hin.nums _ (by simp [Rc.nums])
  have I3 : Hid (Spc.i64 r.n) := hin.nums _ (by simp [Rc.nums])
  have I4 : Hid (Spc.i64 r.seq) := hin.nums _ (by simp [Rc.nums])
  clear hin
  obtain ⟨ans, hans⟩ : ∃ ans, ans = Rc.right r := ⟨_, rfl⟩
  rw [← hans]
  have HA := Lib.hid hans
  clear hans
  go_enter Tryz.func48, Tryz.ntmps48
  go_upto_region 1 with fail
  obtain ⟨g, hg⟩ : ∃ g, g = w.heap.size := ⟨_, rfl⟩
  rw [← hg] at RA ⊢
  clear hg
  generalize w.alloc (.cells (Rc.cells r) 53) = ws at *
  go_cut [3, 4] (fun s3 s4 wx => ∃ q nm v1 v2 v3 v4 v5, s3 = .pointer (some ⟨q, 0, none⟩) ∧ s4 = .bool (Rc.isKind r.kind) ∧ wx.heap[q]? = some (.cells #[.string nm, v1, v2, v3, v4, v5] 133 (0, 0)) ∧ (∃ B, Rc.isKind r.kind = true → RuleV B wx r.kind v1 v2 v3 v4 v5) ∧ RcAt wx g r ∧ Below w.heap.size w wx)
  case first =>
    have BB := Lib.hid B1.out.drew
    refine wp_region_held_drew (S := fun W => RcAt W g r) (by kernel_rfl) (RA.out.on (Below.refl ws.heap.size ws).drew) (fun hS => ?_)
    clear RA B1
    generalize ws.drew = W0 at *
    refine tkYes 1 (v := ?_) rfl (by kernel_rfl) (fun _ _ _ h => h) rfl ?_ hS ?_
    rotate_left
    · intro W hW; go_simp; (try with_reducible rfl)
    simp only [Act.put, List.setIfInBounds_toArray, List.set_cons_zero, List.set_cons_succ]
    refine tkYes 2 (v := ?_) rfl (by kernel_rfl) (fun _ _ _ h => h) rfl ?_ hS ?_
    rotate_left
    · intro W hW; obtain ⟨c0, c1, c2, c3, c4, c5, c6, c7, c8, c9, c10, c11, c12, c13, c14, c15, c16, c17, clt⟩ := hW.cs; go_simp; (try with_reducible rfl)
    simp only [Act.put, List.setIfInBounds_toArray, List.set_cons_zero, List.set_cons_succ]
    refine rnTwo 0 7 rfl rfl (by kernel_rfl) rfl rfl (fun K hK => ?_) (fun K hK => ?_)
    · go_simp
      with_reducible refine (rules_any _).mono ?_
      rintro e W1 ⟨m, rfl, hr, hb⟩
      obtain ⟨v1, v2, v3, v4, v5, hlk, hoc, hrv⟩ := hr.look r.kind I0.out
      have LK := Lib.hid hlk
      have OC := Lib.hid hoc
      have RV := Lib.hid hrv
      have hS2 := hS.on hb
      have BB2 := Lib.hid (BB.out.trans (hb.mono BB.out.size))
      clear hlk hoc hrv hr
      clear hS BB hb
      have hS := hS2
      have BB := BB2
      clear hS2 BB2
      refine hK.out _ _ hS (fun _ => ?_)
      clear hK K
      try simp only [Act.put, List.setIfInBounds_toArray, List.set_cons_zero, List.set_cons_succ]
      refine rnTwo 3 7 rfl rfl (by kernel_rfl) rfl rfl (fun K hK => ?_) (fun K hK => ?_)
      · have hl := LK.out W1 (Below.refl _ _)
        go_simp
        clear hl LK
        refine hK.out _ _ hS (fun _ => ?_)
        clear hK K
        try simp only [Act.put, List.setIfInBounds_toArray, List.set_cons_zero, List.set_cons_succ]
        refine tkYes 4 (v := ?_) rfl (by kernel_rfl) (fun _ _ _ h => h) rfl ?_ hS ?_
        rotate_left
        · intro W hW; go_simp; (try with_reducible rfl)
        simp only [Act.put, List.setIfInBounds_toArray, List.set_cons_zero, List.set_cons_succ]
        refine tkYes 5 (v := ?_) rfl (by kernel_rfl) (fun _ _ _ h => h) rfl ?_ hS ?_
        rotate_left
        · intro W hW; go_simp; (try with_reducible rfl)
        simp only [Act.put, List.setIfInBounds_toArray, List.set_cons_zero, List.set_cons_succ]
        refine tkYes 6 (v := ?_) rfl (by kernel_rfl) (fun _ _ _ h => h) rfl ?_ hS ?_
        rotate_left
        · intro W hW; go_simp; (try with_reducible rfl)
        simp only [Act.put, List.setIfInBounds_toArray, List.set_cons_zero, List.set_cons_succ]
        refine rnOne 7 rfl (by kernel_rfl) rfl (fun K hK => ?_)
        go_simp
        have hS2 := hS.on ((Below.refl W1.heap.size W1).alloc (Nat.le_refl _) (.cells #[.string ⟨#[]⟩, .nilFunc, .nilFunc, .nilFunc, .nilFunc, .nilFunc] 133))
        have QR := Lib.hid (heap_alloc_new W1 (.cells #[.string ⟨#[]⟩, .nilFunc, .nilFunc, .nilFunc, .nilFunc, .nilFunc] 133))
        have BB2 := Lib.hid (BB.out.alloc (by have := BB.out.size; omega) (.cells #[.string ⟨#[]⟩, .nilFunc, .nilFunc, .nilFunc, .nilFunc, .nilFunc] 133))
        have K2 : Hid (Below W1.heap.size W1 (W1.alloc (.cells #[.string ⟨#[]⟩, .nilFunc, .nilFunc, .nilFunc, .nilFunc, .nilFunc] 133))) := (Below.refl _ _).alloc (Nat.le_refl _) _
        obtain ⟨q, hq⟩ : ∃ q, q = W1.heap.size := ⟨_, rfl⟩
        have QB : Hid (w.heap.size ≤ q) := by have := BB.out.size; show _ ≤ _; omega
        have NE : Hid (g ≠ q) := by have := (Array.getElem?_eq_some_iff.1 hS.row).1; show _ ≠ _; omega
        have QN : Hid (q < W0.heap.size ∨ W1.heap.size ≤ q) := Or.inr (by omega)
        rw [← hq] at QR ⊢
        clear hq hS BB
        have hS := hS2
        have BB := BB2
        clear hS2 BB2
        generalize W1.alloc (.cells #[.string ⟨#[]⟩, .nilFunc, .nilFunc, .nilFunc, .nilFunc, .nilFunc] 133) = W2 at *
        refine hK.out _ _ hS (fun _ => ?_)
        clear hK K
        try simp only [Act.put, List.setIfInBounds_toArray, List.set_cons_zero, List.set_cons_succ]
        refine rnOne 8 rfl (by kernel_rfl) rfl (fun K hK => ?_)
        refine wp_store_row 133 (.tmp 3) (.tmp 10) rfl q #[.string (Rc.nameB r.kind), v1, v2, v3, v4, v5] rfl rfl 133 _ QR.out rule_size rfl OC.out ?_
        have RS := Lib.hid (setRow_heap W2 q _ #[.string (Rc.nameB r.kind), v1, v2, v3, v4, v5] _ _ QR.out)
        have BB2 := Lib.hid (below_setRow BB.out QB.out #[.string (Rc.nameB r.kind), v1, v2, v3, v4, v5])
        have hS2 : RcAt (W2.setRow q #[.string (Rc.nameB r.kind), v1, v2, v3, v4, v5]) g r := ⟨(setRow_other W2 q g #[.string (Rc.nameB r.kind), v1, v2, v3, v4, v5] NE.out).trans hS.row⟩
        have RV2 : Hid (Rc.isKind r.kind = true → RuleV W0.heap.size (W2.setRow q #[.string (Rc.nameB r.kind), v1, v2, v3, v4, v5]) r.kind v1 v2 v3 v4 v5) := fun h => (RV.out h).on (KeptFrom.set (KeptFrom.of _ K2.out) QN.out _) (by rw [setRow_size]; exact K2.out.size)
        clear hS BB QR RV
        have hS := hS2
        clear hS2
        generalize W2.setRow q #[.string (Rc.nameB r.kind), v1, v2, v3, v4, v5] = W5 at *
        refine hK.out _ _ hS (fun _ => ?_)
        clear hK K
        try simp only [Act.put, List.setIfInBounds_toArray, List.set_cons_zero, List.set_cons_succ]
        refine tkYes 9 (v := ?_) rfl (by kernel_rfl) (fun _ _ _ h => h) rfl ?_ hS ?_
        rotate_left
        · intro W hW; go_simp; (try with_reducible rfl)
        simp only [Act.put, List.setIfInBounds_toArray, List.set_cons_zero, List.set_cons_succ]
        refine wpAnyH_done (by kernel_rfl) ?_ _
        go_wp2_with fail
        go_meet
        case rel => exact ⟨q, _, v1, v2, v3, v4, v5, rfl, rfl, RS.out, ⟨_, RV2.out⟩, hS, BB2.out⟩
      · go_simp
        have hS2 := hS.on ((Below.refl W1.heap.size W1).alloc (Nat.le_refl _) (.cells #[.string ⟨#[]⟩, .nilFunc, .nilFunc, .nilFunc, .nilFunc, .nilFunc] 133))
        have QR := Lib.hid (heap_alloc_new W1 (.cells #[.string ⟨#[]⟩, .nilFunc, .nilFunc, .nilFunc, .nilFunc, .nilFunc] 133))
        have BB2 := Lib.hid (BB.out.alloc (by have := BB.out.size; omega) (.cells #[.string ⟨#[]⟩, .nilFunc, .nilFunc, .nilFunc, .nilFunc, .nilFunc] 133))
        have K2 : Hid (Below W1.heap.size W1 (W1.alloc (.cells #[.string ⟨#[]⟩, .nilFunc, .nilFunc, .nilFunc, .nilFunc, .nilFunc] 133))) := (Below.refl _ _).alloc (Nat.le_refl _) _
        obtain ⟨q, hq⟩ : ∃ q, q = W1.heap.size := ⟨_, rfl⟩
        have QB : Hid (w.heap.size ≤ q) := by have := BB.out.size; show _ ≤ _; omega
        have NE : Hid (g ≠ q) := by have := (Array.getElem?_eq_some_iff.1 hS.row).1; show _ ≠ _; omega
        have QN : Hid (q < W0.heap.size ∨ W1.heap.size ≤ q) := Or.inr (by omega)
        rw [← hq] at QR ⊢
        clear hq hS BB
        have hS := hS2
        have BB := BB2
        clear hS2 BB2
        generalize W1.alloc (.cells #[.string ⟨#[]⟩, .nilFunc, .nilFunc, .nilFunc, .nilFunc, .nilFunc] 133) = W2 at *
        refine hK.out _ _ hS (fun _ => ?_)
        clear hK K
        try simp only [Act.put, List.setIfInBounds_toArray, List.set_cons_zero, List.set_cons_succ]
        refine rnOne 3 rfl (by kernel_rfl) rfl (fun K hK => ?_)
        have hl := LK.out W2 K2.out
        go_simp
        clear hl LK
        refine hK.out _ _ hS (fun _ => ?_)
        clear hK K
        try simp only [Act.put, List.setIfInBounds_toArray, List.set_cons_zero, List.set_cons_succ]
        refine tkYes 4 (v := ?_) rfl (by kernel_rfl) (fun _ _ _ h => h) rfl ?_ hS ?_
        rotate_left
        · intro W hW; go_simp; (try with_reducible rfl)
        simp only [Act.put, List.setIfInBounds_toArray, List.set_cons_zero, List.set_cons_succ]
        refine tkYes 5 (v := ?_) rfl (by kernel_rfl) (fun _ _ _ h => h) rfl ?_ hS ?_
        rotate_left
        · intro W hW; go_simp; (try with_reducible rfl)
        simp only [Act.put, List.setIfInBounds_toArray, List.set_cons_zero, List.set_cons_succ]
        refine tkYes 6 (v := ?_) rfl (by kernel_rfl) (fun _ _ _ h => h) rfl ?_ hS ?_
        rotate_left
        · intro W hW; go_simp; (try with_reducible rfl)
        simp only [Act.put, List.setIfInBounds_toArray, List.set_cons_zero, List.set_cons_succ]
        refine rnOne 8 rfl (by kernel_rfl) rfl (fun K hK => ?_)
        refine wp_store_row 133 (.tmp 3) (.tmp 10) rfl q #[.string (Rc.nameB r.kind), v1, v2, v3, v4, v5] rfl rfl 133 _ QR.out rule_size rfl OC.out ?_
        have RS := Lib.hid (setRow_heap W2 q _ #[.string (Rc.nameB r.kind), v1, v2, v3, v4, v5] _ _ QR.out)
        have BB2 := Lib.hid (below_setRow BB.out QB.out #[.string (Rc.nameB r.kind), v1, v2, v3, v4, v5])
        have hS2 : RcAt (W2.setRow q #[.string (Rc.nameB r.kind), v1, v2, v3, v4, v5]) g r := ⟨(setRow_other W2 q g #[.string (Rc.nameB r.kind), v1, v2, v3, v4, v5] NE.out).trans hS.row⟩
        have RV2 : Hid (Rc.isKind r.kind = true → RuleV W0.heap.size (W2.setRow q #[.string (Rc.nameB r.kind), v1, v2, v3, v4, v5]) r.kind v1 v2 v3 v4 v5) := fun h => (RV.out h).on (KeptFrom.set (KeptFrom.of _ K2.out) QN.out _) (by rw [setRow_size]; exact K2.out.size)
        clear hS BB QR RV
        have hS := hS2
        clear hS2
        generalize W2.setRow q #[.string (Rc.nameB r.kind), v1, v2, v3, v4, v5] = W5 at *
        refine hK.out _ _ hS (fun _ => ?_)
        clear hK K
        try simp only [Act.put, List.setIfInBounds_toArray, List.set_cons_zero, List.set_cons_succ]
        refine tkYes 9 (v := ?_) rfl (by kernel_rfl) (fun _ _ _ h => h) rfl ?_ hS ?_
        rotate_left
        · intro W hW; go_simp; (try with_reducible rfl)
        simp only [Act.put, List.setIfInBounds_toArray, List.set_cons_zero, List.set_cons_succ]
        refine wpAnyH_done (by kernel_rfl) ?_ _
        go_wp2_with fail
        go_meet
        case rel => exact ⟨q, _, v1, v2, v3, v4, v5, rfl, rfl, RS.out, ⟨_, RV2.out⟩, hS, BB2.out⟩
    · go_simp
      have hS2 := hS.on ((Below.refl W0.heap.size W0).alloc (Nat.le_refl _) (.cells #[.string ⟨#[]⟩, .nilFunc, .nilFunc, .nilFunc, .nilFunc, .nilFunc] 133))
      have QR := Lib.hid (heap_alloc_new W0 (.cells #[.string ⟨#[]⟩, .nilFunc, .nilFunc, .nilFunc, .nilFunc, .nilFunc] 133))
      have BB2 := Lib.hid (BB.out.alloc (by have := BB.out.size; omega) (.cells #[.string ⟨#[]⟩, .nilFunc, .nilFunc, .nilFunc, .nilFunc, .nilFunc] 133))
      obtain ⟨q, hq⟩ : ∃ q, q = W0.heap.size := ⟨_, rfl⟩
      have QB : Hid (w.heap.size ≤ q) := by have := BB.out.size; show _ ≤ _; omega
      have NE : Hid (g ≠ q) := by have := (Array.getElem?_eq_some_iff.1 hS.row).1; show _ ≠ _; omega
      rw [← hq] at QR ⊢
      clear hq hS BB
      have hS := hS2
      have BB := BB2
      clear hS2 BB2
      generalize W0.alloc (.cells #[.string ⟨#[]⟩, .nilFunc, .nilFunc, .nilFunc, .nilFunc, .nilFunc] 133) = W2 at *
      refine hK.out _ _ hS (fun _ => ?_)
      clear hK K
      try simp only [Act.put, List.setIfInBounds_toArray, List.set_cons_zero, List.set_cons_succ]
      refine rnOne 0 rfl (by kernel_rfl) rfl (fun K hK => ?_)
      go_simp
      with_reducible refine (rules_any _).mono ?_
      rintro e W1 ⟨m, rfl, hr, hb⟩
      obtain ⟨v1, v2, v3, v4, v5, hlk, hoc, hrv⟩ := hr.look r.kind I0.out
      have LK := Lib.hid hlk
      have OC := Lib.hid hoc
      have RV := Lib.hid hrv
      have hS2 := hS.on hb
      have BB2 := Lib.hid (BB.out.trans (hb.mono BB.out.size))
      clear hlk hoc hrv hr
      have QR2 := Lib.hid (blk_at QR.out hb)
      have QN : Hid (q < W2.heap.size ∨ W1.heap.size ≤ q) := Or.inl (Array.getElem?_eq_some_iff.1 QR.out).1
      clear QR
      have QR := QR2
      clear QR2
      clear hS BB hb
      have hS := hS2
      have BB := BB2
      clear hS2 BB2
      refine hK.out _ _ hS (fun _ => ?_)
      clear hK K
      try simp only [Act.put, List.setIfInBounds_toArray, List.set_cons_zero, List.set_cons_succ]
      refine rnOne 3 rfl (by kernel_rfl) rfl (fun K hK => ?_)
      have hl := LK.out W1 (Below.refl _ _)
      go_simp
      clear hl LK
      refine hK.out _ _ hS (fun _ => ?_)
      clear hK K
      try simp only [Act.put, List.setIfInBounds_toArray, List.set_cons_zero, List.set_cons_succ]
      refine tkYes 4 (v := ?_) rfl (by kernel_rfl) (fun _ _ _ h => h) rfl ?_ hS ?_
      rotate_left
      · intro W hW; go_simp; (try with_reducible rfl)
      simp only [Act.put, List.setIfInBounds_toArray, List.set_cons_zero, List.set_cons_succ]
      refine tkYes 5 (v := ?_) rfl (by kernel_rfl) (fun _ _ _ h => h) rfl ?_ hS ?_
      rotate_left
      · intro W hW; go_simp; (try with_reducible rfl)
      simp only [Act.put, List.setIfInBounds_toArray, List.set_cons_zero, List.set_cons_succ]
      refine tkYes 6 (v := ?_) rfl (by kernel_rfl) (fun _ _ _ h => h) rfl ?_ hS ?_
      rotate_left
      · intro W hW; go_simp; (try with_reducible rfl)
      simp only [Act.put, List.setIfInBounds_toArray, List.set_cons_zero, List.set_cons_succ]
      refine rnOne 8 rfl (by kernel_rfl) rfl (fun K hK => ?_)
      refine wp_store_row 133 (.tmp 3) (.tmp 10) rfl q #[.string (Rc.nameB r.kind), v1, v2, v3, v4, v5] rfl rfl 133 _ QR.out rule_size rfl OC.out ?_
      have RS := Lib.hid (setRow_heap W1 q _ #[.string (Rc.nameB r.kind), v1, v2, v3, v4, v5] _ _ QR.out)
      have BB2 := Lib.hid (below_setRow BB.out QB.out #[.string (Rc.nameB r.kind), v1, v2, v3, v4, v5])
      have hS2 : RcAt (W1.setRow q #[.string (Rc.nameB r.kind), v1, v2, v3, v4, v5]) g r := ⟨(setRow_other W1 q g #[.string (Rc.nameB r.kind), v1, v2, v3, v4, v5] NE.out).trans hS.row⟩
      have RV2 : Hid (Rc.isKind r.kind = true → RuleV W2.heap.size (W1.setRow q #[.string (Rc.nameB r.kind), v1, v2, v3, v4, v5]) r.kind v1 v2 v3 v4 v5) := fun h => (RV.out h).on (KeptFrom.set (KeptFrom.of _ (Below.refl _ _)) QN.out _) (by rw [setRow_size]; exact (Nat.le_refl _))
      clear hS BB QR RV
      have hS := hS2
      clear hS2
      generalize W1.setRow q #[.string (Rc.nameB r.kind), v1, v2, v3, v4, v5] = W5 at *
      refine hK.out _ _ hS (fun _ => ?_)
      clear hK K
      try simp only [Act.put, List.setIfInBounds_toArray, List.set_cons_zero, List.set_cons_succ]
      refine tkYes 9 (v := ?_) rfl (by kernel_rfl) (fun _ _ _ h => h) rfl ?_ hS ?_
      rotate_left
      · intro W hW; go_simp; (try with_reducible rfl)
      simp only [Act.put, List.setIfInBounds_toArray, List.set_cons_zero, List.set_cons_succ]
      refine wpAnyH_done (by kernel_rfl) ?_ _
      go_wp2_with fail
      go_meet
      case rel => exact ⟨q, _, v1, v2, v3, v4, v5, rfl, rfl, RS.out, ⟨_, RV2.out⟩, hS, BB2.out⟩
  case rest =>
    obtain ⟨q, nm, v1, v2, v3, v4, v5, rfl, rfl, hq, ⟨B, hrv⟩, hra, hbx⟩ := hcut
    clear RA B1
    have QR := Lib.hid hq
    have RA := Lib.hid hra
    have BB := Lib.hid hbx
    clear hq hra hbx
    cases hk : Rc.isKind r.kind with
    | false =>
      have HANS := Lib.hid (Rc.right_none hk)
      clear hk hrv
      go_wp2_with fail
      go_ret
      exact ⟨by rw [HA.out, HANS.out]; rfl, BB.out⟩
    | true =>
      have RV := Lib.hid (hrv hk)
      have HANS := Lib.hid (Rc.right_kind hk)
      clear hrv hk
      obtain ⟨g1, p1, rfl, e1, C1⟩ := RV.out.who
      obtain ⟨g2, p2, rfl, e2, C2⟩ := RV.out.n
      obtain ⟨g3, p3, rfl, e3, C3⟩ := RV.out.seq
      obtain ⟨g4, p4, rfl, e4, C4⟩ := RV.out.text
      obtain ⟨g5, p5, rfl, e5, C5⟩ := RV.out.spec
      clear RV
      have D1 := Lib.hid (fun W hW => C1 W r.who I2.out hW)
      have D2 := Lib.hid (fun W hW => C2 W r.n I3.out hW)
      have D3 := Lib.hid (fun W hW => C3 W r.seq I4.out hW)
      have D4 := Lib.hid (fun W hW => C4 W r.text HI.out.text hW)
      have D5 := Lib.hid (fun W hW => C5 W r.sp HI.out.sp hW)
      have D0 := Lib.hid (fun W => kisEpoch_any r.epoch W)
      clear C1 C2 C3 C4 C5
      have K0 : Hid (KeptFrom B wc wc ∧ wc.heap.size ≤ wc.heap.size) := ⟨fun _ _ _ => rfl, Nat.le_refl _⟩
      generalize Spc.inn r.epoch 1 1099511627776 = x0 at *
      generalize Rc.whoB r.kind r.who = x1 at *
      generalize Rc.nB r.kind r.n = x2 at *
      generalize Rc.seqB r.kind r.seq = x3 at *
      generalize Rc.textB r.kind r.text = x4 at *
      generalize Rc.specB r.kind r.sp = x5 at *
      unfold kwho at D1 D2 D3
      unfold ktxt at D4
      unfold Spc.val Spc.cells at D5
      obtain ⟨d1, d2, d3, d4, d5⟩ := rucs QR.out
      obtain ⟨c0, c1, c2, c3, c4, c5, c6, c7, c8, c9, c10, c11, c12, c13, c14, c15, c16, c17, clt⟩ := RA.out.cs
      go_wp2_with (first
        | (go_at_call 86; (with_reducible refine (D0.out _).mono ?_); rintro e w1 ⟨rfl, hb⟩; clear d1 d2 d3 d4 d5 c0 c1 c2 c3 c4 c5 c6 c7 c8 c9 c10 c11 c12 c13 c14 c15 c16 c17 clt; have QR := Lib.hid (blk_at QR.out hb); have RA := Lib.hid (RA.out.on hb); have K0 := Lib.hid (And.intro (k0_on K0.out.1 K0.out.2 hb) (Nat.le_trans K0.out.2 hb.size)); have BB := Lib.hid (BB.out.trans (hb.mono BB.out.size)); clear hb; obtain ⟨d1, d2, d3, d4, d5⟩ := rucs QR.out; obtain ⟨c0, c1, c2, c3, c4, c5, c6, c7, c8, c9, c10, c11, c12, c13, c14, c15, c16, c17, clt⟩ := RA.out.cs; cases x0)
        | (go_at_fn g1; (with_reducible refine (D1.out _ K0.out.1).mono ?_); rintro e w1 ⟨rfl, hb⟩; clear d1 d2 d3 d4 d5 c0 c1 c2 c3 c4 c5 c6 c7 c8 c9 c10 c11 c12 c13 c14 c15 c16 c17 clt; have QR := Lib.hid (blk_at QR.out hb); have RA := Lib.hid (RA.out.on hb); have K0 := Lib.hid (And.intro (k0_on K0.out.1 K0.out.2 hb) (Nat.le_trans K0.out.2 hb.size)); have BB := Lib.hid (BB.out.trans (hb.mono BB.out.size)); clear hb; obtain ⟨d1, d2, d3, d4, d5⟩ := rucs QR.out; obtain ⟨c0, c1, c2, c3, c4, c5, c6, c7, c8, c9, c10, c11, c12, c13, c14, c15, c16, c17, clt⟩ := RA.out.cs; cases x1)
        | (go_at_fn g2; (with_reducible refine (D2.out _ K0.out.1).mono ?_); rintro e w1 ⟨rfl, hb⟩; clear d1 d2 d3 d4 d5 c0 c1 c2 c3 c4 c5 c6 c7 c8 c9 c10 c11 c12 c13 c14 c15 c16 c17 clt; have QR := Lib.hid (blk_at QR.out hb); have RA := Lib.hid (RA.out.on hb); have K0 := Lib.hid (And.intro (k0_on K0.out.1 K0.out.2 hb) (Nat.le_trans K0.out.2 hb.size)); have BB := Lib.hid (BB.out.trans (hb.mono BB.out.size)); clear hb; obtain ⟨d1, d2, d3, d4, d5⟩ := rucs QR.out; obtain ⟨c0, c1, c2, c3, c4, c5, c6, c7, c8, c9, c10, c11, c12, c13, c14, c15, c16, c17, clt⟩ := RA.out.cs; cases x2)
        | (go_at_fn g3; (with_reducible refine (D3.out _ K0.out.1).mono ?_); rintro e w1 ⟨rfl, hb⟩; clear d1 d2 d3 d4 d5 c0 c1 c2 c3 c4 c5 c6 c7 c8 c9 c10 c11 c12 c13 c14 c15 c16 c17 clt; have QR := Lib.hid (blk_at QR.out hb); have RA := Lib.hid (RA.out.on hb); have K0 := Lib.hid (And.intro (k0_on K0.out.1 K0.out.2 hb) (Nat.le_trans K0.out.2 hb.size)); have BB := Lib.hid (BB.out.trans (hb.mono BB.out.size)); clear hb; obtain ⟨d1, d2, d3, d4, d5⟩ := rucs QR.out; obtain ⟨c0, c1, c2, c3, c4, c5, c6, c7, c8, c9, c10, c11, c12, c13, c14, c15, c16, c17, clt⟩ := RA.out.cs; cases x3)
        | (go_at_fn g4; (with_reducible refine (D4.out _ K0.out.1).mono ?_); rintro e w1 ⟨rfl, hb⟩; clear d1 d2 d3 d4 d5 c0 c1 c2 c3 c4 c5 c6 c7 c8 c9 c10 c11 c12 c13 c14 c15 c16 c17 clt; have QR := Lib.hid (blk_at QR.out hb); have RA := Lib.hid (RA.out.on hb); have K0 := Lib.hid (And.intro (k0_on K0.out.1 K0.out.2 hb) (Nat.le_trans K0.out.2 hb.size)); have BB := Lib.hid (BB.out.trans (hb.mono BB.out.size)); clear hb; obtain ⟨d1, d2, d3, d4, d5⟩ := rucs QR.out; obtain ⟨c0, c1, c2, c3, c4, c5, c6, c7, c8, c9, c10, c11, c12, c13, c14, c15, c16, c17, clt⟩ := RA.out.cs; cases x4)
        | (go_at_fn g5; (with_reducible refine (D5.out _ K0.out.1).mono ?_); rintro e w1 ⟨rfl, hb⟩; clear d1 d2 d3 d4 d5 c0 c1 c2 c3 c4 c5 c6 c7 c8 c9 c10 c11 c12 c13 c14 c15 c16 c17 clt; have QR := Lib.hid (blk_at QR.out hb); have RA := Lib.hid (RA.out.on hb); have K0 := Lib.hid (And.intro (k0_on K0.out.1 K0.out.2 hb) (Nat.le_trans K0.out.2 hb.size)); have BB := Lib.hid (BB.out.trans (hb.mono BB.out.size)); clear hb; obtain ⟨d1, d2, d3, d4, d5⟩ := rucs QR.out; obtain ⟨c0, c1, c2, c3, c4, c5, c6, c7, c8, c9, c10, c11, c12, c13, c14, c15, c16, c17, clt⟩ := RA.out.cs; cases x5))
      all_goals
        go_ret
        exact ⟨by rw [HA.out, HANS.out]; rfl, BB.out⟩
end Go.Proofs.YtnacjhnfkkddcaaGreatDoor
namespace Go.Proofs.YtnacjhnfkkddcaaGreatDoor
open Go.RowKit Go.Deep Go.Maps
set_option maxRecDepth 100000
set_option linter.unusedSimpArgs false
set_option linter.unusedVariables false
theorem zero_brule (w : World) : (zeroValue 89).run Tryz.prog w = .ok (.agg #[.nilFunc, .nilFunc]) w := by kernel_rfl
abbrev BM := MapV.ofInt Tryz.underlying3 Tryz.underlying90 _ zero_brule
structure BSt (W w : World) (m : Nat) (f : Int → Option Value) (n : Nat) : Prop where
  below : Below W.heap.size W w
  base : W.heap.size ≤ m
  map : ∃ j, j ≤ n ∧ BM.At w m f j
theorem BSt.ins {W w : World} {m n : Nat} {f : Int → Option Value} (h : BSt W w m f n) {ops : Array Oper} {rest : List Oper} {o : Oper} {a : Act} {Q : Exit → Act → World → Prop} (hg : o.guard = none) (y x v : Operand) (hop : o.op = Op.insert 90 y x v) (hm : a.eval y = .map (some m)) (k : Int) (u : Value) (hx : a.eval x = .int .i64 k) (hv : a.eval v = u) (hn : n < 100) (hk : (Lit.int .i64 k).wf = true)
    (hK : ∀ w', BSt W w' m (MapV.set f k (some u)) (n + 1) → wpList Tryz.prog ops Q rest (a.put o.dst undef) w') : wpList Tryz.prog ops Q (o :: rest) a w := by
  obtain ⟨j, hj, hmap⟩ := h.map
  refine hmap.insert hg y x v hop hm k u hx hv (by unfold maxLen; omega) hk fun w' h1 ht => hK w' ⟨?_, h.base, ⟨_, by split <;> omega, h1⟩⟩
  exact ⟨ht.grown.os.trans h.below.os, ht.grown.tape.trans h.below.tape, ht.grown.output.trans h.below.output, Nat.le_trans h.below.size ht.grown.size, fun i hi => (ht.grown.block i (Nat.lt_of_lt_of_le hi h.below.size) (fun e => by injection e with e; have := h.base; omega)).trans (h.below.block i hi)⟩
structure BRules (w : World) (m : Nat) : Prop where
  map : ∃ f n, BM.At w m f n ∧ f 1 = some (.agg #[.func (.func 61) #[] #[], .func (.func 62) #[] #[]]) ∧ f 2 = some (.agg #[.func (.func 63) #[] #[], .func (.func 64) #[] #[]]) ∧ f 3 = some (.agg #[.func (.func 65) #[] #[], .func (.func 66) #[] #[]]) ∧ f 4 = some (.agg #[.func (.func 67) #[] #[], .func (.func 68) #[] #[]]) ∧ f 5 = some (.agg #[.func (.func 69) #[] #[], .func (.func 70) #[] #[]]) ∧ f 6 = some (.agg #[.func (.func 71) #[] #[], .func (.func 72) #[] #[]]) ∧ f 7 = some (.agg #[.func (.func 73) #[] #[], .func (.func 74) #[] #[]])
theorem BRules.look1 {w : World} {m : Nat} (h : BRules w m) : (Instr.lookup 90 (.map (some m)) (.int .i64 1) false).run Tryz.prog w = .ok (.agg #[.func (.func 61) #[] #[], .func (.func 62) #[] #[]]) w := by
  obtain ⟨f, n, h1, h2⟩ := h.map
  have := h1.look 1 (show (Lit.int .i64 1).wf = true by decide)
  rw [h2.1] at this
  exact this
theorem BRules.look2 {w : World} {m : Nat} (h : BRules w m) : (Instr.lookup 90 (.map (some m)) (.int .i64 2) false).run Tryz.prog w = .ok (.agg #[.func (.func 63) #[] #[], .func (.func 64) #[] #[]]) w := by
  obtain ⟨f, n, h1, h2⟩ := h.map
  have := h1.look 2 (show (Lit.int .i64 2).wf = true by decide)
  rw [h2.2.1] at this
  exact this
theorem BRules.look3 {w : World} {m : Nat} (h : BRules w m) : (Instr.lookup 90 (.map (some m)) (.int .i64 3) false).run Tryz.prog w = .ok (.agg #[.func (.func 65) #[] #[], .func (.func 66) #[] #[]]) w := by
  obtain ⟨f, n, h1, h2⟩ := h.map
  have := h1.look 3 (show (Lit.int .i64 3).wf = true by decide)
  rw [h2.2.2.1] at this
  exact this
theorem BRules.look4 {w : World} {m : Nat} (h : BRules w m) : (Instr.lookup 90 (.map (some m)) (.int .i64 4) false).run Tryz.prog w = .ok (.agg #[.func (.func 67) #[] #[], .func (.func 68) #[] #[]]) w := by
  obtain ⟨f, n, h1, h2⟩ := h.map
  have := h1.look 4 (show (Lit.int .i64 4).wf = true by decide)
  rw [h2.2.2.2.1] at this
  exact this
theorem BRules.look5 {w : World} {m : Nat} (h : BRules w m) : (Instr.lookup 90 (.map (some m)) (.int .i64 5) false).run Tryz.prog w = .ok (.agg #[.func (.func 69) #[] #[], .func (.func 70) #[] #[]]) w := by
  obtain ⟨f, n, h1, h2⟩ := h.map
  have := h1.look 5 (show (Lit.int .i64 5).wf = true by decide)
  rw [h2.2.2.2.2.1] at this
  exact this
theorem BRules.look6 {w : World} {m : Nat} (h : BRules w m) : (Instr.lookup 90 (.map (some m)) (.int .i64 6) false).run Tryz.prog w = .ok (.agg #[.func (.func 71) #[] #[], .func (.func 72) #[] #[]]) w := by
  obtain ⟨f, n, h1, h2⟩ := h.map
  have := h1.look 6 (show (Lit.int .i64 6).wf = true by decide)
  rw [h2.2.2.2.2.2.1] at this
  exact this
theorem BRules.look7 {w : World} {m : Nat} (h : BRules w m) : (Instr.lookup 90 (.map (some m)) (.int .i64 7) false).run Tryz.prog w = .ok (.agg #[.func (.func 73) #[] #[], .func (.func 74) #[] #[]]) w := by
  obtain ⟨f, n, h1, h2⟩ := h.map
  have := h1.look 7 (show (Lit.int .i64 7).wf = true by decide)
  rw [h2.2.2.2.2.2.2] at this
  exact this
theorem run_bf0 (a b : Value) (w : World) : (Instr.field 89 (.agg #[a, b]) 0).run Tryz.prog w = .ok a w := by
  simp [Instr.field, run_underlying Tryz.underlying89, asAgg, part, isAgg, run_underlying Tryz.underlying86, go_sem]
theorem run_bf1 (a b : Value) (w : World) : (Instr.field 89 (.agg #[a, b]) 1).run Tryz.prog w = .ok b w := by
  simp [Instr.field, run_underlying Tryz.underlying89, asAgg, part, isAgg, run_underlying Tryz.underlying87, go_sem]
set_option maxHeartbeats 3200000 in
theorem brules_any (w : World) : Calls Tryz.prog 38 #[] w fun e w' => ∃ m, e = .returned (.map (some m)) ∧ BRules w' m ∧ Below w.heap.size w w' := by
  have R := Lib.hid (BSt.mk (W := w) ((Below.refl w.heap.size w).alloc (Nat.le_refl _) (.map #[] 0)) (Nat.le_refl _) ⟨0, Nat.le_refl _, MapV.At.made (M := BM) w⟩)
  have hmm := @run_makeMap Tryz.prog
  go_enter Tryz.func38, Tryz.ntmps38
  go_wp2_with ((with_reducible show wpList _ _ _ ({ dst := none, op := .insert _ _ _ _, type := _, pos := _, after := _, guard := _ } :: _) _ _); refine R.out.ins rfl _ _ _ rfl rfl _ _ rfl rfl (by decide) (by decide) ?_; intro w2 hr2; have R := Lib.hid hr2; clear hr2)
  go_ret
  refine ⟨_, rfl, ?_, R.out.below⟩
  obtain ⟨j, hj, hm⟩ := R.out.map
  refine ⟨⟨_, j, hm, ?_, ?_, ?_, ?_, ?_, ?_, ?_⟩⟩
  all_goals (repeat (first | exact MapV.set_same _ _ _ | rw [MapV.set_other _ _ (by decide)]))
end Go.Proofs.YtnacjhnfkkddcaaGreatDoor
namespace Go.Proofs.YtnacjhnfkkddcaaGreatDoor
open Go.RowKit Go.Deep Go.Maps
set_option maxRecDepth 100000
set_option linter.unusedSimpArgs false
set_option linter.unusedVariables false
set_option maxHeartbeats 6400000 in
theorem bcheck_any (q : Nat) (s : Bk.St) (ru : Nat → Bk.Un) (rv : Int) (lo ko : Option Nat) (H : Value) (K : Kv.St) (w : World) (h : BdIs w q s ru rv lo ko H K) (ht : BT w) (r : Rc.R) (hin : Rc.In r) : Calls Tryz.prog 27 #[.pointer (some ⟨q, 0, none⟩), .agg (Rc.cells r)] w (BRet (.int .i64 (Bk.chk s r)) w) := by
  obtain ⟨ans, hans⟩ : ∃ ans, ans = Bk.chk s r := ⟨_, rfl⟩
  rw [← hans]
  have AN := Lib.hid hans
  clear hans
  have HI := Lib.hid hin
  clear hin
  have HT := Lib.hid ht
  obtain ⟨W, hW⟩ : ∃ W, W = w.alloc (.cells (Rc.cells r) 53) := ⟨_, rfl⟩
  obtain ⟨g, hg⟩ : ∃ g, g = w.heap.size := ⟨_, rfl⟩
  have R0 := Lib.hid (RdC.open_ h r)
  rw [← hW, ← hg] at R0
  have GE : Hid (w.heap.size ≤ g) := Nat.le_of_eq hg.symm
  clear h ht
  go_enter Tryz.func27, Tryz.ntmps27
  go_upto_region 1 with fail
  rw [← hW, ← hg]
  clear hW hg
  have CR := Lib.hid (fun W => kright_any r HI.out W)
  cases hr : Rc.right r with
  | false =>
    rw [hr] at CR
    have E : ans = 1 := AN.out.trans (Bk.chk_wrong hr)
    subst E
    clear hr
    go_wp2_with (first
      | ((with_reducible show wpList _ _ _ ({ dst := some 9, op := .load _ _, type := _, pos := _, after := _, guard := _ } :: _) _ _); refine wpList_load_want (by rfl) 53 (.tmp 3) rfl g rfl 53 _ (0, 0) _ R0.out.rc.row rec_fields rfl (rec_size r) ?_)
      | (go_at_call 48; (with_reducible refine (CR.out _).mono ?_); rintro e w1 ⟨rfl, hb⟩; have R1 := Lib.hid (R0.out.on hb); clear hb))
    go_ret
    exact ⟨rfl, R1.out.b⟩
  | true =>
    rw [hr] at CR
    have HR := Lib.hid hr
    clear hr
    have hkd := (Rc.ok_of HR.out).kind
    go_upto_region 3 with (first
      | ((with_reducible show wpList _ _ _ ({ dst := some 9, op := .load _ _, type := _, pos := _, after := _, guard := _ } :: _) _ _); refine wpList_load_want (by rfl) 53 (.tmp 3) rfl g rfl 53 _ (0, 0) _ R0.out.rc.row rec_fields rfl (rec_size r) ?_)
      | (go_at_call 48; (with_reducible refine (CR.out _).mono ?_); rintro e w1 ⟨rfl, hb⟩; have R1 := Lib.hid (R0.out.on hb); clear hb))
    have c0 := R1.out.rc.cs.c0
    have c1 := R1.out.rc.cs.c1
    have b4 := R1.out.bd.at_.cs.c4
    have lq := R1.out.bd.lt.1
    have lg := R1.out.rc.cs.lt
    by_cases hk : r.kind = 1
    · rw [hk] at c0
      go_region
      go_upto_region 5 with fail
      have R5 := Lib.hid (R1.out.on (Below.refl w1.heap.size w1).drew)
      clear c0 c1 b4 lq lg
      generalize w1.drew = w5 at *
      have HK := Lib.hid hk
      clear hk
      have AE := Lib.hid (AN.out.trans (Bk.chk_lead HR.out HK.out))
      have CF : Hid (∀ W, RdC w q s ru rv lo ko H K g r W → Calls Tryz.prog 61 #[.pointer (some ⟨q, 0, none⟩), .agg (Rc.cells r)] W (BRet (.int .i64 ans) W)) := fun W h => by rw [AE.out]; exact bref1_any q s ru rv lo ko H K W h.bd (HT.out.on h.b) r HI.out HR.out
      refine wp_region_held_drew (S := RdC w q s ru rv lo ko H K g r) (by kernel_rfl) (R5.out.on (Below.refl _ _).drew) (fun hS => ?_)
      refine tkYes 1 (v := ?_) rfl (by kernel_rfl) (fun _ _ _ h => h) rfl ?_ hS ?_
      rotate_left
      · intro W hW; go_simp; (try with_reducible rfl)
      simp only [Act.put, List.setIfInBounds_toArray, List.set_cons_zero, List.set_cons_succ]
      refine tkYes 2 (v := ?_) rfl (by kernel_rfl) (fun _ _ _ h => h) rfl ?_ hS ?_
      rotate_left
      · intro W hW; have c0 := hW.rc.cs.c0; rw [HK.out] at c0; have lg := hW.rc.cs.lt; go_simp; (try with_reducible rfl)
      simp only [Act.put, List.setIfInBounds_toArray, List.set_cons_zero, List.set_cons_succ]
      refine tkYes 5 (v := ?_) rfl (by kernel_rfl) (fun _ _ _ h => h) rfl ?_ hS ?_
      rotate_left
      · intro W hW; go_simp; (try with_reducible rfl)
      simp only [Act.put, List.setIfInBounds_toArray, List.set_cons_zero, List.set_cons_succ]
      refine tkYes 6 (v := .agg (Rc.cells r)) rfl (by kernel_rfl) (fun _ _ _ h => h) rfl (fun W hW => take_rec (.tmp 3) rfl g r rfl hW.rc) hS ?_
      simp only [Act.put, List.setIfInBounds_toArray, List.set_cons_zero, List.set_cons_succ]
      refine rnOne 0 rfl (by kernel_rfl) rfl (fun K hK => ?_)
      go_simp
      with_reducible refine (brules_any _).mono ?_
      rintro e w7 ⟨m, rfl, hm, hb⟩
      have M7 := Lib.hid hm
      clear hm
      have hS2 := hS.on hb
      clear hS hb
      have hS := hS2
      clear hS2
      refine hK.out _ _ hS (fun _ => ?_)
      clear hK K
      try simp only [Act.put, List.setIfInBounds_toArray, List.set_cons_zero, List.set_cons_succ]
      refine rnOne 3 rfl (by kernel_rfl) rfl (fun K hK => ?_)
      have hlk := M7.out.look1
      go_simp
      refine hK.out _ _ hS (fun _ => ?_)
      clear hK K
      try simp only [Act.put, List.setIfInBounds_toArray, List.set_cons_zero, List.set_cons_succ]
      refine tkYes 4 (v := ?_) rfl (by kernel_rfl) (fun _ _ _ h => h) rfl ?_ hS ?_
      rotate_left
      · intro W hW; have hfd := run_bf0; go_simp; (try with_reducible rfl)
      simp only [Act.put, List.setIfInBounds_toArray, List.set_cons_zero, List.set_cons_succ]
      refine rnOne 7 rfl (by kernel_rfl) rfl (fun K hK => ?_)
      go_simp
      with_reducible refine (CF.out _ hS).mono ?_
      rintro e w8 ⟨rfl, hb⟩
      have hS2 := hS.on hb
      clear hS hb
      have hS := hS2
      clear hS2
      refine hK.out _ _ hS (fun _ => ?_)
      clear hK K
      try simp only [Act.put, List.setIfInBounds_toArray, List.set_cons_zero, List.set_cons_succ]
      refine tkYes 8 (v := ?_) rfl (by kernel_rfl) (fun _ _ _ h => h) rfl ?_ hS ?_
      rotate_left
      · intro W hW; go_simp; (try with_reducible rfl)
      simp only [Act.put, List.setIfInBounds_toArray, List.set_cons_zero, List.set_cons_succ]
      refine wpAnyH_done (by kernel_rfl) ?_ _
      have R9 := Lib.hid hS
      clear hS
      go_wp2_with fail
      go_ret
      exact ⟨rfl, R9.out.b⟩
    · have hk2 : (r.kind != 1) = true := by simpa using hk
      by_cases he : r.epoch = s.ep
      · have he2 : (r.epoch != s.ep) = false := by simpa using he
        have HE := Lib.hid he
        clear he
        go_region
        go_upto_region 5 with fail
        have R5 := Lib.hid (R1.out.on (Below.refl w1.heap.size w1).drew)
        clear c0 c1 b4 lq lg hk2 he2
        generalize w1.drew = w5 at *
        have hk7 : r.kind = 2 ∨ r.kind = 3 ∨ r.kind = 4 ∨ r.kind = 5 ∨ r.kind = 6 ∨ r.kind = 7 := by omega
        clear hk hkd
        rcases hk7 with hk | hk | hk | hk | hk | hk
        · have HK := Lib.hid hk
          clear hk
          have AE := Lib.hid (AN.out.trans (Bk.chk_two HR.out HK.out HE.out))
          have CF : Hid (∀ W, RdC w q s ru rv lo ko H K g r W → Calls Tryz.prog 63 #[.pointer (some ⟨q, 0, none⟩), .agg (Rc.cells r)] W (BRet (.int .i64 ans) W)) := fun W h => by rw [AE.out]; exact bref2_any q s ru rv lo ko H K W h.bd (HT.out.on h.b) r HI.out
          refine wp_region_held_drew (S := RdC w q s ru rv lo ko H K g r) (by kernel_rfl) (R5.out.on (Below.refl _ _).drew) (fun hS => ?_)
          refine tkYes 1 (v := ?_) rfl (by kernel_rfl) (fun _ _ _ h => h) rfl ?_ hS ?_
          rotate_left
          · intro W hW; go_simp; (try with_reducible rfl)
          simp only [Act.put, List.setIfInBounds_toArray, List.set_cons_zero, List.set_cons_succ]
          refine tkYes 2 (v := ?_) rfl (by kernel_rfl) (fun _ _ _ h => h) rfl ?_ hS ?_
          rotate_left
          · intro W hW; have c0 := hW.rc.cs.c0; rw [HK.out] at c0; have lg := hW.rc.cs.lt; go_simp; (try with_reducible rfl)
          simp only [Act.put, List.setIfInBounds_toArray, List.set_cons_zero, List.set_cons_succ]
          refine tkYes 5 (v := ?_) rfl (by kernel_rfl) (fun _ _ _ h => h) rfl ?_ hS ?_
          rotate_left
          · intro W hW; go_simp; (try with_reducible rfl)
          simp only [Act.put, List.setIfInBounds_toArray, List.set_cons_zero, List.set_cons_succ]
          refine tkYes 6 (v := .agg (Rc.cells r)) rfl (by kernel_rfl) (fun _ _ _ h => h) rfl (fun W hW => take_rec (.tmp 3) rfl g r rfl hW.rc) hS ?_
          simp only [Act.put, List.setIfInBounds_toArray, List.set_cons_zero, List.set_cons_succ]
          refine rnOne 0 rfl (by kernel_rfl) rfl (fun K hK => ?_)
          go_simp
          with_reducible refine (brules_any _).mono ?_
          rintro e w7 ⟨m, rfl, hm, hb⟩
          have M7 := Lib.hid hm
          clear hm
          have hS2 := hS.on hb
          clear hS hb
          have hS := hS2
          clear hS2
          refine hK.out _ _ hS (fun _ => ?_)
          clear hK K
          try simp only [Act.put, List.setIfInBounds_toArray, List.set_cons_zero, List.set_cons_succ]
          refine rnOne 3 rfl (by kernel_rfl) rfl (fun K hK => ?_)
          have hlk := M7.out.look2
          go_simp
          refine hK.out _ _ hS (fun _ => ?_)
          clear hK K
          try simp only [Act.put, List.setIfInBounds_toArray, List.set_cons_zero, List.set_cons_succ]
          refine tkYes 4 (v := ?_) rfl (by kernel_rfl) (fun _ _ _ h => h) rfl ?_ hS ?_
          rotate_left
          · intro W hW; have hfd := run_bf0; go_simp; (try with_reducible rfl)
          simp only [Act.put, List.setIfInBounds_toArray, List.set_cons_zero, List.set_cons_succ]
          refine rnOne 7 rfl (by kernel_rfl) rfl (fun K hK => ?_)
          go_simp
          with_reducible refine (CF.out _ hS).mono ?_
          rintro e w8 ⟨rfl, hb⟩
          have hS2 := hS.on hb
          clear hS hb
          have hS := hS2
          clear hS2
          refine hK.out _ _ hS (fun _ => ?_)
          clear hK K
          try simp only [Act.put, List.setIfInBounds_toArray, List.set_cons_zero, List.set_cons_succ]
          refine tkYes 8 (v := ?_) rfl (by kernel_rfl) (fun _ _ _ h => h) rfl ?_ hS ?_
          rotate_left
          · intro W hW; go_simp; (try with_reducible rfl)
          simp only [Act.put, List.setIfInBounds_toArray, List.set_cons_zero, List.set_cons_succ]
          refine wpAnyH_done (by kernel_rfl) ?_ _
          have R9 := Lib.hid hS
          clear hS
          go_wp2_with fail
          go_ret
          exact ⟨rfl, R9.out.b⟩
        · have HK := Lib.hid hk
          clear hk
          have AE := Lib.hid (AN.out.trans (Bk.chk_three HR.out HK.out HE.out))
          have CF : Hid (∀ W, RdC w q s ru rv lo ko H K g r W → Calls Tryz.prog 65 #[.pointer (some ⟨q, 0, none⟩), .agg (Rc.cells r)] W (BRet (.int .i64 ans) W)) := fun W h => by rw [AE.out]; exact bref3_any q s ru rv lo ko H K W h.bd (HT.out.on h.b) r HI.out
          refine wp_region_held_drew (S := RdC w q s ru rv lo ko H K g r) (by kernel_rfl) (R5.out.on (Below.refl _ _).drew) (fun hS => ?_)
          refine tkYes 1 (v := ?_) rfl (by kernel_rfl) (fun _ _ _ h => h) rfl ?_ hS ?_
          rotate_left
          · intro W hW; go_simp; (try with_reducible rfl)
          simp only [Act.put, List.setIfInBounds_toArray, List.set_cons_zero, List.set_cons_succ]
          refine tkYes 2 (v := ?_) rfl (by kernel_rfl) (fun _ _ _ h => h) rfl ?_ hS ?_
          rotate_left
          · intro W hW; have c0 := hW.rc.cs.c0; rw [HK.out] at c0; have lg := hW.rc.cs.lt; go_simp; (try with_reducible rfl)
          simp only [Act.put, List.setIfInBounds_toArray, List.set_cons_zero, List.set_cons_succ]
          refine tkYes 5 (v := ?_) rfl (by kernel_rfl) (fun _ _ _ h => h) rfl ?_ hS ?_
          rotate_left
          · intro W hW; go_simp; (try with_reducible rfl)
          simp only [Act.put, List.setIfInBounds_toArray, List.set_cons_zero, List.set_cons_succ]
          refine tkYes 6 (v := .agg (Rc.cells r)) rfl (by kernel_rfl) (fun _ _ _ h => h) rfl (fun W hW => take_rec (.tmp 3) rfl g r rfl hW.rc) hS ?_
          simp only [Act.put, List.setIfInBounds_toArray, List.set_cons_zero, List.set_cons_succ]
          refine rnOne 0 rfl (by kernel_rfl) rfl (fun K hK => ?_)
          go_simp
          with_reducible refine (brules_any _).mono ?_
          rintro e w7 ⟨m, rfl, hm, hb⟩
          have M7 := Lib.hid hm
          clear hm
          have hS2 := hS.on hb
          clear hS hb
          have hS := hS2
          clear hS2
          refine hK.out _ _ hS (fun _ => ?_)
          clear hK K
          try simp only [Act.put, List.setIfInBounds_toArray, List.set_cons_zero, List.set_cons_succ]
          refine rnOne 3 rfl (by kernel_rfl) rfl (fun K hK => ?_)
          have hlk := M7.out.look3
          go_simp
          refine hK.out _ _ hS (fun _ => ?_)
          clear hK K
          try simp only [Act.put, List.setIfInBounds_toArray, List.set_cons_zero, List.set_cons_succ]
          refine tkYes 4 (v := ?_) rfl (by kernel_rfl) (fun _ _ _ h => h) rfl ?_ hS ?_
          rotate_left
          · intro W hW; have hfd := run_bf0; go_simp; (try with_reducible rfl)
          simp only [Act.put, List.setIfInBounds_toArray, List.set_cons_zero, List.set_cons_succ]
          refine rnOne 7 rfl (by kernel_rfl) rfl (fun K hK => ?_)
          go_simp
          with_reducible refine (CF.out _ hS).mono ?_
          rintro e w8 ⟨rfl, hb⟩
          have hS2 := hS.on hb
          clear hS hb
          have hS := hS2
          clear hS2
          refine hK.out _ _ hS (fun _ => ?_)
          clear hK K
          try simp only [Act.put, List.setIfInBounds_toArray, List.set_cons_zero, List.set_cons_succ]
          refine tkYes 8 (v := ?_) rfl (by kernel_rfl) (fun _ _ _ h => h) rfl ?_ hS ?_
          rotate_left
          · intro W hW; go_simp; (try with_reducible rfl)
          simp only [Act.put, List.setIfInBounds_toArray, List.set_cons_zero, List.set_cons_succ]
          refine wpAnyH_done (by kernel_rfl) ?_ _
          have R9 := Lib.hid hS
          clear hS
          go_wp2_with fail
          go_ret
          exact ⟨rfl, R9.out.b⟩
        · have HK := Lib.hid hk
          clear hk
          have AE := Lib.hid (AN.out.trans (Bk.chk_four HR.out HK.out HE.out))
          have CF : Hid (∀ W, RdC w q s ru rv lo ko H K g r W → Calls Tryz.prog 67 #[.pointer (some ⟨q, 0, none⟩), .agg (Rc.cells r)] W (BRet (.int .i64 ans) W)) := fun W h => by rw [AE.out]; exact bref4_any q s ru rv lo ko H K W h.bd (HT.out.on h.b) r HI.out
          refine wp_region_held_drew (S := RdC w q s ru rv lo ko H K g r) (by kernel_rfl) (R5.out.on (Below.refl _ _).drew) (fun hS => ?_)
          refine tkYes 1 (v := ?_) rfl (by kernel_rfl) (fun _ _ _ h => h) rfl ?_ hS ?_
          rotate_left
          · intro W hW; go_simp; (try with_reducible rfl)
          simp only [Act.put, List.setIfInBounds_toArray, List.set_cons_zero, List.set_cons_succ]
          refine tkYes 2 (v := ?_) rfl (by kernel_rfl) (fun _ _ _ h => h) rfl ?_ hS ?_
          rotate_left
          · intro W hW; have c0 := hW.rc.cs.c0; rw [HK.out] at c0; have lg := hW.rc.cs.lt; go_simp; (try with_reducible rfl)
          simp only [Act.put, List.setIfInBounds_toArray, List.set_cons_zero, List.set_cons_succ]
          refine tkYes 5 (v := ?_) rfl (by kernel_rfl) (fun _ _ _ h => h) rfl ?_ hS ?_
          rotate_left
          · intro W hW; go_simp; (try with_reducible rfl)
          simp only [Act.put, List.setIfInBounds_toArray, List.set_cons_zero, List.set_cons_succ]
          refine tkYes 6 (v := .agg (Rc.cells r)) rfl (by kernel_rfl) (fun _ _ _ h => h) rfl (fun W hW => take_rec (.tmp 3) rfl g r rfl hW.rc) hS ?_
          simp only [Act.put, List.setIfInBounds_toArray, List.set_cons_zero, List.set_cons_succ]
          refine rnOne 0 rfl (by kernel_rfl) rfl (fun K hK => ?_)
          go_simp
          with_reducible refine (brules_any _).mono ?_
          rintro e w7 ⟨m, rfl, hm, hb⟩
          have M7 := Lib.hid hm
          clear hm
          have hS2 := hS.on hb
          clear hS hb
          have hS := hS2
          clear hS2
          refine hK.out _ _ hS (fun _ => ?_)
          clear hK K
          try simp only [Act.put, List.setIfInBounds_toArray, List.set_cons_zero, List.set_cons_succ]
          refine rnOne 3 rfl (by kernel_rfl) rfl (fun K hK => ?_)
          have hlk := M7.out.look4
          go_simp
          refine hK.out _ _ hS (fun _ => ?_)
          clear hK K
          try simp only [Act.put, List.setIfInBounds_toArray, List.set_cons_zero, List.set_cons_succ]
          refine tkYes 4 (v := ?_) rfl (by kernel_rfl) (fun _ _ _ h => h) rfl ?_ hS ?_
          rotate_left
          · intro W hW; have hfd := run_bf0; go_simp; (try with_reducible rfl)
          simp only [Act.put, List.setIfInBounds_toArray, List.set_cons_zero, List.set_cons_succ]
          refine rnOne 7 rfl (by kernel_rfl) rfl (fun K hK => ?_)
          go_simp
          with_reducible refine (CF.out _ hS).mono ?_
          rintro e w8 ⟨rfl, hb⟩
          have hS2 := hS.on hb
          clear hS hb
          have hS := hS2
          clear hS2
          refine hK.out _ _ hS (fun _ => ?_)
          clear hK K
          try simp only [Act.put, List.setIfInBounds_toArray, List.set_cons_zero, List.set_cons_succ]
          refine tkYes 8 (v := ?_) rfl (by kernel_rfl) (fun _ _ _ h => h) rfl ?_ hS ?_
          rotate_left
          · intro W hW; go_simp; (try with_reducible rfl)
          simp only [Act.put, List.setIfInBounds_toArray, List.set_cons_zero, List.set_cons_succ]
          refine wpAnyH_done (by kernel_rfl) ?_ _
          have R9 := Lib.hid hS
          clear hS
          go_wp2_with fail
          go_ret
          exact ⟨rfl, R9.out.b⟩
        · have HK := Lib.hid hk
          clear hk
          have AE := Lib.hid (AN.out.trans (Bk.chk_five HR.out HK.out HE.out))
          have CF : Hid (∀ W, RdC w q s ru rv lo ko H K g r W → Calls Tryz.prog 69 #[.pointer (some ⟨q, 0, none⟩), .agg (Rc.cells r)] W (BRet (.int .i64 ans) W)) := fun W h => by rw [AE.out]; exact bref5_any q s ru rv lo ko H K W h.bd (HT.out.on h.b) r HI.out
          refine wp_region_held_drew (S := RdC w q s ru rv lo ko H K g r) (by kernel_rfl) (R5.out.on (Below.refl _ _).drew) (fun hS => ?_)
          refine tkYes 1 (v := ?_) rfl (by kernel_rfl) (fun _ _ _ h => h) rfl ?_ hS ?_
          rotate_left
          · intro W hW; go_simp; (try with_reducible rfl)
          simp only [Act.put, List.setIfInBounds_toArray, List.set_cons_zero, List.set_cons_succ]
          refine tkYes 2 (v := ?_) rfl (by kernel_rfl) (fun _ _ _ h => h) rfl ?_ hS ?_
          rotate_left
          · intro W hW; have c0 := hW.rc.cs.c0; rw [HK.out] at c0; have lg := hW.rc.cs.lt; go_simp; (try with_reducible rfl)
          simp only [Act.put, List.setIfInBounds_toArray, List.set_cons_zero, List.set_cons_succ]
          refine tkYes 5 (v := ?_) rfl (by kernel_rfl) (fun _ _ _ h => h) rfl ?_ hS ?_
          rotate_left
          · intro W hW; go_simp; (try with_reducible rfl)
          simp only [Act.put, List.setIfInBounds_toArray, List.set_cons_zero, List.set_cons_succ]
          refine tkYes 6 (v := .agg (Rc.cells r)) rfl (by kernel_rfl) (fun _ _ _ h => h) rfl (fun W hW => take_rec (.tmp 3) rfl g r rfl hW.rc) hS ?_
          simp only [Act.put, List.setIfInBounds_toArray, List.set_cons_zero, List.set_cons_succ]
          refine rnOne 0 rfl (by kernel_rfl) rfl (fun K hK => ?_)
          go_simp
          with_reducible refine (brules_any _).mono ?_
          rintro e w7 ⟨m, rfl, hm, hb⟩
          have M7 := Lib.hid hm
          clear hm
          have hS2 := hS.on hb
          clear hS hb
          have hS := hS2
          clear hS2
          refine hK.out _ _ hS (fun _ => ?_)
          clear hK K
          try simp only [Act.put, List.setIfInBounds_toArray, List.set_cons_zero, List.set_cons_succ]
          refine rnOne 3 rfl (by kernel_rfl) rfl (fun K hK => ?_)
          have hlk := M7.out.look5
          go_simp
          refine hK.out _ _ hS (fun _ => ?_)
          clear hK K
          try simp only [Act.put, List.setIfInBounds_toArray, List.set_cons_zero, List.set_cons_succ]
          refine tkYes 4 (v := ?_) rfl (by kernel_rfl) (fun _ _ _ h => h) rfl ?_ hS ?_
          rotate_left
          · intro W hW; have hfd := run_bf0; go_simp; (try with_reducible rfl)
          simp only [Act.put, List.setIfInBounds_toArray, List.set_cons_zero, List.set_cons_succ]
          refine rnOne 7 rfl (by kernel_rfl) rfl (fun K hK => ?_)
          go_simp
          with_reducible refine (CF.out _ hS).mono ?_
          rintro e w8 ⟨rfl, hb⟩
          have hS2 := hS.on hb
          clear hS hb
          have hS := hS2
          clear hS2
          refine hK.out _ _ hS (fun _ => ?_)
          clear hK K
          try simp only [Act.put, List.setIfInBounds_toArray, List.set_cons_zero, List.set_cons_succ]
          refine tkYes 8 (v := ?_) rfl (by kernel_rfl) (fun _ _ _ h => h) rfl ?_ hS ?_
          rotate_left
          · intro W hW; go_simp; (try with_reducible rfl)
          simp only [Act.put, List.setIfInBounds_toArray, List.set_cons_zero, List.set_cons_succ]
          refine wpAnyH_done (by kernel_rfl) ?_ _
          have R9 := Lib.hid hS
          clear hS
          go_wp2_with fail
          go_ret
          exact ⟨rfl, R9.out.b⟩
        · have HK := Lib.hid hk
          clear hk
          have AE := Lib.hid (AN.out.trans (Bk.chk_six HR.out HK.out HE.out))
          have CF : Hid (∀ W, RdC w q s ru rv lo ko H K g r W → Calls Tryz.prog 71 #[.pointer (some ⟨q, 0, none⟩), .agg (Rc.cells r)] W (BRet (.int .i64 ans) W)) := fun W h => by rw [AE.out]; exact bref6_any q s ru rv lo ko H K W h.bd (HT.out.on h.b) r HI.out HR.out HK.out
          refine wp_region_held_drew (S := RdC w q s ru rv lo ko H K g r) (by kernel_rfl) (R5.out.on (Below.refl _ _).drew) (fun hS => ?_)
          refine tkYes 1 (v := ?_) rfl (by kernel_rfl) (fun _ _ _ h => h) rfl ?_ hS ?_
          rotate_left
          · intro W hW; go_simp; (try with_reducible rfl)
          simp only [Act.put, List.setIfInBounds_toArray, List.set_cons_zero, List.set_cons_succ]
          refine tkYes 2 (v := ?_) rfl (by kernel_rfl) (fun _ _ _ h => h) rfl ?_ hS ?_
          rotate_left
          · intro W hW; have c0 := hW.rc.cs.c0; rw [HK.out] at c0; have lg := hW.rc.cs.lt; go_simp; (try with_reducible rfl)
          simp only [Act.put, List.setIfInBounds_toArray, List.set_cons_zero, List.set_cons_succ]
          refine tkYes 5 (v := ?_) rfl (by kernel_rfl) (fun _ _ _ h => h) rfl ?_ hS ?_
          rotate_left
          · intro W hW; go_simp; (try with_reducible rfl)
          simp only [Act.put, List.setIfInBounds_toArray, List.set_cons_zero, List.set_cons_succ]
          refine tkYes 6 (v := .agg (Rc.cells r)) rfl (by kernel_rfl) (fun _ _ _ h => h) rfl (fun W hW => take_rec (.tmp 3) rfl g r rfl hW.rc) hS ?_
          simp only [Act.put, List.setIfInBounds_toArray, List.set_cons_zero, List.set_cons_succ]
          refine rnOne 0 rfl (by kernel_rfl) rfl (fun K hK => ?_)
          go_simp
          with_reducible refine (brules_any _).mono ?_
          rintro e w7 ⟨m, rfl, hm, hb⟩
          have M7 := Lib.hid hm
          clear hm
          have hS2 := hS.on hb
          clear hS hb
          have hS := hS2
          clear hS2
          refine hK.out _ _ hS (fun _ => ?_)
          clear hK K
          try simp only [Act.put, List.setIfInBounds_toArray, List.set_cons_zero, List.set_cons_succ]
          refine rnOne 3 rfl (by kernel_rfl) rfl (fun K hK => ?_)
          have hlk := M7.out.look6
          go_simp
          refine hK.out _ _ hS (fun _ => ?_)
          clear hK K
          try simp only [Act.put, List.setIfInBounds_toArray, List.set_cons_zero, List.set_cons_succ]
          refine tkYes 4 (v := ?_) rfl (by kernel_rfl) (fun _ _ _ h => h) rfl ?_ hS ?_
          rotate_left
          · intro W hW; have hfd := run_bf0; go_simp; (try with_reducible rfl)
          simp only [Act.put, List.setIfInBounds_toArray, List.set_cons_zero, List.set_cons_succ]
          refine rnOne 7 rfl (by kernel_rfl) rfl (fun K hK => ?_)
          go_simp
          with_reducible refine (CF.out _ hS).mono ?_
          rintro e w8 ⟨rfl, hb⟩
          have hS2 := hS.on hb
          clear hS hb
          have hS := hS2
          clear hS2
          refine hK.out _ _ hS (fun _ => ?_)
          clear hK K
          try simp only [Act.put, List.setIfInBounds_toArray, List.set_cons_zero, List.set_cons_succ]
          refine tkYes 8 (v := ?_) rfl (by kernel_rfl) (fun _ _ _ h => h) rfl ?_ hS ?_
          rotate_left
          · intro W hW; go_simp; (try with_reducible rfl)
          simp only [Act.put, List.setIfInBounds_toArray, List.set_cons_zero, List.set_cons_succ]
          refine wpAnyH_done (by kernel_rfl) ?_ _
          have R9 := Lib.hid hS
          clear hS
          go_wp2_with fail
          go_ret
          exact ⟨rfl, R9.out.b⟩
        · have HK := Lib.hid hk
          clear hk
          have AE := Lib.hid (AN.out.trans (Bk.chk_seven HR.out HK.out HE.out))
          have CF : Hid (∀ W, RdC w q s ru rv lo ko H K g r W → Calls Tryz.prog 73 #[.pointer (some ⟨q, 0, none⟩), .agg (Rc.cells r)] W (BRet (.int .i64 ans) W)) := fun W h => by rw [AE.out]; exact bref7_any q s ru rv lo ko H K W h.bd (HT.out.on h.b) r HI.out
          refine wp_region_held_drew (S := RdC w q s ru rv lo ko H K g r) (by kernel_rfl) (R5.out.on (Below.refl _ _).drew) (fun hS => ?_)
          refine tkYes 1 (v := ?_) rfl (by kernel_rfl) (fun _ _ _ h => h) rfl ?_ hS ?_
          rotate_left
          · intro W hW; go_simp; (try with_reducible rfl)
          simp only [Act.put, List.setIfInBounds_toArray, List.set_cons_zero, List.set_cons_succ]
          refine tkYes 2 (v := ?_) rfl (by kernel_rfl) (fun _ _ _ h => h) rfl ?_ hS ?_
          rotate_left
          · intro W hW; have c0 := hW.rc.cs.c0; rw [HK.out] at c0; have lg := hW.rc.cs.lt; go_simp; (try with_reducible rfl)
          simp only [Act.put, List.setIfInBounds_toArray, List.set_cons_zero, List.set_cons_succ]
          refine tkYes 5 (v := ?_) rfl (by kernel_rfl) (fun _ _ _ h => h) rfl ?_ hS ?_
          rotate_left
          · intro W hW; go_simp; (try with_reducible rfl)
          simp only [Act.put, List.setIfInBounds_toArray, List.set_cons_zero, List.set_cons_succ]
          refine tkYes 6 (v := .agg (Rc.cells r)) rfl (by kernel_rfl) (fun _ _ _ h => h) rfl (fun W hW => take_rec (.tmp 3) rfl g r rfl hW.rc) hS ?_
          simp only [Act.put, List.setIfInBounds_toArray, List.set_cons_zero, List.set_cons_succ]
          refine rnOne 0 rfl (by kernel_rfl) rfl (fun K hK => ?_)
          go_simp
          with_reducible refine (brules_any _).mono ?_
          rintro e w7 ⟨m, rfl, hm, hb⟩
          have M7 := Lib.hid hm
          clear hm
          have hS2 := hS.on hb
          clear hS hb
          have hS := hS2
          clear hS2
          refine hK.out _ _ hS (fun _ => ?_)
          clear hK K
          try simp only [Act.put, List.setIfInBounds_toArray, List.set_cons_zero, List.set_cons_succ]
          refine rnOne 3 rfl (by kernel_rfl) rfl (fun K hK => ?_)
          have hlk := M7.out.look7
          go_simp
          refine hK.out _ _ hS (fun _ => ?_)
          clear hK K
          try simp only [Act.put, List.setIfInBounds_toArray, List.set_cons_zero, List.set_cons_succ]
          refine tkYes 4 (v := ?_) rfl (by kernel_rfl) (fun _ _ _ h => h) rfl ?_ hS ?_
          rotate_left
          · intro W hW; have hfd := run_bf0; go_simp; (try with_reducible rfl)
          simp only [Act.put, List.setIfInBounds_toArray, List.set_cons_zero, List.set_cons_succ]
          refine rnOne 7 rfl (by kernel_rfl) rfl (fun K hK => ?_)
          go_simp
          with_reducible refine (CF.out _ hS).mono ?_
          rintro e w8 ⟨rfl, hb⟩
          have hS2 := hS.on hb
          clear hS hb
          have hS := hS2
          clear hS2
          refine hK.out _ _ hS (fun _ => ?_)
          clear hK K
          try simp only [Act.put, List.setIfInBounds_toArray, List.set_cons_zero, List.set_cons_succ]
          refine tkYes 8 (v := ?_) rfl (by kernel_rfl) (fun _ _ _ h => h) rfl ?_ hS ?_
          rotate_left
          · intro W hW; go_simp; (try with_reducible rfl)
          simp only [Act.put, List.setIfInBounds_toArray, List.set_cons_zero, List.set_cons_succ]
          refine wpAnyH_done (by kernel_rfl) ?_ _
          have R9 := Lib.hid hS
          clear hS
          go_wp2_with fail
          go_ret
          exact ⟨rfl, R9.out.b⟩
      · have he2 : (r.epoch != s.ep) = true := by simpa using he
        have E : ans = 8 := AN.out.trans (Bk.chk_ep HR.out hk he)
        subst E
        clear hk he
        go_region
        go_wp2_with fail
        go_ret
        exact ⟨rfl, R1.out.b.drew⟩
end Go.Proofs.YtnacjhnfkkddcaaGreatDoor
