/-
  The walk of the statement SpecBack, of whatever package spec keeps SC.
-/
import Derived.Test.YtijloajkiannlaaDoorSpSC
import Derived.Test.YtijloajkiannlaaDoorSpEq
import Derived.Test.YtijloajkiannlaaDoorRegion
import Derived.Test.YtijloajkiannlaaDoorSpecMakesWalk
namespace Go.Proofs.YtijloajkiannlaaDoor
open Go.RowKit
set_option linter.unusedSimpArgs false

/-- What is asked of the document's Good. -/
def GoodC : Prop := ∀ s W, Spc.In s → Calls Tryd.prog 10 #[Spc.val s] W (APos W (Spc.val (Spc.good s)))
theorem may_in {s : Spc.Sp} (h : Spc.May s) : Spc.In s := fun n hn => by have := h.small n hn; unfold Spc.i64; omega
/-- A block that holds a spec. -/
structure Bx (w : World) (g : Nat) (s : Spc.Sp) : Prop where
  at_ : SpAt w g s
  lt : g < w.heap.size
theorem Bx.on {w w' : World} {g : Nat} {s : Spc.Sp} (h : Bx w g s) (hb : Below w.heap.size w w') : Bx w' g s := ⟨h.at_.below h.lt hb, Nat.lt_of_lt_of_le h.lt hb.size⟩
theorem Bx.new (w : World) (s : Spc.Sp) : Bx (w.alloc (.cells (Spc.cells s) 25)) w.heap.size s := ⟨spAt_of (heap_alloc_new w _), by simp⟩
theorem text_len (s : Spc.Sp) (hin : Spc.In s) : (Spc.text s).length ≤ 1000 := by
  have key : ∀ j, 1 ≤ j → j ≤ 12 → (tx s j).length ≤ 21 * j := by
    intro j
    induction j with
    | zero => intro h; omega
    | succ j ih =>
      intro _ h2
      by_cases h0 : j = 0
      · subst h0
        rw [tx_one]
        have := digs_len (in_at hin (j := 0) (by omega))
        exact Nat.le_trans this (by omega)
      · have h3 := ih (by omega) (by omega)
        rw [tx_next s j (by omega) (by omega), List.length_append, List.length_append]
        have := digs_len (in_at hin (j := j) (by omega))
        simp only [List.length_singleton]
        omega
  rw [← tx_end]
  exact Nat.le_trans (key 12 (by omega) (Nat.le_refl _)) (by omega)
set_option maxRecDepth 100000 in
set_option maxHeartbeats 3200000 in
theorem sback_walk (hS : SC) (hG : GoodC) (s : Spc.Sp) (hin : Spc.In s) (w : World) (ht : Tb w) :
    Calls Tryd.prog 4 #[Spc.val s] w fun e w' => e = .returned (.bool true) ∧ Below w.heap.size w w' := by
  have HS := Lib.hid hS
  have HTB := Lib.hid ht
  clear ht
  have HM := Lib.hid (Spc.good_may s)
  have CG := Lib.hid (fun W => hG s W hin)
  obtain ⟨g, hg⟩ : ∃ g, g = Spc.good s := ⟨_, rfl⟩
  rw [← hg] at HM CG
  have CT := Lib.hid (fun W (h : Tb W) => HS.out.text g W h (may_in HM.out))
  have CR := Lib.hid (fun W (h : Tb W) => HS.out.read (Spc.text g) W h (Spc.text_byte g) (text_len g (may_in HM.out)))
  unfold RPost at CR
  rw [(Spc.back HM.out).1, (Spc.back HM.out).2] at CR
  have CF := Lib.hid (fun W => HS.out.fields s W hin)
  have CM : Hid (∀ A n c W, SlI W A n c (Spc.flds s) → n ≤ 1000 → Calls Tryd.prog 12 #[.slice A n c] W (APos W (.tuple #[Spc.val s, .int .i64 0]))) := fun A n c W h hn => by
    have := HS.out.make (Spc.flds s) A n c W h hin hn
    rw [(mk_yes (Spc.flds_length s)).1, (mk_yes (Spc.flds_length s)).2, Spc.of_flds] at this
    exact this
  have CS := Lib.hid (fun W (h : Tb W) => HS.out.text s W h hin)
  have CRT := Lib.hid (fun W => rtext_any s hin W)
  have hqs := fun W => spec_same s W
  have hqg := fun W => spec_same g W
  have B1 := Lib.hid ((Below.refl w.heap.size w).alloc (Nat.le_refl _) (.cells (Spc.cells s) 25))
  have X1 := Lib.hid (Bx.new w s)
  clear hS hG hin hg
  unfold Spc.val at *
  unfold Spc.cells at *
  go_enter Tryd.func4, Tryd.ntmps4
  go_wp2_with fail
  obtain ⟨gs, hgs⟩ : ∃ gs, gs = w.heap.size := ⟨_, rfl⟩
  rw [← hgs] at X1 ⊢
  generalize w.alloc (.cells #[.int .i64 s.v, .int .i64 s.d, .int .i64 s.u, .int .i64 s.n, .int .i64 s.g, .int .i64 s.a, .int .i64 s.b, .int .i64 s.c, .int .i64 s.e, .int .i64 s.w, .int .i64 s.x, .int .i64 s.k] 25) = w1 at *
  clear hgs
  refine (slives_any HS.out w1 (HTB.out.on B1.out)).mono ?_
  rintro e w2 ⟨rfl, hb2⟩
  have X2 := Lib.hid (X1.out.on hb2)
  have B2 := Lib.hid (B1.out.trans (hb2.mono B1.out.size))
  obtain ⟨f0, f1, f2, f3, f4, f5, f6, f7, f8, f9, f10, f11⟩ := X2.out.at_
  clear hb2 X1 B1
  go_wp2_with fail
  refine (CG.out w2).mono ?_
  rintro e w3 ⟨rfl, hb3⟩
  have X3 := Lib.hid (X2.out.on hb3)
  have B3 := Lib.hid (B2.out.trans (hb3.mono B2.out.size))
  clear hb3 X2 B2 CG f0  f1  f2  f3  f4  f5  f6  f7  f8  f9  f10  f11
  have hn4 := Bx.new w3 g
  have hb4 := (Below.refl w3.heap.size w3).alloc (Nat.le_refl _) (.cells (Spc.cells g) 25)
  have X4 := Lib.hid (X3.out.on hb4)
  have G4 := Lib.hid hn4
  have B4 := Lib.hid (B3.out.trans (hb4.mono B3.out.size))
  obtain ⟨f0, f1, f2, f3, f4, f5, f6, f7, f8, f9, f10, f11⟩ := hn4.at_
  clear hn4 hb4 X3 B3
  unfold Spc.cells at *
  go_wp2_with fail
  obtain ⟨gg, hgg⟩ : ∃ gg, gg = w3.heap.size := ⟨_, rfl⟩
  rw [← hgg] at G4 ⊢
  generalize w3.alloc (.cells #[.int .i64 g.v, .int .i64 g.d, .int .i64 g.u, .int .i64 g.n, .int .i64 g.g, .int .i64 g.a, .int .i64 g.b, .int .i64 g.c, .int .i64 g.e, .int .i64 g.w, .int .i64 g.x, .int .i64 g.k] 25) = w4 at *
  clear hgg f0  f1  f2  f3  f4  f5  f6  f7  f8  f9  f10  f11
  refine (CT.out w4 (HTB.out.on B4.out)).mono ?_
  rintro e w5 ⟨rfl, hb5⟩
  have X5 := Lib.hid (X4.out.on hb5)
  have G5 := Lib.hid (G4.out.on hb5)
  have B5 := Lib.hid (B4.out.trans (hb5.mono B4.out.size))
  clear hb5 X4 G4 B4 CT
  go_wp2_with fail
  refine (CR.out w5 (HTB.out.on B5.out)).mono ?_
  rintro e w6 ⟨rfl, hb6⟩
  have X6 := Lib.hid (X5.out.on hb6)
  have G6 := Lib.hid (G5.out.on hb6)
  have B6 := Lib.hid (B5.out.trans (hb6.mono B5.out.size))
  clear hb6 X5 G5 B5 CR
  have hn7 := Bx.new w6 g
  have hb7 := (Below.refl w6.heap.size w6).alloc (Nat.le_refl _) (.cells (Spc.cells g) 25)
  have X7 := Lib.hid (X6.out.on hb7)
  have G7 := Lib.hid (G6.out.on hb7)
  have R7 := Lib.hid hn7
  have B7 := Lib.hid (B6.out.trans (hb7.mono B6.out.size))
  obtain ⟨f0, f1, f2, f3, f4, f5, f6, f7, f8, f9, f10, f11⟩ := X7.out.at_
  clear hn7 hb7 X6 G6 B6
  unfold Spc.cells at *
  go_wp2_with fail
  obtain ⟨gr, hgr⟩ : ∃ gr, gr = w6.heap.size := ⟨_, rfl⟩
  rw [← hgr] at R7 ⊢
  generalize w6.alloc (.cells #[.int .i64 g.v, .int .i64 g.d, .int .i64 g.u, .int .i64 g.n, .int .i64 g.g, .int .i64 g.a, .int .i64 g.b, .int .i64 g.c, .int .i64 g.e, .int .i64 g.w, .int .i64 g.x, .int .i64 g.k] 25) = w7 at *
  clear hgr f0  f1  f2  f3  f4  f5  f6  f7  f8  f9  f10  f11
  refine (CF.out w7).mono ?_
  rintro e w8 ⟨A8, c8, rfl, hs8, hb8⟩
  have X8 := Lib.hid (X7.out.on hb8)
  have G8 := Lib.hid (G7.out.on hb8)
  have R8 := Lib.hid (R7.out.on hb8)
  have B8 := Lib.hid (B7.out.trans (hb8.mono B7.out.size))
  have S8 := Lib.hid hs8
  clear hb8 X7 G7 R7 B7 CF hs8
  go_wp2_with fail
  refine (CM.out _ _ _ w8 S8.out (by rw [Spc.flds_length]; omega)).mono ?_
  rintro e w9 ⟨rfl, hb9⟩
  have X9 := Lib.hid (X8.out.on hb9)
  have G9 := Lib.hid (G8.out.on hb9)
  have R9 := Lib.hid (R8.out.on hb9)
  have B9 := Lib.hid (B8.out.trans (hb9.mono B8.out.size))
  clear hb9 X8 G8 R8 B8 CM S8
  have hnA := Bx.new w9 s
  have hbA := (Below.refl w9.heap.size w9).alloc (Nat.le_refl _) (.cells (Spc.cells s) 25)
  have XA := Lib.hid (X9.out.on hbA)
  have GA := Lib.hid (G9.out.on hbA)
  have RA := Lib.hid (R9.out.on hbA)
  have MA := Lib.hid hnA
  have BA := Lib.hid (B9.out.trans (hbA.mono B9.out.size))
  clear hnA hbA X9 G9 R9 B9
  unfold Spc.cells at *
  go_wp2_with fail
  obtain ⟨gm, hgm⟩ : ∃ gm, gm = w9.heap.size := ⟨_, rfl⟩
  rw [← hgm] at MA ⊢
  generalize w9.alloc (.cells #[.int .i64 s.v, .int .i64 s.d, .int .i64 s.u, .int .i64 s.n, .int .i64 s.g, .int .i64 s.a, .int .i64 s.b, .int .i64 s.c, .int .i64 s.e, .int .i64 s.w, .int .i64 s.x, .int .i64 s.k] 25) = wa at *
  clear hgm
  refine wp_region_held_drew (S := fun W => Below wa.heap.size wa W) (by kernel_rfl) (Below.refl wa.heap.size wa).drew (fun hS => ?_)
  refine tkYes 0 (v := ?_) rfl (by kernel_rfl) (fun _ _ _ h => h) rfl ?_ hS ?_
  rotate_left
  · intro W hW; obtain ⟨f0, f1, f2, f3, f4, f5, f6, f7, f8, f9, f10, f11⟩ := (RA.out.on hW).at_; go_simp; (try with_reducible rfl)
  simp only [Act.put, List.setIfInBounds_toArray, List.set_cons_zero, List.set_cons_succ]
  refine tkYes 1 (v := ?_) rfl (by kernel_rfl) (fun _ _ _ h => h) rfl ?_ hS ?_
  rotate_left
  · intro W hW; obtain ⟨f0, f1, f2, f3, f4, f5, f6, f7, f8, f9, f10, f11⟩ := (GA.out.on hW).at_; go_simp; (try with_reducible rfl)
  simp only [Act.put, List.setIfInBounds_toArray, List.set_cons_zero, List.set_cons_succ]
  refine tkYes 2 (v := ?_) rfl (by kernel_rfl) (fun _ _ _ h => h) rfl ?_ hS ?_
  rotate_left
  · intro W hW; go_simp; (try with_reducible rfl)
  simp only [Act.put, List.setIfInBounds_toArray, List.set_cons_zero, List.set_cons_succ]
  refine tkYes 3 (v := ?_) rfl (by kernel_rfl) (fun _ _ _ h => h) rfl ?_ hS ?_
  rotate_left
  · intro W hW; go_simp; (try with_reducible rfl)
  simp only [Act.put, List.setIfInBounds_toArray, List.set_cons_zero, List.set_cons_succ]
  refine tkYes 4 (v := ?_) rfl (by kernel_rfl) (fun _ _ _ h => h) rfl ?_ hS ?_
  rotate_left
  · intro W hW; go_simp; (try with_reducible rfl)
  simp only [Act.put, List.setIfInBounds_toArray, List.set_cons_zero, List.set_cons_succ]
  refine tkYes 5 (v := ?_) rfl (by kernel_rfl) (fun _ _ _ h => h) rfl ?_ hS ?_
  rotate_left
  · intro W hW; go_simp; (try with_reducible rfl)
  simp only [Act.put, List.setIfInBounds_toArray, List.set_cons_zero, List.set_cons_succ]
  refine tkYes 6 (v := ?_) rfl (by kernel_rfl) (fun _ _ _ h => h) rfl ?_ hS ?_
  rotate_left
  · intro W hW; go_simp; (try with_reducible rfl)
  simp only [Act.put, List.setIfInBounds_toArray, List.set_cons_zero, List.set_cons_succ]
  refine tkYes 7 (v := ?_) rfl (by kernel_rfl) (fun _ _ _ h => h) rfl ?_ hS ?_
  rotate_left
  · intro W hW; go_simp; (try with_reducible rfl)
  simp only [Act.put, List.setIfInBounds_toArray, List.set_cons_zero, List.set_cons_succ]
  refine tkYes 8 (v := ?_) rfl (by kernel_rfl) (fun _ _ _ h => h) rfl ?_ hS ?_
  rotate_left
  · intro W hW; obtain ⟨f0, f1, f2, f3, f4, f5, f6, f7, f8, f9, f10, f11⟩ := (XA.out.on hW).at_; go_simp; (try with_reducible rfl)
  simp only [Act.put, List.setIfInBounds_toArray, List.set_cons_zero, List.set_cons_succ]
  refine tkYes 10 (v := ?_) rfl (by kernel_rfl) (fun _ _ _ h => h) rfl ?_ hS ?_
  rotate_left
  · intro W hW; obtain ⟨f0, f1, f2, f3, f4, f5, f6, f7, f8, f9, f10, f11⟩ := (XA.out.on hW).at_; go_simp; (try with_reducible rfl)
  simp only [Act.put, List.setIfInBounds_toArray, List.set_cons_zero, List.set_cons_succ]
  refine rnOne 9 rfl (by kernel_rfl) rfl (fun K hK => ?_)
  go_simp
  refine (CS.out _ ((HTB.out.on BA.out).on hS)).mono ?_
  rintro e wb ⟨rfl, hbx⟩
  have hS2 : Below wa.heap.size wa wb := hS.trans (hbx.mono hS.size)
  clear hbx hS
  have hS := hS2
  clear hS2
  refine hK.out _ _ hS (fun _ => ?_)
  clear hK K
  try simp only [Act.put, List.setIfInBounds_toArray, List.set_cons_zero, List.set_cons_succ]
  refine rnOne 11 rfl (by kernel_rfl) rfl (fun K hK => ?_)
  go_simp
  refine (CRT.out _).mono ?_
  rintro e wc ⟨rfl, hbx⟩
  have hS2 : Below wa.heap.size wa wc := hS.trans (hbx.mono hS.size)
  clear hbx hS
  have hS := hS2
  clear hS2
  refine hK.out _ _ hS (fun _ => ?_)
  clear hK K
  try simp only [Act.put, List.setIfInBounds_toArray, List.set_cons_zero, List.set_cons_succ]
  refine tkYes 12 (v := ?_) rfl (by kernel_rfl) (fun _ _ _ h => h) rfl ?_ hS ?_
  rotate_left
  · intro W hW; go_simp; (try with_reducible rfl)
  simp only [Act.put, List.setIfInBounds_toArray, List.set_cons_zero, List.set_cons_succ]
  refine tkYes 13 (v := ?_) rfl (by kernel_rfl) (fun _ _ _ h => h) rfl ?_ hS ?_
  rotate_left
  · intro W hW; go_simp; (try with_reducible rfl)
  simp only [Act.put, List.setIfInBounds_toArray, List.set_cons_zero, List.set_cons_succ]
  refine tkYes 14 (v := ?_) rfl (by kernel_rfl) (fun _ _ _ h => h) rfl ?_ hS ?_
  rotate_left
  · intro W hW; go_simp; (try with_reducible rfl)
  simp only [Act.put, List.setIfInBounds_toArray, List.set_cons_zero, List.set_cons_succ]
  refine tkYes 15 (v := ?_) rfl (by kernel_rfl) (fun _ _ _ h => h) rfl ?_ hS ?_
  rotate_left
  · intro W hW; obtain ⟨f0, f1, f2, f3, f4, f5, f6, f7, f8, f9, f10, f11⟩ := (MA.out.on hW).at_; go_simp; (try with_reducible rfl)
  simp only [Act.put, List.setIfInBounds_toArray, List.set_cons_zero, List.set_cons_succ]
  refine tkYes 16 (v := ?_) rfl (by kernel_rfl) (fun _ _ _ h => h) rfl ?_ hS ?_
  rotate_left
  · intro W hW; obtain ⟨f0, f1, f2, f3, f4, f5, f6, f7, f8, f9, f10, f11⟩ := (XA.out.on hW).at_; go_simp; (try with_reducible rfl)
  simp only [Act.put, List.setIfInBounds_toArray, List.set_cons_zero, List.set_cons_succ]
  refine tkYes 17 (v := ?_) rfl (by kernel_rfl) (fun _ _ _ h => h) rfl ?_ hS ?_
  rotate_left
  · intro W hW; go_simp; (try with_reducible rfl)
  simp only [Act.put, List.setIfInBounds_toArray, List.set_cons_zero, List.set_cons_succ]
  refine tkYes 18 (v := ?_) rfl (by kernel_rfl) (fun _ _ _ h => h) rfl ?_ hS ?_
  rotate_left
  · intro W hW; go_simp; (try with_reducible rfl)
  simp only [Act.put, List.setIfInBounds_toArray, List.set_cons_zero, List.set_cons_succ]
  refine tkYes 19 (v := ?_) rfl (by kernel_rfl) (fun _ _ _ h => h) rfl ?_ hS ?_
  rotate_left
  · intro W hW; go_simp; (try with_reducible rfl)
  simp only [Act.put, List.setIfInBounds_toArray, List.set_cons_zero, List.set_cons_succ]
  refine tkYes 20 (v := ?_) rfl (by kernel_rfl) (fun _ _ _ h => h) rfl ?_ hS ?_
  rotate_left
  · intro W hW; go_simp; (try with_reducible rfl)
  simp only [Act.put, List.setIfInBounds_toArray, List.set_cons_zero, List.set_cons_succ]
  refine tkYes 21 (v := ?_) rfl (by kernel_rfl) (fun _ _ _ h => h) rfl ?_ hS ?_
  rotate_left
  · intro W hW; go_simp; (try with_reducible rfl)
  simp only [Act.put, List.setIfInBounds_toArray, List.set_cons_zero, List.set_cons_succ]
  refine tkYes 22 (v := ?_) rfl (by kernel_rfl) (fun _ _ _ h => h) rfl ?_ hS ?_
  rotate_left
  · intro W hW; go_simp; (try with_reducible rfl)
  simp only [Act.put, List.setIfInBounds_toArray, List.set_cons_zero, List.set_cons_succ]
  refine tkYes 23 (v := ?_) rfl (by kernel_rfl) (fun _ _ _ h => h) rfl ?_ hS ?_
  rotate_left
  · intro W hW; go_simp; (try with_reducible rfl)
  simp only [Act.put, List.setIfInBounds_toArray, List.set_cons_zero, List.set_cons_succ]
  refine wpAnyH_done (by kernel_rfl) ?_ _
  go_wp2_with fail
  go_ret
  exact ⟨rfl, BA.out.trans (hS.mono BA.out.size)⟩
end Go.Proofs.YtijloajkiannlaaDoor
