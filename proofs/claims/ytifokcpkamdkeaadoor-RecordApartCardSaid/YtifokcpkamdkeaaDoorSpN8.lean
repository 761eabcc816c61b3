/-
  The developers' package spec: what each number may be.
-/
import Derived.Test.YtifokcpkamdkeaaDoorSpN7
import Derived.Test.YtifokcpkamdkeaaDoorRegion
import Derived.Deep.Cut
import Derived.Laws.Tables
import Derived.Laws.CopyOwn
namespace Go.Proofs.YtifokcpkamdkeaaDoor
open Go.RowKit
set_option linter.unusedSimpArgs false
set_option linter.unusedVariables false

/-- The spans of all twelve, in a row of cells. -/
def spc (s : Spc.Sp) : Array Value := ((.int .i64 1) :: (.int .i64 1048576) :: (.bool false) :: (.int .i64 1) :: (.int .i64 16) :: (.bool false) :: (.int .i64 0) :: (.int .i64 (IntKind.i64.wrap (16 - s.d))) :: (.bool false) :: (.int .i64 (if s.u = 0 then 1 else 0)) :: (.int .i64 s.d) :: (.bool false) :: (.int .i64 0) :: (.int .i64 (if s.u < s.d then 1 else 2)) :: (.bool false) :: (.int .i64 (if s.g = 0 then 1 else 0)) :: (.int .i64 (if s.g = 0 then 100 else 0)) :: (.bool false) :: (.int .i64 (slo s.g s.a)) :: (.int .i64 (shi s.g s.a)) :: (.bool (sno s.g s.a)) :: (.int .i64 (slo s.g s.b)) :: (.int .i64 (shi s.g s.b)) :: (.bool (sno s.g s.b)) :: (.int .i64 (slo s.g s.c)) :: (.int .i64 (shi s.g s.c)) :: (.bool (sno s.g s.c)) :: (.int .i64 1) :: (.int .i64 1048576) :: (.bool false) :: (.int .i64 0) :: (.int .i64 1048576) :: (.bool false) :: (.int .i64 1) :: (.int .i64 1048576) :: (.bool false) :: []).toArray
/-- Twelve cells of spans. -/
structure StAt (w : World) (g : Nat) (l0 h0 l1 h1 : Int) (n1 : Bool) (l2 h2 : Int) (n2 : Bool) (l3 h3 : Int) (n3 : Bool) : Prop where
  q0 : w.cell? ⟨g, 0, none⟩ = some (.int .i64 l0)
  q1 : w.cell? ⟨g, 1, none⟩ = some (.int .i64 h0)
  q2 : w.cell? ⟨g, 2, none⟩ = some (.bool false)
  q3 : w.cell? ⟨g, 3, none⟩ = some (.int .i64 l1)
  q4 : w.cell? ⟨g, 4, none⟩ = some (.int .i64 h1)
  q5 : w.cell? ⟨g, 5, none⟩ = some (.bool n1)
  q6 : w.cell? ⟨g, 6, none⟩ = some (.int .i64 l2)
  q7 : w.cell? ⟨g, 7, none⟩ = some (.int .i64 h2)
  q8 : w.cell? ⟨g, 8, none⟩ = some (.bool n2)
  q9 : w.cell? ⟨g, 9, none⟩ = some (.int .i64 l3)
  q10 : w.cell? ⟨g, 10, none⟩ = some (.int .i64 h3)
  q11 : w.cell? ⟨g, 11, none⟩ = some (.bool n3)
theorem stAt_of {w : World} {g : Nat} {l0 h0 l1 h1 l2 h2 l3 h3 : Int} {n1 n2 n3 : Bool} {t : TypeId} {fr : Nat × Nat} (h : w.heap[g]? = some (.cells #[.int .i64 l0, .int .i64 h0, .bool false, .int .i64 l1, .int .i64 h1, .bool n1, .int .i64 l2, .int .i64 h2, .bool n2, .int .i64 l3, .int .i64 h3, .bool n3] t fr)) : StAt w g l0 h0 l1 h1 n1 l2 h2 n2 l3 h3 n3 := by
  constructor <;> (rw [cell_of_row w g _ _ _ _ h]; rfl)
/-- What stays while the spans are made. -/
structure SpS (w : World) (b0 b1 b2 : Nat) (s : Spc.Sp) (T : Array Value) (W : World) : Prop where
  below : Below w.heap.size w W
  box : W.heap[b0]? = some (.cells (Spc.cells s) 24 (0, 0))
  st : W.heap[b2]? = some (.cells T 99 (0, 0))
  res : ∃ cs, W.heap[b1]? = some (.cells cs 89 (0, 0)) ∧ cs.size = 36
theorem SpS.on {w W W' : World} {b0 b1 b2 : Nat} {s : Spc.Sp} {T : Array Value} (h : SpS w b0 b1 b2 s T W) (hb : Below W.heap.size W W') : SpS w b0 b1 b2 s T W' := by
  obtain ⟨cs, hr, hz⟩ := h.res
  exact ⟨h.below.trans (hb.mono h.below.size), (hb.block b0 (Array.getElem?_eq_some_iff.1 h.box).1).trans h.box, (hb.block b2 (Array.getElem?_eq_some_iff.1 h.st).1).trans h.st, cs, (hb.block b1 (Array.getElem?_eq_some_iff.1 hr).1).trans hr, hz⟩
theorem SpS.set {w W : World} {b0 b1 b2 : Nat} {s : Spc.Sp} {T : Array Value} (h : SpS w b0 b1 b2 s T W) (h0 : b0 ≠ b1) (h2 : b2 ≠ b1) (hw : w.heap.size ≤ b1) (C : Array Value) (hC : C.size = 36) : SpS w b0 b1 b2 s T (W.setRow b1 C) ∧ (W.setRow b1 C).heap[b1]? = some (.cells C 89 (0, 0)) := by
  obtain ⟨cs, hr, hz⟩ := h.res
  have hh := setRow_heap W b1 cs C _ _ hr
  exact ⟨⟨below_setRow h.below hw C, (setRow_other W b1 b0 C h0).trans h.box, (setRow_other W b1 b2 C h2).trans h.st, C, hh, hC⟩, hh⟩
set_option maxRecDepth 100000 in
set_option maxHeartbeats 3200000 in
theorem spans_any (s : Spc.Sp) (w : World) : Calls Tryd.prog 63 #[Spc.val s] w (APos w (.agg (spc s))) := by
  have HV : Hid (Spc.val s = .agg #[.int .i64 s.v, .int .i64 s.d, .int .i64 s.u, .int .i64 s.n, .int .i64 s.g, .int .i64 s.a, .int .i64 s.b, .int .i64 s.c, .int .i64 s.e, .int .i64 s.w, .int .i64 s.x, .int .i64 s.k]) := rfl
  have CT : Hid (∀ W, Calls Tryd.prog 71 #[Spc.val s] W (APos W (.agg (stc s)))) := fun W => stepSpans_any s W
  have CL : Hid (∀ W, Calls Tryd.prog 72 #[Spc.val s] W (APos W (.int .i64 (if s.u = 0 then 1 else 0)))) := fun W => least_any s W
  have CA : Hid (∀ W, Calls Tryd.prog 73 #[Spc.val s] W (APos W (.int .i64 (if s.u < s.d then 1 else 2)))) := fun W => last_any s W
  have HQ : Hid (spc s = ((.int .i64 1) :: (.int .i64 1048576) :: (.bool false) :: (.int .i64 1) :: (.int .i64 16) :: (.bool false) :: (.int .i64 0) :: (.int .i64 (IntKind.i64.wrap (16 - s.d))) :: (.bool false) :: (.int .i64 (if s.u = 0 then 1 else 0)) :: (.int .i64 s.d) :: (.bool false) :: (.int .i64 0) :: (.int .i64 (if s.u < s.d then 1 else 2)) :: (.bool false) :: (.int .i64 (if s.g = 0 then 1 else 0)) :: (.int .i64 (if s.g = 0 then 100 else 0)) :: (.bool false) :: (.int .i64 (slo s.g s.a)) :: (.int .i64 (shi s.g s.a)) :: (.bool (sno s.g s.a)) :: (.int .i64 (slo s.g s.b)) :: (.int .i64 (shi s.g s.b)) :: (.bool (sno s.g s.b)) :: (.int .i64 (slo s.g s.c)) :: (.int .i64 (shi s.g s.c)) :: (.bool (sno s.g s.c)) :: (.int .i64 1) :: (.int .i64 1048576) :: (.bool false) :: (.int .i64 0) :: (.int .i64 1048576) :: (.bool false) :: (.int .i64 1) :: (.int .i64 1048576) :: (.bool false) :: []).toArray) := rfl
  unfold stc at CT
  obtain ⟨l0, hl0⟩ : ∃ l0 : Int, l0 = (if s.g = 0 then 1 else 0) := ⟨_, rfl⟩
  rw [← hl0] at CT HQ
  clear hl0
  obtain ⟨h0, hh0⟩ : ∃ h0 : Int, h0 = (if s.g = 0 then 100 else 0) := ⟨_, rfl⟩
  rw [← hh0] at CT HQ
  clear hh0
  obtain ⟨l1, hl1⟩ : ∃ l1 : Int, l1 = (slo s.g s.a) := ⟨_, rfl⟩
  rw [← hl1] at CT HQ
  clear hl1
  obtain ⟨h1, hh1⟩ : ∃ h1 : Int, h1 = (shi s.g s.a) := ⟨_, rfl⟩
  rw [← hh1] at CT HQ
  clear hh1
  obtain ⟨n1, hn1⟩ : ∃ n1 : Bool, n1 = (sno s.g s.a) := ⟨_, rfl⟩
  rw [← hn1] at CT HQ
  clear hn1
  obtain ⟨l2, hl2⟩ : ∃ l2 : Int, l2 = (slo s.g s.b) := ⟨_, rfl⟩
  rw [← hl2] at CT HQ
  clear hl2
  obtain ⟨h2, hh2⟩ : ∃ h2 : Int, h2 = (shi s.g s.b) := ⟨_, rfl⟩
  rw [← hh2] at CT HQ
  clear hh2
  obtain ⟨n2, hn2⟩ : ∃ n2 : Bool, n2 = (sno s.g s.b) := ⟨_, rfl⟩
  rw [← hn2] at CT HQ
  clear hn2
  obtain ⟨l3, hl3⟩ : ∃ l3 : Int, l3 = (slo s.g s.c) := ⟨_, rfl⟩
  rw [← hl3] at CT HQ
  clear hl3
  obtain ⟨h3, hh3⟩ : ∃ h3 : Int, h3 = (shi s.g s.c) := ⟨_, rfl⟩
  rw [← hh3] at CT HQ
  clear hh3
  obtain ⟨n3, hn3⟩ : ∃ n3 : Bool, n3 = (sno s.g s.c) := ⟨_, rfl⟩
  rw [← hn3] at CT HQ
  clear hn3
  obtain ⟨le, hle⟩ : ∃ le : Int, le = (if s.u = 0 then 1 else 0) := ⟨_, rfl⟩
  rw [← hle] at CL HQ
  obtain ⟨la, hla⟩ : ∃ la : Int, la = (if s.u < s.d then 1 else 2) := ⟨_, rfl⟩
  rw [← hla] at CA HQ
  clear hle hla
  rw [HQ.out]
  rw [HV.out] at CT CL CA ⊢
  have K1 := Lib.hid (heap_alloc_new w (.cells (Spc.cells s) 24))
  have B1 := Lib.hid ((Below.refl w.heap.size w).alloc (Nat.le_refl _) (.cells (Spc.cells s) 24))
  have hz : (w.alloc (.cells (Spc.cells s) 24)).heap.size = w.heap.size + 1 := by simp
  obtain ⟨b0, hb0⟩ : ∃ b0, b0 = w.heap.size := ⟨_, rfl⟩
  obtain ⟨b1, hb1⟩ : ∃ b1, b1 = b0 + 1 := ⟨_, rfl⟩
  rw [← hb0, ← hb1] at hz
  rw [← hb0] at K1
  have HB0 := Lib.hid hb0
  have HB1 := Lib.hid hb1
  have HZ := Lib.hid hz
  clear hb0 hb1 hz HQ HV
  go_enter Tryd.func63, Tryd.ntmps63
  go_wp2_with fail
  rw [← HB0.out, ← HB1.out]
  have EQ : #[.int .i64 s.v, .int .i64 s.d, .int .i64 s.u, .int .i64 s.n, .int .i64 s.g, .int .i64 s.a, .int .i64 s.b, .int .i64 s.c, .int .i64 s.e, .int .i64 s.w, .int .i64 s.x, .int .i64 s.k] = Spc.cells s := rfl
  rw [EQ]
  generalize w.alloc (.cells (Spc.cells s) 24) = w1 at *
  have K2 := Lib.hid (heap_alloc_new w1 (.cells ((.int .i64 0) :: (.int .i64 0) :: (.bool false) :: (.int .i64 0) :: (.int .i64 0) :: (.bool false) :: (.int .i64 0) :: (.int .i64 0) :: (.bool false) :: (.int .i64 0) :: (.int .i64 0) :: (.bool false) :: (.int .i64 0) :: (.int .i64 0) :: (.bool false) :: (.int .i64 0) :: (.int .i64 0) :: (.bool false) :: (.int .i64 0) :: (.int .i64 0) :: (.bool false) :: (.int .i64 0) :: (.int .i64 0) :: (.bool false) :: (.int .i64 0) :: (.int .i64 0) :: (.bool false) :: (.int .i64 0) :: (.int .i64 0) :: (.bool false) :: (.int .i64 0) :: (.int .i64 0) :: (.bool false) :: (.int .i64 0) :: (.int .i64 0) :: (.bool false) :: []).toArray 89))
  have B2 := Lib.hid ((Below.refl w1.heap.size w1).alloc (Nat.le_refl _) (.cells ((.int .i64 0) :: (.int .i64 0) :: (.bool false) :: (.int .i64 0) :: (.int .i64 0) :: (.bool false) :: (.int .i64 0) :: (.int .i64 0) :: (.bool false) :: (.int .i64 0) :: (.int .i64 0) :: (.bool false) :: (.int .i64 0) :: (.int .i64 0) :: (.bool false) :: (.int .i64 0) :: (.int .i64 0) :: (.bool false) :: (.int .i64 0) :: (.int .i64 0) :: (.bool false) :: (.int .i64 0) :: (.int .i64 0) :: (.bool false) :: (.int .i64 0) :: (.int .i64 0) :: (.bool false) :: (.int .i64 0) :: (.int .i64 0) :: (.bool false) :: (.int .i64 0) :: (.int .i64 0) :: (.bool false) :: (.int .i64 0) :: (.int .i64 0) :: (.bool false) :: []).toArray 89))
  rw [HZ.out] at K2
  generalize w1.alloc (.cells ((.int .i64 0) :: (.int .i64 0) :: (.bool false) :: (.int .i64 0) :: (.int .i64 0) :: (.bool false) :: (.int .i64 0) :: (.int .i64 0) :: (.bool false) :: (.int .i64 0) :: (.int .i64 0) :: (.bool false) :: (.int .i64 0) :: (.int .i64 0) :: (.bool false) :: (.int .i64 0) :: (.int .i64 0) :: (.bool false) :: (.int .i64 0) :: (.int .i64 0) :: (.bool false) :: (.int .i64 0) :: (.int .i64 0) :: (.bool false) :: (.int .i64 0) :: (.int .i64 0) :: (.bool false) :: (.int .i64 0) :: (.int .i64 0) :: (.bool false) :: (.int .i64 0) :: (.int .i64 0) :: (.bool false) :: (.int .i64 0) :: (.int .i64 0) :: (.bool false) :: []).toArray 89) = w2 at *
  rw [← EQ]
  refine (CT.out w2).mono ?_
  rintro e w3 ⟨rfl, hb3⟩
  have L0 := (Array.getElem?_eq_some_iff.1 K1.out).1
  have L1 := (Array.getElem?_eq_some_iff.1 K2.out).1
  have k1 := (hb3.block b0 (Nat.lt_of_lt_of_le L0 B2.out.size)).trans ((B2.out.block b0 L0).trans K1.out)
  have k2 := (hb3.block b1 L1).trans K2.out
  have b3 := B1.out.trans ((B2.out.mono B1.out.size).trans (hb3.mono (Nat.le_trans B1.out.size B2.out.size)))
  have hz3 : b1 < w3.heap.size := (Array.getElem?_eq_some_iff.1 k2).1
  have K3 := Lib.hid k1
  have K4 := Lib.hid k2
  have B3 := Lib.hid b3
  have Z3 := Lib.hid hz3
  clear K1 K2 B1 B2 hb3 L0 L1 k1 k2 b3 hz3 HZ CT EQ
  have X4 : Hid (SpS w b0 b1 w3.heap.size s #[.int .i64 l0, .int .i64 h0, .bool false, .int .i64 l1, .int .i64 h1, .bool n1, .int .i64 l2, .int .i64 h2, .bool n2, .int .i64 l3, .int .i64 h3, .bool n3] (w3.alloc (.cells #[.int .i64 l0, .int .i64 h0, .bool false, .int .i64 l1, .int .i64 h1, .bool n1, .int .i64 l2, .int .i64 h2, .bool n2, .int .i64 l3, .int .i64 h3, .bool n3] 99))) := by
    have hb4 := (Below.refl w3.heap.size w3).alloc (Nat.le_refl _) (.cells #[.int .i64 l0, .int .i64 h0, .bool false, .int .i64 l1, .int .i64 h1, .bool n1, .int .i64 l2, .int .i64 h2, .bool n2, .int .i64 l3, .int .i64 h3, .bool n3] 99)
    exact ⟨B3.out.trans (hb4.mono B3.out.size), (hb4.block b0 (Array.getElem?_eq_some_iff.1 K3.out).1).trans K3.out, heap_alloc_new w3 _, _, (hb4.block b1 Z3.out).trans K4.out, rfl⟩
  obtain ⟨b2, hb2⟩ : ∃ b2, b2 = w3.heap.size := ⟨_, rfl⟩
  rw [← hb2] at X4
  have HB2 := Lib.hid hb2
  clear hb2 K3 K4 B3
  obtain ⟨f0, f1, f2, f3, f4, f5, f6, f7, f8, f9, f10, f11⟩ := spAt_of X4.out.box
  go_upto_region 2 with fail
  rw [← HB2.out]
  generalize w3.alloc (.cells #[.int .i64 l0, .int .i64 h0, .bool false, .int .i64 l1, .int .i64 h1, .bool n1, .int .i64 l2, .int .i64 h2, .bool n2, .int .i64 l3, .int .i64 h3, .bool n3] 99) = w4 at *
  clear f0 f1 f2 f3 f4 f5 f6 f7 f8 f9 f10 f11
  refine wp_region_held_drew (S := fun W => SpS w b0 b1 b2 s #[.int .i64 l0, .int .i64 h0, .bool false, .int .i64 l1, .int .i64 h1, .bool n1, .int .i64 l2, .int .i64 h2, .bool n2, .int .i64 l3, .int .i64 h3, .bool n3] W) (by kernel_rfl) (X4.out.on (Below.refl _ _).drew) (fun hS => ?_)
  refine tkYes 0 (v := ?_) rfl (by kernel_rfl) (fun _ _ _ h => h) rfl ?_ hS ?_
  rotate_left
  · intro W hW; go_simp; (try with_reducible rfl)
  simp only [Act.put, List.setIfInBounds_toArray, List.set_cons_zero, List.set_cons_succ]
  refine tkYes 1 (v := ?_) rfl (by kernel_rfl) (fun _ _ _ h => h) rfl ?_ hS ?_
  rotate_left
  · intro W hW; go_simp; (try with_reducible rfl)
  simp only [Act.put, List.setIfInBounds_toArray, List.set_cons_zero, List.set_cons_succ]
  refine tkYes 2 (v := ?_) rfl (by kernel_rfl) (fun _ _ _ h => h) rfl ?_ hS ?_
  rotate_left
  · intro W hW; go_simp; (try with_reducible rfl)
  simp only [Act.put, List.setIfInBounds_toArray, List.set_cons_zero, List.set_cons_succ]
  refine tkYes 3 (v := ?_) rfl (by kernel_rfl) (fun _ _ _ h => h) rfl ?_ hS ?_
  rotate_left
  · intro W hW; obtain ⟨f0, f1, f2, f3, f4, f5, f6, f7, f8, f9, f10, f11⟩ := spAt_of hW.box; obtain ⟨q0, q1, q2, q3, q4, q5, q6, q7, q8, q9, q10, q11⟩ := stAt_of hW.st; go_simp; (try with_reducible rfl)
  simp only [Act.put, List.setIfInBounds_toArray, List.set_cons_zero, List.set_cons_succ]
  refine tkYes 4 (v := ?_) rfl (by kernel_rfl) (fun _ _ _ h => h) rfl ?_ hS ?_
  rotate_left
  · intro W hW; go_simp; (try with_reducible rfl)
  simp only [Act.put, List.setIfInBounds_toArray, List.set_cons_zero, List.set_cons_succ]
  refine tkYes 5 (v := ?_) rfl (by kernel_rfl) (fun _ _ _ h => h) rfl ?_ hS ?_
  rotate_left
  · intro W hW; go_simp; (try with_reducible rfl)
  simp only [Act.put, List.setIfInBounds_toArray, List.set_cons_zero, List.set_cons_succ]
  refine tkYes 6 (v := ?_) rfl (by kernel_rfl) (fun _ _ _ h => h) rfl ?_ hS ?_
  rotate_left
  · intro W hW; obtain ⟨f0, f1, f2, f3, f4, f5, f6, f7, f8, f9, f10, f11⟩ := spAt_of hW.box; obtain ⟨q0, q1, q2, q3, q4, q5, q6, q7, q8, q9, q10, q11⟩ := stAt_of hW.st; go_simp; (try with_reducible rfl)
  simp only [Act.put, List.setIfInBounds_toArray, List.set_cons_zero, List.set_cons_succ]
  refine tkYes 8 (v := ?_) rfl (by kernel_rfl) (fun _ _ _ h => h) rfl ?_ hS ?_
  rotate_left
  · intro W hW; go_simp; (try with_reducible rfl)
  simp only [Act.put, List.setIfInBounds_toArray, List.set_cons_zero, List.set_cons_succ]
  refine tkYes 9 (v := ?_) rfl (by kernel_rfl) (fun _ _ _ h => h) rfl ?_ hS ?_
  rotate_left
  · intro W hW; obtain ⟨f0, f1, f2, f3, f4, f5, f6, f7, f8, f9, f10, f11⟩ := spAt_of hW.box; obtain ⟨q0, q1, q2, q3, q4, q5, q6, q7, q8, q9, q10, q11⟩ := stAt_of hW.st; go_simp; (try with_reducible rfl)
  simp only [Act.put, List.setIfInBounds_toArray, List.set_cons_zero, List.set_cons_succ]
  refine tkYes 11 (v := ?_) rfl (by kernel_rfl) (fun _ _ _ h => h) rfl ?_ hS ?_
  rotate_left
  · intro W hW; obtain ⟨f0, f1, f2, f3, f4, f5, f6, f7, f8, f9, f10, f11⟩ := spAt_of hW.box; obtain ⟨q0, q1, q2, q3, q4, q5, q6, q7, q8, q9, q10, q11⟩ := stAt_of hW.st; go_simp; (try with_reducible rfl)
  simp only [Act.put, List.setIfInBounds_toArray, List.set_cons_zero, List.set_cons_succ]
  refine tkYes 14 (v := ?_) rfl (by kernel_rfl) (fun _ _ _ h => h) rfl ?_ hS ?_
  rotate_left
  · intro W hW; go_simp; (try with_reducible rfl)
  simp only [Act.put, List.setIfInBounds_toArray, List.set_cons_zero, List.set_cons_succ]
  refine tkYes 15 (v := ?_) rfl (by kernel_rfl) (fun _ _ _ h => h) rfl ?_ hS ?_
  rotate_left
  · intro W hW; obtain ⟨f0, f1, f2, f3, f4, f5, f6, f7, f8, f9, f10, f11⟩ := spAt_of hW.box; obtain ⟨q0, q1, q2, q3, q4, q5, q6, q7, q8, q9, q10, q11⟩ := stAt_of hW.st; go_simp; (try with_reducible rfl)
  simp only [Act.put, List.setIfInBounds_toArray, List.set_cons_zero, List.set_cons_succ]
  refine tkYes 16 (v := ?_) rfl (by kernel_rfl) (fun _ _ _ h => h) rfl ?_ hS ?_
  rotate_left
  · intro W hW; go_simp; (try with_reducible rfl)
  simp only [Act.put, List.setIfInBounds_toArray, List.set_cons_zero, List.set_cons_succ]
  refine tkYes 17 (v := ?_) rfl (by kernel_rfl) (fun _ _ _ h => h) rfl ?_ hS ?_
  rotate_left
  · intro W hW; obtain ⟨f0, f1, f2, f3, f4, f5, f6, f7, f8, f9, f10, f11⟩ := spAt_of hW.box; obtain ⟨q0, q1, q2, q3, q4, q5, q6, q7, q8, q9, q10, q11⟩ := stAt_of hW.st; go_simp; (try with_reducible rfl)
  simp only [Act.put, List.setIfInBounds_toArray, List.set_cons_zero, List.set_cons_succ]
  refine tkYes 18 (v := ?_) rfl (by kernel_rfl) (fun _ _ _ h => h) rfl ?_ hS ?_
  rotate_left
  · intro W hW; go_simp; (try with_reducible rfl)
  simp only [Act.put, List.setIfInBounds_toArray, List.set_cons_zero, List.set_cons_succ]
  refine tkYes 19 (v := ?_) rfl (by kernel_rfl) (fun _ _ _ h => h) rfl ?_ hS ?_
  rotate_left
  · intro W hW; obtain ⟨f0, f1, f2, f3, f4, f5, f6, f7, f8, f9, f10, f11⟩ := spAt_of hW.box; obtain ⟨q0, q1, q2, q3, q4, q5, q6, q7, q8, q9, q10, q11⟩ := stAt_of hW.st; go_simp; (try with_reducible rfl)
  simp only [Act.put, List.setIfInBounds_toArray, List.set_cons_zero, List.set_cons_succ]
  refine tkYes 20 (v := ?_) rfl (by kernel_rfl) (fun _ _ _ h => h) rfl ?_ hS ?_
  rotate_left
  · intro W hW; go_simp; (try with_reducible rfl)
  simp only [Act.put, List.setIfInBounds_toArray, List.set_cons_zero, List.set_cons_succ]
  refine tkYes 21 (v := ?_) rfl (by kernel_rfl) (fun _ _ _ h => h) rfl ?_ hS ?_
  rotate_left
  · intro W hW; obtain ⟨f0, f1, f2, f3, f4, f5, f6, f7, f8, f9, f10, f11⟩ := spAt_of hW.box; obtain ⟨q0, q1, q2, q3, q4, q5, q6, q7, q8, q9, q10, q11⟩ := stAt_of hW.st; go_simp; (try with_reducible rfl)
  simp only [Act.put, List.setIfInBounds_toArray, List.set_cons_zero, List.set_cons_succ]
  refine tkYes 22 (v := ?_) rfl (by kernel_rfl) (fun _ _ _ h => h) rfl ?_ hS ?_
  rotate_left
  · intro W hW; go_simp; (try with_reducible rfl)
  simp only [Act.put, List.setIfInBounds_toArray, List.set_cons_zero, List.set_cons_succ]
  refine tkYes 23 (v := ?_) rfl (by kernel_rfl) (fun _ _ _ h => h) rfl ?_ hS ?_
  rotate_left
  · intro W hW; go_simp; (try with_reducible rfl)
  simp only [Act.put, List.setIfInBounds_toArray, List.set_cons_zero, List.set_cons_succ]
  refine tkYes 24 (v := ?_) rfl (by kernel_rfl) (fun _ _ _ h => h) rfl ?_ hS ?_
  rotate_left
  · intro W hW; go_simp; (try with_reducible rfl)
  simp only [Act.put, List.setIfInBounds_toArray, List.set_cons_zero, List.set_cons_succ]
  refine rnOne 7 rfl (by kernel_rfl) rfl (fun K hK => ?_)
  go_simp
  with_reducible refine (CL.out _).mono ?_
  rintro e W ⟨rfl, hW⟩
  have hS2 := hS.on hW
  clear hS hW
  have hS := hS2
  clear hS2
  refine hK.out _ _ hS (fun _ => ?_)
  clear hK K
  try simp only [Act.put, List.setIfInBounds_toArray, List.set_cons_zero, List.set_cons_succ]
  refine tkYes 10 (v := ?_) rfl (by kernel_rfl) (fun _ _ _ h => h) rfl ?_ hS ?_
  rotate_left
  · intro W hW; go_simp; (try with_reducible rfl)
  simp only [Act.put, List.setIfInBounds_toArray, List.set_cons_zero, List.set_cons_succ]
  refine rnOne 12 rfl (by kernel_rfl) rfl (fun K hK => ?_)
  go_simp
  with_reducible refine (CA.out _).mono ?_
  rintro e W ⟨rfl, hW⟩
  have hS2 := hS.on hW
  clear hS hW
  have hS := hS2
  clear hS2
  refine hK.out _ _ hS (fun _ => ?_)
  clear hK K
  try simp only [Act.put, List.setIfInBounds_toArray, List.set_cons_zero, List.set_cons_succ]
  refine tkYes 13 (v := ?_) rfl (by kernel_rfl) (fun _ _ _ h => h) rfl ?_ hS ?_
  rotate_left
  · intro W hW; go_simp; (try with_reducible rfl)
  simp only [Act.put, List.setIfInBounds_toArray, List.set_cons_zero, List.set_cons_succ]
  refine tkYes 25 (v := ?_) rfl (by kernel_rfl) (fun _ _ _ h => h) rfl ?_ hS ?_
  rotate_left
  · intro W hW; go_simp; (try with_reducible rfl)
  simp only [Act.put, List.setIfInBounds_toArray, List.set_cons_zero, List.set_cons_succ]
  refine rnOne 26 rfl (by kernel_rfl) rfl (fun K hK => ?_)
  obtain ⟨cs, hcs, hcz⟩ := hS.res
  refine wp_store_row (cells := ((.int .i64 1) :: (.int .i64 1048576) :: (.bool false) :: (.int .i64 1) :: (.int .i64 16) :: (.bool false) :: (.int .i64 0) :: (.int .i64 (IntKind.i64.wrap (16 - s.d))) :: (.bool false) :: (.int .i64 le) :: (.int .i64 s.d) :: (.bool false) :: (.int .i64 0) :: (.int .i64 la) :: (.bool false) :: (.int .i64 l0) :: (.int .i64 h0) :: (.bool false) :: (.int .i64 l1) :: (.int .i64 h1) :: (.bool n1) :: (.int .i64 l2) :: (.int .i64 h2) :: (.bool n2) :: (.int .i64 l3) :: (.int .i64 h3) :: (.bool n3) :: (.int .i64 1) :: (.int .i64 1048576) :: (.bool false) :: (.int .i64 0) :: (.int .i64 1048576) :: (.bool false) :: (.int .i64 1) :: (.int .i64 1048576) :: (.bool false) :: []).toArray) 89 (.tmp 2) (.tmp 31) rfl b1 rfl rfl 89 cs hcs (by kernel_rfl) (by rw [hcz]; rfl) (by simp [Value.oneCell']) ?_
  obtain ⟨hS2, hR⟩ := hS.set (by have := HB1.out; omega) (by have := HB2.out; have := Z3.out; omega) (by have := HB0.out; have := HB1.out; omega) ((.int .i64 1) :: (.int .i64 1048576) :: (.bool false) :: (.int .i64 1) :: (.int .i64 16) :: (.bool false) :: (.int .i64 0) :: (.int .i64 (IntKind.i64.wrap (16 - s.d))) :: (.bool false) :: (.int .i64 le) :: (.int .i64 s.d) :: (.bool false) :: (.int .i64 0) :: (.int .i64 la) :: (.bool false) :: (.int .i64 l0) :: (.int .i64 h0) :: (.bool false) :: (.int .i64 l1) :: (.int .i64 h1) :: (.bool n1) :: (.int .i64 l2) :: (.int .i64 h2) :: (.bool n2) :: (.int .i64 l3) :: (.int .i64 h3) :: (.bool n3) :: (.int .i64 1) :: (.int .i64 1048576) :: (.bool false) :: (.int .i64 0) :: (.int .i64 1048576) :: (.bool false) :: (.int .i64 1) :: (.int .i64 1048576) :: (.bool false) :: []).toArray rfl
  have HR := Lib.hid hR
  clear hS hR hcs hcz
  have hS := hS2
  clear hS2
  refine hK.out _ _ hS (fun _ => ?_)
  clear hK K
  try simp only [Act.put, List.setIfInBounds_toArray, List.set_cons_zero, List.set_cons_succ]
  refine wpAnyH_done (by kernel_rfl) ?_ _
  go_wp2_with fail
  exact bodyPost_ret (results_cell_row Tryd.results63 _ _ b1 _ _ _ _ rfl HR.out Tryd.underlying89 rfl (by kernel_rfl)) rfl ⟨rfl, hS.below⟩
end Go.Proofs.YtifokcpkamdkeaaDoor
